/-
  For every text s and every number most, cracknellaw03.WireTakesText(s, most) returns true and leaves them as they were. Conditions: none beyond the form's own (a string that is read takes at most 2^47 - 4096 bytes).
-/
import Derived.Test.YtdgnjhnbldbnhaaWireFacts
import Derived.Test.YtdgnjhnbldbnhaaBaseDraw
import Derived.ProofKit
import Derived.OpenShut
import Derived.ShutString
import Derived.ChangeOld
import Derived.SizedLaws
namespace Go.Proofs.Ytdgnjhnbldbnhaa.wireTakesText
open Go.ChangeShapes Go.WideShapes Go.ChangeAt Go.RowKit
open Go.ChangeMaps (open_string shut_string)
set_option linter.unusedVariables false

theorem own : ownKnob Try.prog.godebug = none := by kernel_rfl

theorem tt_back (s : ByteArray) (most : Int) (t : ByteArray) (k : Nat) (h : tt s most = (t, k, 0)) : k ≤ s.size ∧ t.size ≤ s.size ∧ putB t.size ++ t = s.extract 0 k := by
  obtain ⟨n, m, e, ht⟩ : ∃ n m e, takeB s = (n, m, e) := ⟨_, _, _, rfl⟩
  by_cases he : e ≠ 0
  · rw [tt_err s most n m e ht he] at h
    exact absurd (Prod.mk.inj (Prod.mk.inj h).2).2 he
  · have e0 : e = 0 := by omega
    subst e0
    obtain ⟨b1, b2, b3, b4, b5⟩ := take_ok s n m ht
    by_cases hl : most.toNat < n
    · rw [tt_long s most n m ht hl] at h
      cases h
    · by_cases hz : s.size < m + n
      · rw [tt_short s most n m ht (by omega) hz] at h
        cases h
      · rw [tt_ok s most n m ht (by omega) (by omega)] at h
        have e1 := (Prod.mk.inj h).1
        have e2 := (Prod.mk.inj (Prod.mk.inj h).2).1
        subst e1 e2
        have hsz : (s.extract m (m + n)).size = n := by rw [ByteArray.size_extract]; omega
        refine ⟨by omega, by omega, ?_⟩
        rw [hsz]
        apply ba_ext
        rw [app_list, putB_list, extract_list, extract_list, ← b5, List.drop_zero]
        rw [show m + n - m = n by omega, show m + n - 0 = m + n by omega, List.take_add]

set_option maxRecDepth 100000 in
set_option maxHeartbeats 1600000 in
theorem walk (a0 : ByteArray) (a1 : Int) (w0 : a0.size ≤ 140737488351232) (w1 : (Lit.int .i64 a1).wf = true) (w : World) :
    Calls Try.prog 7 #[.string a0, .int .i64 a1] w fun e w' => e = .returned (.bool true) ∧ Below w.heap.size w w' := by
  obtain ⟨l1, u1⟩ := bounds_i64 w1
  clear w1
  have hm : a0.size ≤ 1000000000000000 := by omega
  obtain ⟨t, k, e, ht⟩ : ∃ t k e, tt a0 a1 = (t, k, e) := ⟨_, _, _, rfl⟩
  have HT := Lib.hid ht
  by_cases he : e ≠ 0
  · have d1 : ((e : Int) == 0) = false := by rw [beq_eq_false_iff_ne]; omega
    have d2 : ((e : Int) != 0) = true := by rw [bne, d1]; rfl
    clear ht he
    go_enter Try.func7, Try.ntmps7
    go_wp2_with fail
    refine (at_tt _ hm l1 u1 HT.out).mono ?_
    rintro _ w1 ⟨rfl, rfl⟩
    go_wp2_with fail
    refine (at_rtt _ hm l1 u1 HT.out).mono ?_
    rintro _ w1 ⟨rfl, rfl⟩
    clear HT
    go_wp2_with fail
    refine wp_region_below (g := w.heap.size) (w0 := w) (by kernel_rfl) (by kernel_rfl) (Below.refl _ _) (fun hex => ?_)
    repeat (go_big_quiet_step (first
      | (intro _; rfl)
      | (intro hq; go_at_call 12; refine (alive_any _).mono ?_; rintro _ w1 ⟨rfl, hb1⟩; exact ⟨rfl, chain hq hb1⟩)))
    refine wpQuiet_nil ?_
    intro w1 hb1
    go_wp2
    go_ret
    exact ⟨rfl, hb1⟩
  · have e0 : e = 0 := by omega
    subst e0
    obtain ⟨b1, b2, b3⟩ := tt_back a0 a1 t k ht
    have HP := Lib.hid b3
    have hts : t.size ≤ 140737488351232 := by omega
    clear ht he b3
    have g1 : (k : Int) ≤ (a0.size : Int) := by omega
    go_enter Try.func7, Try.ntmps7
    go_wp2_with fail
    refine (at_tt _ hm l1 u1 HT.out).mono ?_
    rintro _ w1 ⟨rfl, rfl⟩
    go_wp2_with fail
    refine (at_rtt _ hm l1 u1 HT.out).mono ?_
    rintro _ w1 ⟨rfl, rfl⟩
    clear HT
    go_wp2_with fail
    refine wp_region_below (g := w.heap.size) (w0 := w) (by kernel_rfl) (by kernel_rfl) (Below.refl _ _) (fun hex => ?_)
    repeat (go_big_quiet_step (first
      | (intro _; rfl)
      | (intro hq; go_at_call 12; refine (alive_any _).mono ?_; rintro _ w1 ⟨rfl, hb1⟩; exact ⟨rfl, chain hq hb1⟩)
      | (intro hq; go_at_call 19; refine (puttext_any t _ hts).mono ?_; rintro _ w1 ⟨rfl, hb1⟩; exact ⟨by rw [HP.out], chain hq hb1⟩)))
    refine wpQuiet_nil ?_
    intro w1 hb1
    go_wp2
    go_ret
    exact ⟨rfl, hb1⟩

set_option maxRecDepth 100000 in
theorem lifted (os : Os) (started : os.Started) (H : Type) (enc : TypeId × Value → H) :
    ReturnsInHanded {} Try.checked os 7 .any (Rows.wireTakesTextSpec.pre6 enc Try.prog Try.f7 Rows.wireTakesTextRow.domain false) (Rows.wireTakesTextSpec.post enc Try.prog Try.f7 false true false false) := by
  refine returnsInHanded_of_change_sized (C := Try.checked) own started (by kernel_rfl) Try.func7
    (ChangeSpec.witness6 (enc := enc) (C := Try.checked) false ⟨#[], #[.string ByteArray.empty, .int .i64 0], []⟩ 8 (by kernel_rfl) (by kernel_rfl) (by kernel_rfl) (by kernel_rfl)) ?_
  intro W base args ds gs before hval0 hW hcnd hsz0 _
  have hval : ∀ (j : Nat) t v, Try.f7.params[j]? = some t → args[j]? = some v → Value.okWide Try.prog W .any base t v := hval0
  have hsz : (DataW.weightsEach Try.prog (Try.f7.params.toList ++ Rows.wireTakesTextSpec.plain.varTypes Try.prog) (ds ++ gs)).all (· ≤ reachBytes) = true := hsz0
  have hW' := hW
  obtain ⟨p, q, hA0, hV, rfl, hfz, hnd⟩ := hW
  have hA : DataW.TrodAll enc Try.prog W 0 (fun _ => true) true Try.f7.params.toList args.toList ds p := hA0
  rw [Try.params7] at hA hval hsz
  obtain ⟨v0, vs0, d0, ds0, p0, q0, hargs, rfl, rfl, h0, r0⟩ := trodAll_cons hA
  obtain ⟨v1, vs1, d1, ds1, p1, q1, rfl, rfl, rfl, h1, r1⟩ := trodAll_cons r0
  obtain ⟨rfl, rfl, rfl⟩ := trodAll_nil r1
  obtain rfl : args = #[v0, v1] := by cases args; simp_all
  obtain ⟨rfl, rfl⟩ := trodVars_none hV
  obtain ⟨a0, rfl, rfl, rfl, m0⟩ := open_string Try.underlying9 (hval 0 9 v0 rfl rfl) h0
  obtain ⟨a1, rfl, rfl, rfl, w1⟩ := open_int Try.underlying3 (hval 1 3 v1 rfl rfl) h1
  have w0 : a0.size ≤ 140737488351232 := by
    have h := sized_string hsz (j := 0) (t := 9) rfl rfl
    have e : a0.data.toList.length = a0.size := by simp
    unfold reachBytes at h
    omega
  clear hA0 hval0 hsz hsz0
  refine (walk a0 a1 w0 w1 W).mono fun e W' ⟨he, bel⟩ => ?_
  subst he
  exact ⟨_, rfl, _, _, _, [], _, [], hW', trodAll_mk1 (shut_bool Try.underlying4 _), (trodAll_cons_mk (shut_string Try.underlying9 m0) (trodAll_cons_mk (shut_int Try.underlying3 w1) trodAll_mk0)), rfl, bel.frame _, fun h => by cases h⟩

theorem over : Rows.wireTakesTextRow.holds Try.pinned (OpenSpec.ofChange Rows.wireTakesTextSpec) :=
  OpenClaim.holds_of_wide 7 Try.f7 rfl rfl rfl rfl rfl rfl rfl ⟨rfl, rfl, rfl, rfl, rfl⟩ rfl rfl rfl rfl rfl (by kernel_rfl) Try.func7 (by kernel_rfl)
    (of_decide_eq_true (by kernel_rfl)) (by unfold Func.isWrapper; first | (rw [if_pos (by decide +kernel)]; kernel_rfl) | (rw [if_neg (by decide +kernel)]; exact ⟨rfl, rfl⟩))
    (fun os started H enc _ => lifted os started H enc)

end Go.Proofs.Ytdgnjhnbldbnhaa.wireTakesText
namespace Go.Proofs.Ytdgnjhnbldbnhaa
/-- The statement. -/
theorem wireTakesText_proved : Rows.WireTakesTextSaid := wireTakesText.over
end Go.Proofs.Ytdgnjhnbldbnhaa
