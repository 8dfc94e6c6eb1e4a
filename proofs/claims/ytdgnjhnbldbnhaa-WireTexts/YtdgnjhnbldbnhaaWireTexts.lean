/-
  For all texts t and behind and every number most, cracknellaw03.WireTexts(t, most, behind) returns true and leaves them as they were. Conditions: none beyond the form's own (a string that is read takes at most 2^47 - 4096 bytes).
-/
import Derived.Test.YtdgnjhnbldbnhaaWireFacts
import Derived.ProofKit
import Derived.OpenShut
import Derived.ShutString
import Derived.ChangeOld
import Derived.SizedLaws
namespace Go.Proofs.Ytdgnjhnbldbnhaa.wireTexts
open Go.ChangeShapes Go.WideShapes Go.ChangeAt Go.RowKit
open Go.ChangeMaps (open_string shut_string)
set_option linter.unusedVariables false

theorem own : ownKnob Try.prog.godebug = none := by kernel_rfl

set_option maxRecDepth 100000 in
set_option maxHeartbeats 1600000 in
theorem walk (a0 : ByteArray) (a1 : Int) (a2 : ByteArray) (w0 : a0.size ≤ 140737488351232) (w1 : (Lit.int .i64 a1).wf = true) (w2 : a2.size ≤ 140737488351232) (w : World) :
    Calls Try.prog 6 #[.string a0, .int .i64 a1, .string a2] w fun e w' => e = .returned (.bool true) ∧ Below w.heap.size w w' := by
  obtain ⟨l1, u1⟩ := bounds_i64 w1
  clear w1
  have hz := (putB_size a0.size).2
  have hs1 : (putB a0.size ++ a0).size ≤ 140737488351242 := by rw [ByteArray.size_append]; omega
  have hss : (putB a0.size ++ a0).size + a2.size ≤ 9223372036854775807 := by omega
  have hsz : (putB a0.size ++ a0 ++ a2).size ≤ 1000000000000000 := by rw [ByteArray.size_append]; omega
  by_cases hl : a1.toNat < a0.size
  · have HT := Lib.hid (tt_text_long a0 a2 a1 (by omega) hl)
    go_enter Try.func6, Try.ntmps6
    go_wp2_with fail
    refine (puttext_any a0 _ w0).mono ?_
    rintro _ w1 ⟨rfl, hb1⟩
    go_wp2_with fail
    with_reducible refine (at_tt (s := putB a0.size ++ a0 ++ a2) _ hsz l1 u1 HT.out).mono ?_
    rintro _ w2 ⟨rfl, rfl⟩
    clear HT hsz hss
    go_wp2_with fail
    refine (rputtext_any a0 _ w0).mono ?_
    rintro _ w2 ⟨rfl, hb⟩
    have hb2 := chain hb1 hb
    clear hb hb1
    by_cases hm : a1 < 0
    all_goals
      have h1 : a1 < (a0.size : Int) := by omega
      have h2 : 0 < (a0.size : Int) := by omega
      clear hl
      go_wp2_with fail
      refine (alive_any _).mono ?_
      rintro _ w1 ⟨rfl, hb⟩
      have hb1 := chain hb2 hb
      clear hb hb2
      go_wp2
      go_ret
      exact ⟨rfl, hb1⟩
  · have HT := Lib.hid (tt_text a0 a2 a1 (by omega) (by omega))
    have hz2 : (putB a0.size ++ a0).size = (putB a0.size).size + a0.size := ByteArray.size_append
    go_enter Try.func6, Try.ntmps6
    go_wp2_with fail
    refine (puttext_any a0 _ w0).mono ?_
    rintro _ w1 ⟨rfl, hb1⟩
    go_wp2_with fail
    with_reducible refine (at_tt (s := putB a0.size ++ a0 ++ a2) _ hsz l1 u1 HT.out).mono ?_
    rintro _ w2 ⟨rfl, rfl⟩
    clear HT hsz hss
    go_wp2_with fail
    refine (rputtext_any a0 _ w0).mono ?_
    rintro _ w2 ⟨rfl, hb⟩
    have hb2 := chain hb1 hb
    clear hb hb1
    by_cases hm : a1 < 0
    · have h2 : (a0.size : Int) ≤ 0 := by omega
      clear hl
      go_wp2_with fail
      refine (alive_any _).mono ?_
      rintro _ w1 ⟨rfl, hb⟩
      have hb1 := chain hb2 hb
      clear hb hb2
      go_wp2
      go_ret
      exact ⟨rfl, hb1⟩
    · have h2 : (a0.size : Int) ≤ a1 := by omega
      clear hl
      go_wp2_with fail
      refine (alive_any _).mono ?_
      rintro _ w1 ⟨rfl, hb⟩
      have hb1 := chain hb2 hb
      clear hb hb2
      go_wp2
      go_ret
      exact ⟨rfl, hb1⟩

set_option maxRecDepth 100000 in
theorem lifted (os : Os) (started : os.Started) (H : Type) (enc : TypeId × Value → H) :
    ReturnsInHanded {} Try.checked os 6 .any (Rows.wireTextsSpec.pre6 enc Try.prog Try.f6 Rows.wireTextsRow.domain false) (Rows.wireTextsSpec.post enc Try.prog Try.f6 false true false false) := by
  refine returnsInHanded_of_change_sized (C := Try.checked) own started (by kernel_rfl) Try.func6
    (ChangeSpec.witness6 (enc := enc) (C := Try.checked) false ⟨#[], #[.string ByteArray.empty, .int .i64 0, .string ByteArray.empty], []⟩ 8 (by kernel_rfl) (by kernel_rfl) (by kernel_rfl) (by kernel_rfl)) ?_
  intro W base args ds gs before hval0 hW hcnd hsz0 _
  have hval : ∀ (j : Nat) t v, Try.f6.params[j]? = some t → args[j]? = some v → Value.okWide Try.prog W .any base t v := hval0
  have hsz : (DataW.weightsEach Try.prog (Try.f6.params.toList ++ Rows.wireTextsSpec.plain.varTypes Try.prog) (ds ++ gs)).all (· ≤ reachBytes) = true := hsz0
  have hW' := hW
  obtain ⟨p, q, hA0, hV, rfl, hfz, hnd⟩ := hW
  have hA : DataW.TrodAll enc Try.prog W 0 (fun _ => true) true Try.f6.params.toList args.toList ds p := hA0
  rw [Try.params6] at hA hval hsz
  obtain ⟨v0, vs0, d0, ds0, p0, q0, hargs, rfl, rfl, h0, r0⟩ := trodAll_cons hA
  obtain ⟨v1, vs1, d1, ds1, p1, q1, rfl, rfl, rfl, h1, r1⟩ := trodAll_cons r0
  obtain ⟨v2, vs2, d2, ds2, p2, q2, rfl, rfl, rfl, h2, r2⟩ := trodAll_cons r1
  obtain ⟨rfl, rfl, rfl⟩ := trodAll_nil r2
  obtain rfl : args = #[v0, v1, v2] := by cases args; simp_all
  obtain ⟨rfl, rfl⟩ := trodVars_none hV
  obtain ⟨a0, rfl, rfl, rfl, m0⟩ := open_string Try.underlying9 (hval 0 9 v0 rfl rfl) h0
  obtain ⟨a1, rfl, rfl, rfl, w1⟩ := open_int Try.underlying3 (hval 1 3 v1 rfl rfl) h1
  obtain ⟨a2, rfl, rfl, rfl, m2⟩ := open_string Try.underlying9 (hval 2 9 v2 rfl rfl) h2
  have w0 : a0.size ≤ 140737488351232 := by
    have h := sized_string hsz (j := 0) (t := 9) rfl rfl
    have e : a0.data.toList.length = a0.size := by simp
    unfold reachBytes at h
    omega
  have w2 : a2.size ≤ 140737488351232 := by
    have h := sized_string hsz (j := 2) (t := 9) rfl rfl
    have e : a2.data.toList.length = a2.size := by simp
    unfold reachBytes at h
    omega
  clear hA0 hval0 hsz hsz0
  refine (walk a0 a1 a2 w0 w1 w2 W).mono fun e W' ⟨he, bel⟩ => ?_
  subst he
  exact ⟨_, rfl, _, _, _, [], _, [], hW', trodAll_mk1 (shut_bool Try.underlying4 _), (trodAll_cons_mk (shut_string Try.underlying9 m0) (trodAll_cons_mk (shut_int Try.underlying3 w1) (trodAll_cons_mk (shut_string Try.underlying9 m2) trodAll_mk0))), rfl, bel.frame _, fun h => by cases h⟩

theorem over : Rows.wireTextsRow.holds Try.pinned (OpenSpec.ofChange Rows.wireTextsSpec) :=
  OpenClaim.holds_of_wide 6 Try.f6 rfl rfl rfl rfl rfl rfl rfl ⟨rfl, rfl, rfl, rfl, rfl⟩ rfl rfl rfl rfl rfl (by kernel_rfl) Try.func6 (by kernel_rfl)
    (of_decide_eq_true (by kernel_rfl)) (by unfold Func.isWrapper; first | (rw [if_pos (by decide +kernel)]; kernel_rfl) | (rw [if_neg (by decide +kernel)]; exact ⟨rfl, rfl⟩))
    (fun os started H enc _ => lifted os started H enc)

end Go.Proofs.Ytdgnjhnbldbnhaa.wireTexts
namespace Go.Proofs.Ytdgnjhnbldbnhaa
/-- The statement. -/
theorem wireTexts_proved : Rows.WireTextsSaid := wireTexts.over
end Go.Proofs.Ytdgnjhnbldbnhaa
