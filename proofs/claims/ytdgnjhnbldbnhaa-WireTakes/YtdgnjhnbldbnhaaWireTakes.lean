/-
  For every text s, cracknellaw03.WireTakes(s) returns true and leaves it as it was. Conditions: none beyond the form's own (a string that is read takes at most 2^47 - 4096 bytes).
-/
import Derived.Test.YtdgnjhnbldbnhaaWireFacts
import Derived.Test.YtdgnjhnbldbnhaaBaseDraw
import Derived.ProofKit
import Derived.OpenShut
import Derived.ShutString
import Derived.ChangeOld
import Derived.SizedLaws
namespace Go.Proofs.Ytdgnjhnbldbnhaa.wireTakes
open Go.ChangeShapes Go.WideShapes Go.ChangeAt Go.RowKit
open Go.ChangeMaps (open_string shut_string)
set_option linter.unusedVariables false

theorem own : ownKnob Try.prog.godebug = none := by kernel_rfl

theorem put_taken (s : ByteArray) (n m : Nat) (h : takeB s = (n, m, 0)) : putB n = s.extract 0 m := by
  apply ba_ext
  rw [putB_list, extract_list, List.drop_zero, Nat.sub_zero]
  exact (take_ok s n m h).2.2.2.2.symm

set_option maxRecDepth 100000 in
set_option maxHeartbeats 1600000 in
theorem walk_no (a0 : ByteArray) (e : Nat) (w : World) (hm : a0.size ≤ maxLen) (ht : takeB a0 = (0, 0, e)) (he : e ≠ 0) :
    Calls Try.prog 4 #[.string a0] w fun e w' => e = .returned (.bool true) ∧ Below w.heap.size w w' := by
  have HT := Lib.hid ht
  have d1 : ((e : Int) == 0) = false := by rw [beq_eq_false_iff_ne]; omega
  have d2 : ((e : Int) != 0) = true := by rw [bne, d1]; rfl
  clear ht he
  go_enter Try.func4, Try.ntmps4
  go_wp2_with fail
  refine (take_any a0 _ _ _ _ hm HT.out).mono ?_
  rintro _ w1 ⟨rfl, rfl⟩
  go_wp2_with fail
  refine (rtake_any a0 _ _ _ _ hm HT.out).mono ?_
  rintro _ w1 ⟨rfl, rfl⟩
  clear HT
  go_wp2_with fail
  refine wp_region_below (g := w.heap.size) (w0 := w) (by kernel_rfl) (by kernel_rfl) (Below.refl _ _) (fun hex => ?_)
  repeat (go_big_quiet_step (first
    | (intro _; rfl)
    | (intro hq; go_at_call 12; refine (alive_any _).mono ?_; rintro _ w1 ⟨rfl, hb1⟩; exact ⟨rfl, chain hq hb1⟩)))
  refine wpQuiet_nil ?_
  intro w1 hb1
  go_wp2
  go_ret
  exact ⟨rfl, hb1⟩

set_option maxRecDepth 100000 in
set_option maxHeartbeats 1600000 in
theorem walk (a0 : ByteArray) (w0 : a0.size ≤ 140737488351232) (w : World) :
    Calls Try.prog 4 #[.string a0] w fun e w' => e = .returned (.bool true) ∧ Below w.heap.size w w' := by
  have hm : a0.size ≤ maxLen := by unfold maxLen; omega
  obtain ⟨n, m, e, ht⟩ : ∃ n m e, takeB a0 = (n, m, e) := ⟨_, _, _, rfl⟩
  have HT := Lib.hid ht
  by_cases he : e ≠ 0
  · obtain ⟨rfl, rfl, he3⟩ := take_no a0 n m e ht he
    exact walk_no a0 e w hm ht he
  · have e0 : e = 0 := by omega
    subst e0
    obtain ⟨b1, b2, b3, b4, b5⟩ := take_ok a0 n m ht
    have HP := Lib.hid (put_taken a0 n m ht)
    clear ht he b5
    have g1 : (m : Int) ≤ (a0.size : Int) := by omega
    go_enter Try.func4, Try.ntmps4
    go_wp2_with fail
    refine (take_any a0 _ _ _ _ hm HT.out).mono ?_
    rintro _ w1 ⟨rfl, rfl⟩
    go_wp2_with fail
    refine (rtake_any a0 _ _ _ _ hm HT.out).mono ?_
    rintro _ w1 ⟨rfl, rfl⟩
    clear HT
    go_wp2_with fail
    refine wp_region_below (g := w.heap.size) (w0 := w) (by kernel_rfl) (by kernel_rfl) (Below.refl _ _) (fun hex => ?_)
    repeat (go_big_quiet_step (first
      | (intro _; rfl)
      | (intro hq; go_at_call 12; refine (alive_any _).mono ?_; rintro _ w1 ⟨rfl, hb1⟩; exact ⟨rfl, chain hq hb1⟩)
      | (intro hq; go_at_call 10; refine (put_any n _ b1).mono ?_; rintro _ w1 ⟨rfl, hb1⟩; exact ⟨by rw [HP.out], chain hq hb1⟩)))
    refine wpQuiet_nil ?_
    intro w1 hb1
    go_wp2
    go_ret
    exact ⟨rfl, hb1⟩

set_option maxRecDepth 100000 in
theorem lifted (os : Os) (started : os.Started) (H : Type) (enc : TypeId × Value → H) :
    ReturnsInHanded {} Try.checked os 4 .any (Rows.wireTakesSpec.pre6 enc Try.prog Try.f4 Rows.wireTakesRow.domain false) (Rows.wireTakesSpec.post enc Try.prog Try.f4 false true false false) := by
  refine returnsInHanded_of_change_sized (C := Try.checked) own started (by kernel_rfl) Try.func4
    (ChangeSpec.witness6 (enc := enc) (C := Try.checked) false ⟨#[], #[.string ByteArray.empty], []⟩ 8 (by kernel_rfl) (by kernel_rfl) (by kernel_rfl) (by kernel_rfl)) ?_
  intro W base args ds gs before hval0 hW hcnd hsz0 _
  have hval : ∀ (j : Nat) t v, Try.f4.params[j]? = some t → args[j]? = some v → Value.okWide Try.prog W .any base t v := hval0
  have hsz : (DataW.weightsEach Try.prog (Try.f4.params.toList ++ Rows.wireTakesSpec.plain.varTypes Try.prog) (ds ++ gs)).all (· ≤ reachBytes) = true := hsz0
  have hW' := hW
  obtain ⟨p, q, hA0, hV, rfl, hfz, hnd⟩ := hW
  have hA : DataW.TrodAll enc Try.prog W 0 (fun _ => true) true Try.f4.params.toList args.toList ds p := hA0
  rw [Try.params4] at hA hval hsz
  obtain ⟨v0, vs0, d0, ds0, p0, q0, hargs, rfl, rfl, h0, r0⟩ := trodAll_cons hA
  obtain ⟨rfl, rfl, rfl⟩ := trodAll_nil r0
  obtain rfl : args = #[v0] := by cases args; simp_all
  obtain ⟨rfl, rfl⟩ := trodVars_none hV
  obtain ⟨a0, rfl, rfl, rfl, m0⟩ := open_string Try.underlying9 (hval 0 9 v0 rfl rfl) h0
  have w0 : a0.size ≤ 140737488351232 := by
    have h := sized_string hsz (j := 0) (t := 9) rfl rfl
    have e : a0.data.toList.length = a0.size := by simp
    unfold reachBytes at h
    omega
  clear hA0 hval0 hsz hsz0
  refine (walk a0 w0 W).mono fun e W' ⟨he, bel⟩ => ?_
  subst he
  exact ⟨_, rfl, _, _, _, [], _, [], hW', trodAll_mk1 (shut_bool Try.underlying4 _), (trodAll_cons_mk (shut_string Try.underlying9 m0) trodAll_mk0), rfl, bel.frame _, fun h => by cases h⟩

theorem over : Rows.wireTakesRow.holds Try.pinned (OpenSpec.ofChange Rows.wireTakesSpec) :=
  OpenClaim.holds_of_wide 4 Try.f4 rfl rfl rfl rfl rfl rfl rfl ⟨rfl, rfl, rfl, rfl, rfl⟩ rfl rfl rfl rfl rfl (by kernel_rfl) Try.func4 (by kernel_rfl)
    (of_decide_eq_true (by kernel_rfl)) (by unfold Func.isWrapper; first | (rw [if_pos (by decide +kernel)]; kernel_rfl) | (rw [if_neg (by decide +kernel)]; exact ⟨rfl, rfl⟩))
    (fun os started H enc _ => lifted os started H enc)

end Go.Proofs.Ytdgnjhnbldbnhaa.wireTakes
namespace Go.Proofs.Ytdgnjhnbldbnhaa
/-- The statement. -/
theorem wireTakes_proved : Rows.WireTakesSaid := wireTakes.over
end Go.Proofs.Ytdgnjhnbldbnhaa
