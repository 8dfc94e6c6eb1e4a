/-
  For all numbers n and wide, cracknellaw02.DecFixed(n, wide) returns true and leaves them as they were. Conditions: none.
-/
import Derived.Test.YtdiecopmfdfjcaaDecAlive
import Derived.ProofKit
import Derived.OpenShut
import Derived.ShutString
import Derived.ChangeOld
import Derived.SizedLaws
namespace Go.Proofs.Ytdiecopmfdfjcaa.decFixed
open Go.ChangeShapes Go.WideShapes Go.ChangeAt Go.RowKit
open Go.ChangeMaps (open_string shut_string)
set_option linter.unusedVariables false

theorem own : ownKnob Try.prog.godebug = none := by kernel_rfl

theorem fixB_cases (n k : Int) : (∃ m j : Nat, n = m ∧ k = j ∧ 1 ≤ j ∧ j ≤ 18 ∧ m < 10 ^ j ∧ fixB n k = padB m j) ∨ fixB n k = ByteArray.empty := by
  by_cases h : k < 1 ∨ 18 < k ∨ n < 0
  · exact .inr (fixB_out n k h)
  · obtain ⟨m, rfl⟩ := Int.eq_ofNat_of_zero_le (show 0 ≤ n by omega)
    obtain ⟨j, rfl⟩ := Int.eq_ofNat_of_zero_le (show 0 ≤ k by omega)
    rcases Nat.lt_or_ge m (10 ^ j) with h' | h'
    · exact .inl ⟨m, j, rfl, rfl, by omega, by omega, h', fixB_yes m j (by omega) (by omega) h'⟩
    · exact .inr (fixB_long m j h')

set_option maxRecDepth 100000 in
set_option maxHeartbeats 1600000 in
theorem walk (a0 : Int) (a1 : Int) (w0 : (Lit.int .i64 a0).wf = true) (w1 : (Lit.int .i64 a1).wf = true) (w : World) :
    Calls Try.prog 5 #[.int .i64 a0, .int .i64 a1] w fun e w' => e = .returned (.bool true) ∧ Below w.heap.size w w' := by
  obtain ⟨l0, u0⟩ := bounds_i64 w0
  clear w0 w1
  rcases fixB_cases a0 a1 with ⟨m, j, rfl, rfl, j1, j2, hlt, hf⟩ | hf
  · have HL := Lib.hid hlt
    have HF := Lib.hid hf
    have hz := padB_size m j
    have HZ := Lib.hid hz
    have he : (padB m j).toList.isEmpty = false := by rw [isEmpty_size, decide_eq_false_iff_not]; omega
    have he2 : (padB m j).toList ≠ [] := by intro h; rw [h] at he; cases he
    have hzb : (((padB m j).size : Int) == (j : Int)) = true := by rw [hz]; simp
    have HV : Hid (valN (padB m j).data.toList = m) := by show _ = _; rw [padB_list, valN_pad, Nat.mod_eq_of_lt hlt]
    have HA : Hid (allD (padB m j).data.toList = true) := by show _ = _; rw [padB_list]; exact padK_all _ _
    have hz2 : (padB m j).size ≤ 18 := by omega
    clear hlt hf hz
    go_enter Try.func5, Try.ntmps5
    go_wp2_with fail
    refine (fixed_any (m : Int) (j : Int) _ u0).mono ?_
    rintro _ w1 ⟨rfl, hb1⟩
    rw [HF.out]
    go_wp2_with fail
    refine (unfixed_yes _ m _ (by rw [HZ.out]; exact j1) hz2 HA.out HV.out).mono ?_
    rintro _ w2 ⟨rfl, hb⟩
    have hb2 := chain hb1 hb
    clear hb hb1
    go_wp2_with fail
    refine (alive_any _).mono ?_
    rintro _ w1 ⟨rfl, hb⟩
    have hb1 := chain hb2 hb
    clear hb hb2
    go_wp2_with fail
    refine (rfixed_any (m : Int) (j : Int) _ u0).mono ?_
    rintro _ w2 ⟨rfl, hb⟩
    have hb2 := chain hb1 hb
    clear hb hb1
    rw [HF.out]
    go_wp2
    go_ret
    exact ⟨rfl, hb2⟩
  · have HF := Lib.hid hf
    clear hf
    go_enter Try.func5, Try.ntmps5
    go_wp2_with fail
    refine (fixed_any a0 a1 _ u0).mono ?_
    rintro _ w1 ⟨rfl, hb1⟩
    rw [HF.out]
    go_wp2_with fail
    refine (unfixed_no _ _ (by decide) (.inl rfl)).mono ?_
    rintro _ w2 ⟨rfl, hb⟩
    have hb2 := chain hb1 hb
    clear hb hb1
    go_wp2_with fail
    refine (alive_any _).mono ?_
    rintro _ w1 ⟨rfl, hb⟩
    have hb1 := chain hb2 hb
    clear hb hb2
    go_wp2_with fail
    refine (rfixed_any a0 a1 _ u0).mono ?_
    rintro _ w2 ⟨rfl, hb⟩
    have hb2 := chain hb1 hb
    clear hb hb1
    rw [HF.out]
    go_wp2
    go_ret
    exact ⟨rfl, hb2⟩

set_option maxRecDepth 100000 in
theorem lifted (os : Os) (started : os.Started) (H : Type) (enc : TypeId × Value → H) :
    ReturnsInHanded {} Try.checked os 5 .any (Rows.decFixedSpec.pre6 enc Try.prog Try.f5 Rows.decFixedRow.domain false) (Rows.decFixedSpec.post enc Try.prog Try.f5 false true false false) := by
  refine returnsInHanded_of_change_sized (C := Try.checked) own started (by kernel_rfl) Try.func5
    (ChangeSpec.witness6 (enc := enc) (C := Try.checked) false ⟨#[], #[.int .i64 0, .int .i64 0], []⟩ 8 (by kernel_rfl) (by kernel_rfl) (by kernel_rfl) (by kernel_rfl)) ?_
  intro W base args ds gs before hval0 hW hcnd hsz0 _
  have hval : ∀ (j : Nat) t v, Try.f5.params[j]? = some t → args[j]? = some v → Value.okWide Try.prog W .any base t v := hval0
  have hsz : (DataW.weightsEach Try.prog (Try.f5.params.toList ++ Rows.decFixedSpec.plain.varTypes Try.prog) (ds ++ gs)).all (· ≤ reachBytes) = true := hsz0
  have hW' := hW
  obtain ⟨p, q, hA0, hV, rfl, hfz, hnd⟩ := hW
  have hA : DataW.TrodAll enc Try.prog W 0 (fun _ => true) true Try.f5.params.toList args.toList ds p := hA0
  rw [Try.params5] at hA hval hsz
  obtain ⟨v0, vs0, d0, ds0, p0, q0, hargs, rfl, rfl, h0, r0⟩ := trodAll_cons hA
  obtain ⟨v1, vs1, d1, ds1, p1, q1, rfl, rfl, rfl, h1, r1⟩ := trodAll_cons r0
  obtain ⟨rfl, rfl, rfl⟩ := trodAll_nil r1
  obtain rfl : args = #[v0, v1] := by cases args; simp_all
  obtain ⟨rfl, rfl⟩ := trodVars_none hV
  obtain ⟨a0, rfl, rfl, rfl, w0⟩ := open_int Try.underlying3 (hval 0 3 v0 rfl rfl) h0
  obtain ⟨a1, rfl, rfl, rfl, w1⟩ := open_int Try.underlying3 (hval 1 3 v1 rfl rfl) h1
  clear hA0 hval0 hsz hsz0
  refine (walk a0 a1 w0 w1 W).mono fun e W' ⟨he, bel⟩ => ?_
  subst he
  exact ⟨_, rfl, _, _, _, [], _, [], hW', trodAll_mk1 (shut_bool Try.underlying4 _), (trodAll_cons_mk (shut_int Try.underlying3 w0) (trodAll_cons_mk (shut_int Try.underlying3 w1) trodAll_mk0)), rfl, bel.frame _, fun h => by cases h⟩

theorem over : Rows.decFixedRow.holds Try.pinned (OpenSpec.ofChange Rows.decFixedSpec) :=
  OpenClaim.holds_of_wide 5 Try.f5 rfl rfl rfl rfl rfl rfl rfl ⟨rfl, rfl, rfl, rfl, rfl⟩ rfl rfl rfl rfl rfl (by kernel_rfl) Try.func5 (by kernel_rfl)
    (of_decide_eq_true (by kernel_rfl)) (by unfold Func.isWrapper; first | (rw [if_pos (by decide +kernel)]; kernel_rfl) | (rw [if_neg (by decide +kernel)]; exact ⟨rfl, rfl⟩))
    (fun os started H enc _ => lifted os started H enc)

end Go.Proofs.Ytdiecopmfdfjcaa.decFixed
namespace Go.Proofs.Ytdiecopmfdfjcaa
/-- The statement. -/
theorem decFixed_proved : Rows.DecFixedSaid := decFixed.over
end Go.Proofs.Ytdiecopmfdfjcaa
