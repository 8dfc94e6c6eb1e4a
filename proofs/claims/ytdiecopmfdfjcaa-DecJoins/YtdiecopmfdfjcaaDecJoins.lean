/-
  For all numbers a, b and wide, cracknellaw02.DecJoins(a, b, wide) returns true and leaves them as they were. Conditions: none.
-/
import Derived.Test.YtdiecopmfdfjcaaDecAlive
import Derived.ProofKit
import Derived.OpenShut
import Derived.ShutString
import Derived.ChangeOld
import Derived.SizedLaws
namespace Go.Proofs.Ytdiecopmfdfjcaa.decJoins
open Go.ChangeShapes Go.WideShapes Go.ChangeAt Go.RowKit
open Go.ChangeMaps (open_string shut_string)
set_option linter.unusedVariables false

theorem own : ownKnob Try.prog.godebug = none := by kernel_rfl

theorem fixB_cases (n k : Int) : (∃ m j : Nat, n = m ∧ k = j ∧ 1 ≤ j ∧ j ≤ 18 ∧ m < 10 ^ j ∧ fixB n k = padB m j) ∨ fixB n k = ByteArray.empty := by
  by_cases h : k < 1 ∨ 18 < k ∨ n < 0
  · exact .inr (fixB_out n k h)
  · obtain ⟨m, rfl⟩ := Int.eq_ofNat_of_zero_le (show 0 ≤ n by omega)
    obtain ⟨j, rfl⟩ := Int.eq_ofNat_of_zero_le (show 0 ≤ k by omega)
    rcases Nat.lt_or_ge m (10 ^ j) with h' | h'
    · exact .inl ⟨m, j, rfl, rfl, by omega, by omega, h', fixB_yes m j (by omega) (by omega) h'⟩
    · exact .inr (fixB_long m j h')

/-- What the loop holds behind i rounds. -/
def WantAt (m j : Nat) (want c : Value) : Prop := ∃ i X : Nat, i ≤ j ∧ X = m * 10 ^ i ∧ want = .int .i64 (X : Int) ∧ c = .int .i64 (i : Int)

theorem want_bound (m i : Nat) (hm : m < 1000000000) (hi : i ≤ 9) : m * 10 ^ i ≤ 999999999000000000 := by
  have : m * 10 ^ i ≤ 999999999 * 10 ^ 9 := Nat.mul_le_mul (by omega) (Nat.pow_le_pow_right (by decide) hi)
  omega

theorem join_val (m n j : Nat) (hm : m < 10 ^ 9) (hn : n < 10 ^ j) : allD (padB m 9 ++ padB n j).data.toList = true ∧ valN (padB m 9 ++ padB n j).data.toList = m * 10 ^ j + n ∧ (padB m 9 ++ padB n j).size = 9 + j := by
  have e : (padB m 9 ++ padB n j).data.toList = padK m 9 ++ padK n j := by rw [ByteArray.data_append, Array.toList_append, padB_list, padB_list]
  refine ⟨?_, ?_, ?_⟩
  · have h1 := padK_all m 9
    have h2 := padK_all n j
    rw [e]
    unfold allD at *
    rw [List.all_append, h1, h2]
    rfl
  · rw [e, valN_append, valN_pad, valN_pad, padK_len, Nat.mod_eq_of_lt hm, Nat.mod_eq_of_lt hn]
  · rw [ByteArray.size_append, padB_size, padB_size]

theorem padB_ne (n k : Nat) (h : 1 ≤ k) : (padB n k).toList ≠ [] := by
  intro h1
  have := isEmpty_size (padB n k)
  rw [h1, padB_size] at this
  have h2 := this.symm
  simp at h2
  omega

theorem empty_list : ByteArray.empty.toList = [] := by rw [ByteArray.toList_eq]; rfl

set_option maxRecDepth 100000 in
set_option maxHeartbeats 1600000 in
theorem walk (a0 : Int) (a1 : Int) (a2 : Int) (w0 : (Lit.int .i64 a0).wf = true) (w1 : (Lit.int .i64 a1).wf = true) (w2 : (Lit.int .i64 a2).wf = true) (w : World) :
    Calls Try.prog 8 #[.int .i64 a0, .int .i64 a1, .int .i64 a2] w fun e w' => e = .returned (.bool true) ∧ Below w.heap.size w w' := by
  obtain ⟨l0, u0⟩ := bounds_i64 w0
  obtain ⟨l1, u1⟩ := bounds_i64 w1
  clear w0 w1 w2
  rcases fixB_cases a0 9 with ⟨m, j9, rfl, h9, j91, j92, hm, hf⟩ | hf
  · have e9 : j9 = 9 := by omega
    subst e9
    clear h9 j91 j92
    rcases fixB_cases a1 a2 with ⟨n, j, rfl, rfl, j1, j2, hn, hg⟩ | hg
    · have hs1 := padB_ne m 9 (by decide)
      have ht1 := padB_ne n j j1
      have hs2 : (padB m 9).toList.isEmpty = false := by rw [List.isEmpty_eq_false_iff]; exact hs1
      have ht2 : (padB n j).toList.isEmpty = false := by rw [List.isEmpty_eq_false_iff]; exact ht1
      obtain ⟨ja, jv, jz⟩ := join_val m n j hm hn
      have hm9 : m < 1000000000 := hm
      have hss : (padB m 9).size + (padB n j).size ≤ 9223372036854775807 := by rw [padB_size, padB_size]; omega
      generalize padB m 9 = s at hs1 hs2 hf ja jv jz hss
      generalize padB n j = t at ht1 ht2 hg ja jv jz hss
      have HF := Lib.hid hf
      have HG := Lib.hid hg
      have HN := Lib.hid hn
      have HJA := Lib.hid ja
      have HJV := Lib.hid jv
      have HJZ := Lib.hid jz
      clear hf hg hn hm ja jv jz
      by_cases hj : j ≤ 9
      · have hjn : n < 1000000000 := Nat.lt_of_lt_of_le HN.out (Nat.pow_le_pow_right (n := 10) (by decide) hj)
        go_enter Try.func8, Try.ntmps8
        go_wp2_with fail
        refine (fixed_any (m : Int) 9 _ u0).mono ?_
        rintro _ w1 ⟨rfl, hb1⟩
        go_wp2_with fail
        refine (fixed_any (n : Int) (j : Int) _ u1).mono ?_
        rintro _ w2 ⟨rfl, hb⟩
        have hb2 := chain hb1 hb
        clear hb hb1
        rw [HF.out, HG.out]
        clear HF HG
        go_wp2
        go_loop [9, 30] (fun want c => WantAt m j want c) (fun _ c => j - (intOf c).toNat)
        case atStart => exact ⟨0, m, by omega, by simp, rfl, rfl⟩
        case round =>
          obtain ⟨i, X, hi, hX, rfl, rfl⟩ := hrel
          have hXb : X ≤ 999999999000000000 := by rw [hX]; exact want_bound m i hm9 (by omega)
          have HX := Lib.hid hX
          by_cases hlt : i < j
          · have hXc : X ≤ 99999999900000000 := by
              have := want_bound m (i + 1) hm9 (by omega)
              rw [Nat.pow_succ, ← Nat.mul_assoc] at this
              rw [hX]
              omega
            clear hX
            go_wp2
            go_round
            case rel => exact ⟨i + 1, X * 10, by omega, by rw [HX.out, Nat.pow_succ, Nat.mul_assoc], by go_num, by go_num⟩
            case measure => simp [intOf]; omega
          · have ei : i = j := by omega
            subst ei
            have HV2 : Hid (valN (s ++ t).data.toList = X + n) := by show _ = _; rw [HX.out]; exact HJV.out
            clear hX
            go_wp2_with fail
            refine (unfixed_yes (s ++ t) (X + n) _ (by rw [HJZ.out]; omega) (by rw [HJZ.out]; omega) HJA.out HV2.out).mono ?_
            rintro _ w1 ⟨rfl, hb⟩
            have hb1 := chain hb2 hb
            clear hb hb2
            go_wp2_with fail
            refine (alive_any _).mono ?_
            rintro _ w2 ⟨rfl, hb⟩
            have hb2 := chain hb1 hb
            clear hb hb1
            go_wp2
            go_ret
            exact ⟨rfl, hb2⟩
      · go_enter Try.func8, Try.ntmps8
        go_wp2_with fail
        refine (fixed_any (m : Int) 9 _ u0).mono ?_
        rintro _ w1 ⟨rfl, hb1⟩
        go_wp2_with fail
        refine (fixed_any (n : Int) (j : Int) _ u1).mono ?_
        rintro _ w2 ⟨rfl, hb⟩
        have hb2 := chain hb1 hb
        clear hb hb1
        rw [HF.out, HG.out]
        clear HF HG
        go_wp2_with fail
        refine (alive_any _).mono ?_
        rintro _ w1 ⟨rfl, hb⟩
        have hb1 := chain hb2 hb
        clear hb hb2
        go_wp2
        go_ret
        exact ⟨rfl, hb1⟩
    · have HG := Lib.hid hg
      have he := empty_list
      clear hg hf hm
      go_enter Try.func8, Try.ntmps8
      go_wp2_with fail
      refine (fixed_any (m : Int) 9 _ u0).mono ?_
      rintro _ w1 ⟨rfl, hb1⟩
      go_wp2_with fail
      refine (fixed_any a1 a2 _ u1).mono ?_
      rintro _ w2 ⟨rfl, hb⟩
      have hb2 := chain hb1 hb
      clear hb hb1
      rw [HG.out]
      generalize fixB (m : Int) 9 = s at *
      by_cases hse : s.toList = []
      · have hs2 : s.toList.isEmpty = true := by rw [hse]; rfl
        go_wp2_with fail
        refine (alive_any _).mono ?_
        rintro _ w1 ⟨rfl, hb⟩
        have hb1 := chain hb2 hb
        clear hb hb2
        go_wp2
        go_ret
        exact ⟨rfl, hb1⟩
      · have hs2 : s.toList.isEmpty = false := by rw [List.isEmpty_eq_false_iff]; exact hse
        go_wp2_with fail
        refine (alive_any _).mono ?_
        rintro _ w1 ⟨rfl, hb⟩
        have hb1 := chain hb2 hb
        clear hb hb2
        go_wp2
        go_ret
        exact ⟨rfl, hb1⟩
  · have HF := Lib.hid hf
    have he := empty_list
    clear hf
    go_enter Try.func8, Try.ntmps8
    go_wp2_with fail
    refine (fixed_any a0 9 _ u0).mono ?_
    rintro _ w1 ⟨rfl, hb1⟩
    go_wp2_with fail
    refine (fixed_any a1 a2 _ u1).mono ?_
    rintro _ w2 ⟨rfl, hb⟩
    have hb2 := chain hb1 hb
    clear hb hb1
    rw [HF.out]
    generalize fixB a1 a2 = t at *
    go_wp2_with fail
    refine (alive_any _).mono ?_
    rintro _ w1 ⟨rfl, hb⟩
    have hb1 := chain hb2 hb
    clear hb hb2
    go_wp2
    go_ret
    exact ⟨rfl, hb1⟩

set_option maxRecDepth 100000 in
theorem lifted (os : Os) (started : os.Started) (H : Type) (enc : TypeId × Value → H) :
    ReturnsInHanded {} Try.checked os 8 .any (Rows.decJoinsSpec.pre6 enc Try.prog Try.f8 Rows.decJoinsRow.domain false) (Rows.decJoinsSpec.post enc Try.prog Try.f8 false true false false) := by
  refine returnsInHanded_of_change_sized (C := Try.checked) own started (by kernel_rfl) Try.func8
    (ChangeSpec.witness6 (enc := enc) (C := Try.checked) false ⟨#[], #[.int .i64 0, .int .i64 0, .int .i64 0], []⟩ 8 (by kernel_rfl) (by kernel_rfl) (by kernel_rfl) (by kernel_rfl)) ?_
  intro W base args ds gs before hval0 hW hcnd hsz0 _
  have hval : ∀ (j : Nat) t v, Try.f8.params[j]? = some t → args[j]? = some v → Value.okWide Try.prog W .any base t v := hval0
  have hsz : (DataW.weightsEach Try.prog (Try.f8.params.toList ++ Rows.decJoinsSpec.plain.varTypes Try.prog) (ds ++ gs)).all (· ≤ reachBytes) = true := hsz0
  have hW' := hW
  obtain ⟨p, q, hA0, hV, rfl, hfz, hnd⟩ := hW
  have hA : DataW.TrodAll enc Try.prog W 0 (fun _ => true) true Try.f8.params.toList args.toList ds p := hA0
  rw [Try.params8] at hA hval hsz
  obtain ⟨v0, vs0, d0, ds0, p0, q0, hargs, rfl, rfl, h0, r0⟩ := trodAll_cons hA
  obtain ⟨v1, vs1, d1, ds1, p1, q1, rfl, rfl, rfl, h1, r1⟩ := trodAll_cons r0
  obtain ⟨v2, vs2, d2, ds2, p2, q2, rfl, rfl, rfl, h2, r2⟩ := trodAll_cons r1
  obtain ⟨rfl, rfl, rfl⟩ := trodAll_nil r2
  obtain rfl : args = #[v0, v1, v2] := by cases args; simp_all
  obtain ⟨rfl, rfl⟩ := trodVars_none hV
  obtain ⟨a0, rfl, rfl, rfl, w0⟩ := open_int Try.underlying3 (hval 0 3 v0 rfl rfl) h0
  obtain ⟨a1, rfl, rfl, rfl, w1⟩ := open_int Try.underlying3 (hval 1 3 v1 rfl rfl) h1
  obtain ⟨a2, rfl, rfl, rfl, w2⟩ := open_int Try.underlying3 (hval 2 3 v2 rfl rfl) h2
  clear hA0 hval0 hsz hsz0
  refine (walk a0 a1 a2 w0 w1 w2 W).mono fun e W' ⟨he, bel⟩ => ?_
  subst he
  exact ⟨_, rfl, _, _, _, [], _, [], hW', trodAll_mk1 (shut_bool Try.underlying4 _), (trodAll_cons_mk (shut_int Try.underlying3 w0) (trodAll_cons_mk (shut_int Try.underlying3 w1) (trodAll_cons_mk (shut_int Try.underlying3 w2) trodAll_mk0))), rfl, bel.frame _, fun h => by cases h⟩

theorem over : Rows.decJoinsRow.holds Try.pinned (OpenSpec.ofChange Rows.decJoinsSpec) :=
  OpenClaim.holds_of_wide 8 Try.f8 rfl rfl rfl rfl rfl rfl rfl ⟨rfl, rfl, rfl, rfl, rfl⟩ rfl rfl rfl rfl rfl (by kernel_rfl) Try.func8 (by kernel_rfl)
    (of_decide_eq_true (by kernel_rfl)) (by unfold Func.isWrapper; first | (rw [if_pos (by decide +kernel)]; kernel_rfl) | (rw [if_neg (by decide +kernel)]; exact ⟨rfl, rfl⟩))
    (fun os started H enc _ => lifted os started H enc)

end Go.Proofs.Ytdiecopmfdfjcaa.decJoins
namespace Go.Proofs.Ytdiecopmfdfjcaa
/-- The statement. -/
theorem decJoins_proved : Rows.DecJoinsSaid := decJoins.over
end Go.Proofs.Ytdiecopmfdfjcaa
