/-
  For all numbers a, b and wide, cracknellaw02.DecOrders(a, b, wide) returns true and leaves them as they were. Conditions: none.
-/
import Derived.Test.YtdiecopmfdfjcaaDecAlive
import Derived.ProofKit
import Derived.OpenShut
import Derived.ShutString
import Derived.ChangeOld
import Derived.SizedLaws
namespace Go.Proofs.Ytdiecopmfdfjcaa.decOrders
open Go.ChangeShapes Go.WideShapes Go.ChangeAt Go.RowKit
open Go.ChangeMaps (open_string shut_string)
set_option linter.unusedVariables false

theorem own : ownKnob Try.prog.godebug = none := by kernel_rfl

theorem fixB_cases (n k : Int) : (∃ m j : Nat, n = m ∧ k = j ∧ 1 ≤ j ∧ j ≤ 18 ∧ m < 10 ^ j ∧ fixB n k = padB m j) ∨ fixB n k = ByteArray.empty := by
  by_cases h : k < 1 ∨ 18 < k ∨ n < 0
  · exact .inr (fixB_out n k h)
  · obtain ⟨m, rfl⟩ := Int.eq_ofNat_of_zero_le (show 0 ≤ n by omega)
    obtain ⟨j, rfl⟩ := Int.eq_ofNat_of_zero_le (show 0 ≤ k by omega)
    rcases Nat.lt_or_ge m (10 ^ j) with h' | h'
    · exact .inl ⟨m, j, rfl, rfl, by omega, by omega, h', fixB_yes m j (by omega) (by omega) h'⟩
    · exact .inr (fixB_long m j h')

/-- What the statement asks of the two texts. -/
def OrdB (s t : ByteArray) (a b : Int) : Prop :=
  s.toList = [] ∨ t.toList = [] ∨ (s.toList ≠ [] ∧ t.toList ≠ [] ∧ Op.bytesLess s.toList t.toList = decide (a < b) ∧ (s.toList == t.toList) = (a == b))

theorem ordB_any (a b k : Int) : OrdB (fixB a k) (fixB b k) a b := by
  rcases fixB_cases a k with ⟨m, j, rfl, rfl, j1, j2, hm, hf⟩ | hf
  · rcases fixB_cases b (j : Int) with ⟨n, i, rfl, hi, i1, i2, hn, hg⟩ | hg
    · have e : i = j := by omega
      subst e
      rw [hf, hg]
      have ne : ∀ x, (padB x i).toList ≠ [] := by
        intro x h
        have := isEmpty_size (padB x i)
        rw [h, padB_size] at this
        have h2 := this.symm
        simp at h2
        omega
      refine .inr (.inr ⟨ne m, ne n, ?_, ?_⟩)
      · rw [ByteArray.toList_eq, ByteArray.toList_eq, padB_list, padB_list, padK_less i m n hm hn, Bool.eq_iff_iff, decide_eq_true_eq, decide_eq_true_eq]
        omega
      · rw [eq_toList, Bool.eq_iff_iff, decide_eq_true_eq, beq_iff_eq]
        constructor
        · intro h
          have : padK m i = padK n i := by rw [← padB_list, ← padB_list, h]
          rw [padK_inj i m n hm hn this]
        · intro h
          have : m = n := by omega
          rw [this]
    · refine .inr (.inl ?_)
      rw [hg, ByteArray.toList_eq]
      rfl
  · refine .inl ?_
    rw [hf, ByteArray.toList_eq]
    rfl

set_option maxRecDepth 100000 in
set_option maxHeartbeats 1600000 in
theorem walk (a0 : Int) (a1 : Int) (a2 : Int) (w0 : (Lit.int .i64 a0).wf = true) (w1 : (Lit.int .i64 a1).wf = true) (w2 : (Lit.int .i64 a2).wf = true) (w : World) :
    Calls Try.prog 7 #[.int .i64 a0, .int .i64 a1, .int .i64 a2] w fun e w' => e = .returned (.bool true) ∧ Below w.heap.size w w' := by
  obtain ⟨l0, u0⟩ := bounds_i64 w0
  obtain ⟨l1, u1⟩ := bounds_i64 w1
  clear w0 w1 w2
  have ho := ordB_any a0 a1 a2
  have hp : ((printB a0).toList == (printB a1).toList) = (a0 == a1) := by
    rw [eq_toList, Bool.eq_iff_iff, decide_eq_true_eq, beq_iff_eq]
    exact ⟨fun h => printB_inj a0 a1 l0 u0 l1 u1 h, fun h => by rw [h]⟩
  have HP := Lib.hid hp
  have HO := Lib.hid ho
  clear hp ho
  go_enter Try.func7, Try.ntmps7
  go_wp2_with fail
  refine (fixed_any a0 a2 _ u0).mono ?_
  rintro _ w1 ⟨rfl, hb1⟩
  go_wp2_with fail
  refine (fixed_any a1 a2 _ u1).mono ?_
  rintro _ w2 ⟨rfl, hb⟩
  have hb2 := chain hb1 hb
  clear hb hb1
  generalize fixB a0 a2 = s at *
  generalize fixB a1 a2 = t at *
  go_wp2_with fail
  refine (print_any a0 _ l0 u0).mono ?_
  rintro _ w1 ⟨rfl, hb⟩
  have hb1 := chain hb2 hb
  clear hb hb2
  go_wp2_with fail
  refine (print_any a1 _ l1 u1).mono ?_
  rintro _ w2 ⟨rfl, hb⟩
  have hb2 := chain hb1 hb
  clear hb hb1
  generalize printB a0 = p at *
  generalize printB a1 = q at *
  have hpq := HP.out
  have horder := HO.out
  clear HP HO
  by_cases e : a0 = a1
  · have e1 : (a0 == a1) = true := by rw [e]; simp
    have e2 : (p.toList == q.toList) = true := by rw [hpq, e1]
    clear hpq
    rcases horder with h | h | ⟨h1, h2, h3, h4⟩
    · have h' : s.toList.isEmpty = true := by rw [h]; rfl
      go_wp2_with fail
      refine (alive_any _).mono ?_
      rintro _ w1 ⟨rfl, hb⟩
      have hb1 := chain hb2 hb
      clear hb hb2
      go_wp2
      go_ret
      exact ⟨rfl, hb1⟩
    · have h' : t.toList.isEmpty = true := by rw [h]; rfl
      go_wp2_with fail
      refine (alive_any _).mono ?_
      rintro _ w1 ⟨rfl, hb⟩
      have hb1 := chain hb2 hb
      clear hb hb2
      go_wp2
      all_goals
        go_ret
        exact ⟨rfl, hb1⟩
    · have h1' : s.toList.isEmpty = false := by rw [List.isEmpty_eq_false_iff]; exact h1
      have h2' : t.toList.isEmpty = false := by rw [List.isEmpty_eq_false_iff]; exact h2
      rw [e1] at h4
      have d : decide (a0 < a1) = false := by rw [decide_eq_false_iff_not]; omega
      rw [d] at h3
      have e3 : ¬ a0 < a1 := by omega
      clear e
      go_wp2_with fail
      refine (alive_any _).mono ?_
      rintro _ w1 ⟨rfl, hb⟩
      have hb1 := chain hb2 hb
      clear hb hb2
      go_wp2
      all_goals
        go_ret
        exact ⟨rfl, hb1⟩
  · have e1 : (a0 == a1) = false := by rw [beq_eq_false_iff_ne]; exact e
    have e2 : (p.toList == q.toList) = false := by rw [hpq, e1]
    clear hpq
    rcases horder with h | h | ⟨h1, h2, h3, h4⟩
    · have h' : s.toList.isEmpty = true := by rw [h]; rfl
      go_wp2_with fail
      refine (alive_any _).mono ?_
      rintro _ w1 ⟨rfl, hb⟩
      have hb1 := chain hb2 hb
      clear hb hb2
      go_wp2
      all_goals
        go_ret
        exact ⟨rfl, hb1⟩
    · have h' : t.toList.isEmpty = true := by rw [h]; rfl
      go_wp2_with fail
      refine (alive_any _).mono ?_
      rintro _ w1 ⟨rfl, hb⟩
      have hb1 := chain hb2 hb
      clear hb hb2
      go_wp2
      all_goals
        go_ret
        exact ⟨rfl, hb1⟩
    · have h1' : s.toList.isEmpty = false := by rw [List.isEmpty_eq_false_iff]; exact h1
      have h2' : t.toList.isEmpty = false := by rw [List.isEmpty_eq_false_iff]; exact h2
      rw [e1] at h4
      rcases (show a0 < a1 ∨ ¬ a0 < a1 from by omega) with d | d
      · have d' : decide (a0 < a1) = true := decide_eq_true d
        rw [d'] at h3
        clear e
        go_wp2_with fail
        refine (alive_any _).mono ?_
        rintro _ w1 ⟨rfl, hb⟩
        have hb1 := chain hb2 hb
        clear hb hb2
        go_wp2
        all_goals
          go_ret
          exact ⟨rfl, hb1⟩
      · have d' : decide (a0 < a1) = false := decide_eq_false d
        rw [d'] at h3
        clear e
        go_wp2_with fail
        refine (alive_any _).mono ?_
        rintro _ w1 ⟨rfl, hb⟩
        have hb1 := chain hb2 hb
        clear hb hb2
        go_wp2
        all_goals
          go_ret
          exact ⟨rfl, hb1⟩

set_option maxRecDepth 100000 in
theorem lifted (os : Os) (started : os.Started) (H : Type) (enc : TypeId × Value → H) :
    ReturnsInHanded {} Try.checked os 7 .any (Rows.decOrdersSpec.pre6 enc Try.prog Try.f7 Rows.decOrdersRow.domain false) (Rows.decOrdersSpec.post enc Try.prog Try.f7 false true false false) := by
  refine returnsInHanded_of_change_sized (C := Try.checked) own started (by kernel_rfl) Try.func7
    (ChangeSpec.witness6 (enc := enc) (C := Try.checked) false ⟨#[], #[.int .i64 0, .int .i64 0, .int .i64 0], []⟩ 8 (by kernel_rfl) (by kernel_rfl) (by kernel_rfl) (by kernel_rfl)) ?_
  intro W base args ds gs before hval0 hW hcnd hsz0 _
  have hval : ∀ (j : Nat) t v, Try.f7.params[j]? = some t → args[j]? = some v → Value.okWide Try.prog W .any base t v := hval0
  have hsz : (DataW.weightsEach Try.prog (Try.f7.params.toList ++ Rows.decOrdersSpec.plain.varTypes Try.prog) (ds ++ gs)).all (· ≤ reachBytes) = true := hsz0
  have hW' := hW
  obtain ⟨p, q, hA0, hV, rfl, hfz, hnd⟩ := hW
  have hA : DataW.TrodAll enc Try.prog W 0 (fun _ => true) true Try.f7.params.toList args.toList ds p := hA0
  rw [Try.params7] at hA hval hsz
  obtain ⟨v0, vs0, d0, ds0, p0, q0, hargs, rfl, rfl, h0, r0⟩ := trodAll_cons hA
  obtain ⟨v1, vs1, d1, ds1, p1, q1, rfl, rfl, rfl, h1, r1⟩ := trodAll_cons r0
  obtain ⟨v2, vs2, d2, ds2, p2, q2, rfl, rfl, rfl, h2, r2⟩ := trodAll_cons r1
  obtain ⟨rfl, rfl, rfl⟩ := trodAll_nil r2
  obtain rfl : args = #[v0, v1, v2] := by cases args; simp_all
  obtain ⟨rfl, rfl⟩ := trodVars_none hV
  obtain ⟨a0, rfl, rfl, rfl, w0⟩ := open_int Try.underlying3 (hval 0 3 v0 rfl rfl) h0
  obtain ⟨a1, rfl, rfl, rfl, w1⟩ := open_int Try.underlying3 (hval 1 3 v1 rfl rfl) h1
  obtain ⟨a2, rfl, rfl, rfl, w2⟩ := open_int Try.underlying3 (hval 2 3 v2 rfl rfl) h2
  clear hA0 hval0 hsz hsz0
  refine (walk a0 a1 a2 w0 w1 w2 W).mono fun e W' ⟨he, bel⟩ => ?_
  subst he
  exact ⟨_, rfl, _, _, _, [], _, [], hW', trodAll_mk1 (shut_bool Try.underlying4 _), (trodAll_cons_mk (shut_int Try.underlying3 w0) (trodAll_cons_mk (shut_int Try.underlying3 w1) (trodAll_cons_mk (shut_int Try.underlying3 w2) trodAll_mk0))), rfl, bel.frame _, fun h => by cases h⟩

theorem over : Rows.decOrdersRow.holds Try.pinned (OpenSpec.ofChange Rows.decOrdersSpec) :=
  OpenClaim.holds_of_wide 7 Try.f7 rfl rfl rfl rfl rfl rfl rfl ⟨rfl, rfl, rfl, rfl, rfl⟩ rfl rfl rfl rfl rfl (by kernel_rfl) Try.func7 (by kernel_rfl)
    (of_decide_eq_true (by kernel_rfl)) (by unfold Func.isWrapper; first | (rw [if_pos (by decide +kernel)]; kernel_rfl) | (rw [if_neg (by decide +kernel)]; exact ⟨rfl, rfl⟩))
    (fun os started H enc _ => lifted os started H enc)

end Go.Proofs.Ytdiecopmfdfjcaa.decOrders
namespace Go.Proofs.Ytdiecopmfdfjcaa
/-- The statement. -/
theorem decOrders_proved : Rows.DecOrdersSaid := decOrders.over
end Go.Proofs.Ytdiecopmfdfjcaa
