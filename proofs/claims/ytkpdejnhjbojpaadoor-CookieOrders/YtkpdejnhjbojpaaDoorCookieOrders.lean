/-
  For all cookies a and b, cracknellaw13.CookieOrders(a, b) returns true and leaves them as they were. Conditions: none beyond the form's own (a string that is read takes at most 2^47 - 4096 bytes).
-/
import Derived.Test.YtkpdejnhjbojpaaDoorCkAlive
import Derived.Test.YtkpdejnhjbojpaaDoorCkBox
import Derived.Test.YtkpdejnhjbojpaaDoorCkEq
import Derived.Test.YtkpdejnhjbojpaaDoorU8Laid
import Derived.Test.YtkpdejnhjbojpaaDoorTie
import Derived.Test.YtkpdejnhjbojpaaDoorCards
import Derived.SevenTiedAt
import Derived.LaidLaws
import Derived.Stop.Joined
import Derived.ProofKit
import Derived.OpenShut
import Derived.ShutString
import Derived.ChangeOld
import Derived.SizedLaws
namespace Go.Proofs.YtkpdejnhjbojpaaDoor.cookieOrders
open Go.ChangeShapes Go.WideShapes Go.ChangeAt Go.RowKit
open Go.ChangeMaps (open_string shut_string)
set_option linter.unusedVariables false

theorem own : ownKnob Tryd.prog.godebug = none := by kernel_rfl

theorem short_of {c : Ck} {P : Prop} (h : (c.dom.size ≤ maxLen ∧ c.path.size ≤ maxLen ∧ c.name.size ≤ maxLen ∧ c.val.size ≤ maxLen) ∧ P) : ShortC c := by
  unfold maxLen at h
  exact h.1

theorem same_at (a b : Ck) : ∃ q, (cmpC a b = 0 ↔ q = true) ∧ ∀ W, Sem.run Tryd.prog (binOp BinOp.eql 23 (ckV a) (ckV b)) W = .ok (.bool q) W := by
  by_cases h : a = b
  · exact ⟨true, by simp [cmpC_zero, h], fun W => by rw [h]; exact ck_eq_yes b W⟩
  · exact ⟨false, by simp [cmpC_zero, h], fun W => ck_eq_no a b h W⟩
set_option maxRecDepth 100000 in
set_option maxHeartbeats 1600000 in
theorem walk (ck0 : Ck) (ck1 : Ck) (w0 : (ck0.dom.size ≤ maxLen ∧ ck0.path.size ≤ maxLen ∧ ck0.name.size ≤ maxLen ∧ ck0.val.size ≤ maxLen) ∧ (IntOk ck0.cr ∧ IntOk ck0.ac ∧ IntOk ck0.ex ∧ IntOk ck0.ss)) (w1 : (ck1.dom.size ≤ maxLen ∧ ck1.path.size ≤ maxLen ∧ ck1.name.size ≤ maxLen ∧ ck1.val.size ≤ maxLen) ∧ (IntOk ck1.cr ∧ IntOk ck1.ac ∧ IntOk ck1.ex ∧ IntOk ck1.ss)) (w : World) (hT : Tabs w) :
    Calls Tryd.prog 5 #[ckV ck0, ckV ck1] w fun e w' => e = .returned (.bool true) ∧ Below w.heap.size w w' := by
  have S0 := short_of w0
  have S1 := short_of w1
  clear w0 w1
  obtain ⟨q, hq, hE⟩ := same_at ck0 ck1
  have h3 := ordC.three ck0 ck1
  have C1 := Lib.hid (cmp_any ck0 ck1 · S0 S1)
  have C2 := Lib.hid (cmp_any ck1 ck0 · S1 S0)
  have CR := Lib.hid (rcmp_any ck0 ck1 · S0 S1)
  rw [ordC.anti ck0 ck1] at C2
  obtain ⟨m, hm⟩ : ∃ m, m = - cmpC ck0 ck1 := ⟨_, rfl⟩
  rw [← hm] at C2
  generalize cmpC ck0 ck1 = n at *
  clear S0 S1
  have hA := (CkAt.new w ck0 23).keep ((Below.refl _ _).alloc (Nat.le_refl _) (.cells (ckCells ck1) 23))
  have hB := CkAt.new (w.alloc (.cells (ckCells ck0) 23)) ck1 23
  have hb0 := ((Below.refl w.heap.size w).alloc (Nat.le_refl _) (.cells (ckCells ck0) 23)).alloc (by simp) (.cells (ckCells ck1) 23)
  rw [show ∀ o : Obj, (w.alloc o).heap.size = w.heap.size + 1 from fun o => by simp] at hB
  simp only [ckCells] at hA hB hb0
  rcases h3 with rfl | rfl | rfl
  · have hm2 : m = 1 := by omega
    subst hm2
    have hq2 : q = false := by cases q with | true => exact absurd (hq.2 rfl) (by decide) | false => rfl
    subst hq2
    clear hm hq
    go_enter Tryd.func5, Tryd.ntmps5
    obtain ⟨p0, p1, p2, p3, p4, p5, p6, p7, p8, p9, p10⟩ := id hA
    obtain ⟨q0, q1, q2, q3, q4, q5, q6, q7, q8, q9, q10⟩ := id hB
    go_wp2_with fail
    refine (C1.out _).mono ?_
    rintro _ w1 ⟨rfl, hb⟩
    have hb1 := chain hb0 hb
    replace hA := hA.keep hb
    replace hB := hB.keep hb
    clear hb hb0
    clear p0 p1 p2 p3 p4 p5 p6 p7 p8 p9 p10 q0 q1 q2 q3 q4 q5 q6 q7 q8 q9 q10
    obtain ⟨p0, p1, p2, p3, p4, p5, p6, p7, p8, p9, p10⟩ := id hA
    obtain ⟨q0, q1, q2, q3, q4, q5, q6, q7, q8, q9, q10⟩ := id hB
    go_wp2_with fail
    refine (alive_any _).mono ?_
    rintro _ w2 ⟨rfl, hb⟩
    have hb2 := chain hb1 hb
    replace hA := hA.keep hb
    replace hB := hB.keep hb
    clear hb hb1
    clear p0 p1 p2 p3 p4 p5 p6 p7 p8 p9 p10 q0 q1 q2 q3 q4 q5 q6 q7 q8 q9 q10
    obtain ⟨p0, p1, p2, p3, p4, p5, p6, p7, p8, p9, p10⟩ := id hA
    obtain ⟨q0, q1, q2, q3, q4, q5, q6, q7, q8, q9, q10⟩ := id hB
    go_wp2_with fail
    refine (CR.out _).mono ?_
    rintro _ w3 ⟨rfl, hb⟩
    have hb3 := chain hb2 hb
    replace hA := hA.keep hb
    replace hB := hB.keep hb
    clear hb hb2
    clear p0 p1 p2 p3 p4 p5 p6 p7 p8 p9 p10 q0 q1 q2 q3 q4 q5 q6 q7 q8 q9 q10
    obtain ⟨p0, p1, p2, p3, p4, p5, p6, p7, p8, p9, p10⟩ := id hA
    obtain ⟨q0, q1, q2, q3, q4, q5, q6, q7, q8, q9, q10⟩ := id hB
    go_wp2_with fail
    refine (C2.out _).mono ?_
    rintro _ w4 ⟨rfl, hb⟩
    have hb4 := chain hb3 hb
    replace hA := hA.keep hb
    replace hB := hB.keep hb
    clear hb hb3
    clear p0 p1 p2 p3 p4 p5 p6 p7 p8 p9 p10 q0 q1 q2 q3 q4 q5 q6 q7 q8 q9 q10
    obtain ⟨p0, p1, p2, p3, p4, p5, p6, p7, p8, p9, p10⟩ := id hA
    obtain ⟨q0, q1, q2, q3, q4, q5, q6, q7, q8, q9, q10⟩ := id hB
    go_wp2
    go_ret
    exact ⟨rfl, hb4⟩
  · have hm2 : m = 0 := by omega
    subst hm2
    have hq2 : q = true := hq.1 rfl
    subst hq2
    clear hm hq
    go_enter Tryd.func5, Tryd.ntmps5
    obtain ⟨p0, p1, p2, p3, p4, p5, p6, p7, p8, p9, p10⟩ := id hA
    obtain ⟨q0, q1, q2, q3, q4, q5, q6, q7, q8, q9, q10⟩ := id hB
    go_wp2_with fail
    refine (C1.out _).mono ?_
    rintro _ w1 ⟨rfl, hb⟩
    have hb1 := chain hb0 hb
    replace hA := hA.keep hb
    replace hB := hB.keep hb
    clear hb hb0
    clear p0 p1 p2 p3 p4 p5 p6 p7 p8 p9 p10 q0 q1 q2 q3 q4 q5 q6 q7 q8 q9 q10
    obtain ⟨p0, p1, p2, p3, p4, p5, p6, p7, p8, p9, p10⟩ := id hA
    obtain ⟨q0, q1, q2, q3, q4, q5, q6, q7, q8, q9, q10⟩ := id hB
    go_wp2_with fail
    refine (alive_any _).mono ?_
    rintro _ w2 ⟨rfl, hb⟩
    have hb2 := chain hb1 hb
    replace hA := hA.keep hb
    replace hB := hB.keep hb
    clear hb hb1
    clear p0 p1 p2 p3 p4 p5 p6 p7 p8 p9 p10 q0 q1 q2 q3 q4 q5 q6 q7 q8 q9 q10
    obtain ⟨p0, p1, p2, p3, p4, p5, p6, p7, p8, p9, p10⟩ := id hA
    obtain ⟨q0, q1, q2, q3, q4, q5, q6, q7, q8, q9, q10⟩ := id hB
    go_wp2_with fail
    refine (CR.out _).mono ?_
    rintro _ w3 ⟨rfl, hb⟩
    have hb3 := chain hb2 hb
    replace hA := hA.keep hb
    replace hB := hB.keep hb
    clear hb hb2
    clear p0 p1 p2 p3 p4 p5 p6 p7 p8 p9 p10 q0 q1 q2 q3 q4 q5 q6 q7 q8 q9 q10
    obtain ⟨p0, p1, p2, p3, p4, p5, p6, p7, p8, p9, p10⟩ := id hA
    obtain ⟨q0, q1, q2, q3, q4, q5, q6, q7, q8, q9, q10⟩ := id hB
    go_wp2_with fail
    refine (C2.out _).mono ?_
    rintro _ w4 ⟨rfl, hb⟩
    have hb4 := chain hb3 hb
    replace hA := hA.keep hb
    replace hB := hB.keep hb
    clear hb hb3
    clear p0 p1 p2 p3 p4 p5 p6 p7 p8 p9 p10 q0 q1 q2 q3 q4 q5 q6 q7 q8 q9 q10
    obtain ⟨p0, p1, p2, p3, p4, p5, p6, p7, p8, p9, p10⟩ := id hA
    obtain ⟨q0, q1, q2, q3, q4, q5, q6, q7, q8, q9, q10⟩ := id hB
    go_wp2
    go_ret
    exact ⟨rfl, hb4⟩
  · have hm2 : m = -1 := by omega
    subst hm2
    have hq2 : q = false := by cases q with | true => exact absurd (hq.2 rfl) (by decide) | false => rfl
    subst hq2
    clear hm hq
    go_enter Tryd.func5, Tryd.ntmps5
    obtain ⟨p0, p1, p2, p3, p4, p5, p6, p7, p8, p9, p10⟩ := id hA
    obtain ⟨q0, q1, q2, q3, q4, q5, q6, q7, q8, q9, q10⟩ := id hB
    go_wp2_with fail
    refine (C1.out _).mono ?_
    rintro _ w1 ⟨rfl, hb⟩
    have hb1 := chain hb0 hb
    replace hA := hA.keep hb
    replace hB := hB.keep hb
    clear hb hb0
    clear p0 p1 p2 p3 p4 p5 p6 p7 p8 p9 p10 q0 q1 q2 q3 q4 q5 q6 q7 q8 q9 q10
    obtain ⟨p0, p1, p2, p3, p4, p5, p6, p7, p8, p9, p10⟩ := id hA
    obtain ⟨q0, q1, q2, q3, q4, q5, q6, q7, q8, q9, q10⟩ := id hB
    go_wp2_with fail
    refine (alive_any _).mono ?_
    rintro _ w2 ⟨rfl, hb⟩
    have hb2 := chain hb1 hb
    replace hA := hA.keep hb
    replace hB := hB.keep hb
    clear hb hb1
    clear p0 p1 p2 p3 p4 p5 p6 p7 p8 p9 p10 q0 q1 q2 q3 q4 q5 q6 q7 q8 q9 q10
    obtain ⟨p0, p1, p2, p3, p4, p5, p6, p7, p8, p9, p10⟩ := id hA
    obtain ⟨q0, q1, q2, q3, q4, q5, q6, q7, q8, q9, q10⟩ := id hB
    go_wp2_with fail
    refine (CR.out _).mono ?_
    rintro _ w3 ⟨rfl, hb⟩
    have hb3 := chain hb2 hb
    replace hA := hA.keep hb
    replace hB := hB.keep hb
    clear hb hb2
    clear p0 p1 p2 p3 p4 p5 p6 p7 p8 p9 p10 q0 q1 q2 q3 q4 q5 q6 q7 q8 q9 q10
    obtain ⟨p0, p1, p2, p3, p4, p5, p6, p7, p8, p9, p10⟩ := id hA
    obtain ⟨q0, q1, q2, q3, q4, q5, q6, q7, q8, q9, q10⟩ := id hB
    go_wp2_with fail
    refine (C2.out _).mono ?_
    rintro _ w4 ⟨rfl, hb⟩
    have hb4 := chain hb3 hb
    replace hA := hA.keep hb
    replace hB := hB.keep hb
    clear hb hb3
    clear p0 p1 p2 p3 p4 p5 p6 p7 p8 p9 p10 q0 q1 q2 q3 q4 q5 q6 q7 q8 q9 q10
    obtain ⟨p0, p1, p2, p3, p4, p5, p6, p7, p8, p9, p10⟩ := id hA
    obtain ⟨q0, q1, q2, q3, q4, q5, q6, q7, q8, q9, q10⟩ := id hB
    go_wp2
    go_ret
    exact ⟨rfl, hb4⟩

set_option maxRecDepth 100000 in
theorem lifted (os : Os) (started : os.Started) (H : Type) (enc : TypeId × Value → H) :
    ReturnsInHanded {} Tryd.checked os 5 .any (fun w args => (Rows.cookieOrdersSpec.pre enc Tryd.prog Tryd.f5 [] false w args ∧ laidMetH Tryd.prog listed w) ∧ sizedMet enc Tryd.prog Tryd.f5 (OpenSpec.ofChange Rows.cookieOrdersSpec) false w args)
      (Rows.cookieOrdersSpec.post enc Tryd.prog Tryd.f5 false true false false) := by
  refine returnsInHanded_of_change_and (C := Tryd.checked) (X := fun w _ => laidMetH Tryd.prog listed w) (fun _ _ _ hh h => h.of_heap hh) own started (by kernel_rfl) Tryd.func5
    (ChangeSpec.witness_shaped (enc := enc) (C := Tryd.checked) (os := os) (X := fun w _ => laidMetH Tryd.prog listed w) false (laidOver (World.holding Tryd.prog os ⟨#[], #[], []⟩)) #[.agg #[.string ByteArray.empty, .string ByteArray.empty, .string ByteArray.empty, .string ByteArray.empty, .int .i64 0, .int .i64 0, .int .i64 0, .bool false, .bool false, .bool false, .int .i64 0], .agg #[.string ByteArray.empty, .string ByteArray.empty, .string ByteArray.empty, .string ByteArray.empty, .int .i64 0, .int .i64 0, .int .i64 0, .bool false, .bool false, .bool false, .int .i64 0]] 8 rfl (World.shaped_of_RefB (by kernel_rfl) (by kernel_rfl)) (by kernel_rfl) (by kernel_rfl) (by kernel_rfl) (laid_over os _)) ?_
  intro W base args ds gs before hval0 hW hcnd hsz0 hL _
  have hT := tabs_listed hL
  have hval : ∀ (j : Nat) t v, Tryd.f5.params[j]? = some t → args[j]? = some v → Value.okWide Tryd.prog W .any base t v := hval0
  have hsz : (DataW.weightsEach Tryd.prog (Tryd.f5.params.toList ++ Rows.cookieOrdersSpec.plain.varTypes Tryd.prog) (ds ++ gs)).all (· ≤ reachBytes) = true := hsz0
  have hW' := hW
  obtain ⟨p, q, hA0, hV, rfl, hfz, hnd⟩ := hW
  have hA : DataW.TrodAll enc Tryd.prog W 0 (fun _ => true) true Tryd.f5.params.toList args.toList ds p := hA0
  rw [Tryd.params5] at hA hval hsz
  obtain ⟨v0, vs0, d0, ds0, p0, q0, hargs, rfl, rfl, h0, r0⟩ := trodAll_cons hA
  obtain ⟨v1, vs1, d1, ds1, p1, q1, rfl, rfl, rfl, h1, r1⟩ := trodAll_cons r0
  obtain ⟨rfl, rfl, rfl⟩ := trodAll_nil r1
  obtain rfl : args = #[v0, v1] := by cases args; simp_all
  obtain ⟨rfl, rfl⟩ := trodVars_none hV
  have h0k := h0
  have hlt0 : ∀ x ∈ p0, x.block < W.heap.size := fun x hx => by simpa using hW'.lt x (by simp [hx])
  obtain ⟨ck0, rfl, w0⟩ := ck_opened h0 (hval 0 23 v0 rfl rfl)
  have h1k := h1
  have hlt1 : ∀ x ∈ p1, x.block < W.heap.size := fun x hx => by simpa using hW'.lt x (by simp [hx])
  obtain ⟨ck1, rfl, w1⟩ := ck_opened h1 (hval 1 23 v1 rfl rfl)
  clear hA0 hval0 hsz hsz0
  refine (walk ck0 ck1 w0 w1 W hT).mono fun e W' ⟨he, bel⟩ => ?_
  subst he
  exact ⟨_, rfl, _, _, _, [], _, [], hW', trodAll_mk1 (shut_bool Tryd.underlying4 _), (trodAll_cons_mk (Below.trod Tryd.laidOutK (by kernel_rfl) (of_decide_eq_true (by kernel_rfl)) h0k bel hlt0) (trodAll_cons_mk (Below.trod Tryd.laidOutK (by kernel_rfl) (of_decide_eq_true (by kernel_rfl)) h1k bel hlt1) trodAll_mk0)), rfl, bel.frame _, fun h => by cases h⟩

theorem over : Rows.cookieOrdersRow.holds Tryd.pinned (OpenSpec.ofChange Rows.cookieOrdersSpec) :=
  OpenClaim.holds_of_wide 5 Tryd.f5 rfl rfl rfl rfl rfl rfl rfl ⟨rfl, rfl, rfl, rfl, rfl⟩ rfl rfl rfl rfl rfl (by kernel_rfl) Tryd.func5 (by kernel_rfl)
    (of_decide_eq_true (by kernel_rfl)) (by unfold Func.isWrapper; first | (rw [if_pos (by decide +kernel)]; kernel_rfl) | (rw [if_neg (by decide +kernel)]; exact ⟨rfl, rfl⟩))
    (fun os started H enc _ => lifted os started H enc)

set_option maxRecDepth 100000 in
theorem card : Rows.CookieOrdersCardSaid :=
  Claim7.holds_tied_plain_at .later [] _ true Rows.cookieOrdersCard.stood.harness false
    over (fun _ h => by cases h) (by kernel_rfl) (fun _ h => by cases h) cookieOrders_row_tie rfl ⟨rfl, rfl⟩ (by kernel_rfl) rfl
    (fun f fn hf hfn => by
      obtain rfl : f = 5 := Option.some.inj ((show Tryd.prog.funcNamed Rows.cookieOrdersRow.func = some 5 by kernel_rfl).symm.trans hf) |>.symm
      obtain rfl : fn = Tryd.f5 := (Option.some.inj (Tryd.func5.symm.trans hfn)).symm
      exact ⟨by kernel_rfl, fun j t ht => by
        rw [Tryd.params5] at ht
        have hm : t ∈ [23] := by first | (simpa using Array.mem_of_getElem? ht) | (have hq := Array.mem_of_getElem? ht; simp at hq ⊢; omega)
        have hall : ([23].all fun u => !Tryd.prog.wantsStandIn u) = true := by kernel_rfl
        exact (show Tryd.prog.wantsStandIn t = false by simpa using List.all_eq_true.1 hall t hm)⟩)
    (by kernel_rfl)

end Go.Proofs.YtkpdejnhjbojpaaDoor.cookieOrders
namespace Go.Proofs.YtkpdejnhjbojpaaDoor
/-- The statement. -/
theorem cookieOrders_proved : Rows.CookieOrdersCardSaid := cookieOrders.card
end Go.Proofs.YtkpdejnhjbojpaaDoor
