/-
  For all texts a and b, cracknellaw12.PathBelow(a, b) returns true and leaves them as they were. Conditions: none beyond the form's own (a string that is read takes at most 2^47 - 4096 bytes).
-/
import Derived.Test.YthempdglmhmfeaaDoorPatAlive
import Derived.BigQuiet
import Derived.Deep.QuietTactic
import Derived.Test.YthempdglmhmfeaaDoorU8Laid
import Derived.Test.YthempdglmhmfeaaDoorTie
import Derived.Test.YthempdglmhmfeaaDoorCards
import Derived.SevenTiedAt
import Derived.LaidLaws
import Derived.Stop.Joined
import Derived.ProofKit
import Derived.OpenShut
import Derived.ShutString
import Derived.ChangeOld
import Derived.SizedLaws
namespace Go.Proofs.YthempdglmhmfeaaDoor.pathBelow
open Go.ChangeShapes Go.WideShapes Go.ChangeAt Go.RowKit
open Go.ChangeMaps (open_string shut_string)
set_option linter.unusedVariables false

theorem own : ownKnob Tryd.prog.godebug = none := by kernel_rfl

theorem below_one (a b : ByteArray) : pmB (a ++ ⟨#[47]⟩ ++ b).data.toList a.data.toList = true := by
  have e : (a ++ ⟨#[47]⟩ ++ b).data.toList = a.data.toList ++ 47 :: b.data.toList := by rw [app_list, app_list, List.append_assoc]; rfl
  rw [e]
  exact pm_slash _ _
theorem below_two (a b : ByteArray) : pmB (a ++ ⟨#[47]⟩ ++ b).data.toList (a ++ ⟨#[47]⟩).data.toList = true := by
  have e : (a ++ ⟨#[47]⟩ ++ b).data.toList = a.data.toList ++ 47 :: b.data.toList := by rw [app_list, app_list, List.append_assoc]; rfl
  rw [e, app_list]
  exact pm_slash2 _ _
theorem below_more (a b : ByteArray) (hb : 0 < b.size) : pmB (a ++ b).data.toList a.data.toList = (decide (b[0] = 47) || (decide (0 < a.size) && decide (a.data.toList.getD (a.size - 1) 0 = 47))) := by
  rw [app_list, pm_more _ _ (fun e => absurd (show b.size = 0 by rw [← list_len, e, List.length_nil]) (by omega)), getD_b b 0 hb, list_len]
theorem not_empty {b : ByteArray} (h : 0 < b.size) : ¬ b.toList = [] := fun e => by
  rw [ByteArray.toList_eq] at e
  have : b.size = 0 := by rw [← list_len, e, List.length_nil]
  omega
theorem is_empty {b : ByteArray} (h : b.size = 0) : b.toList = [] := by
  rw [ByteArray.toList_eq]
  exact List.eq_nil_of_length_eq_zero (by rw [list_len]; exact h)
theorem isE_not {b : ByteArray} (h : ¬ b.toList = []) : b.toList.isEmpty = false := by cases e : b.toList with | nil => exact absurd e h | cons x t => rfl

set_option maxRecDepth 100000 in
set_option maxHeartbeats 1600000 in
theorem walk (a0 : ByteArray) (a1 : ByteArray) (w0 : a0.size ≤ 140737488351232) (w1 : a1.size ≤ 140737488351232) (w : World) (hT : Tabs w) :
    Calls Tryd.prog 6 #[.string a0, .string a1] w fun e w' => e = .returned (.bool true) ∧ Below w.heap.size w w' := by
  by_cases hla0 : (500 : Int) < (a0.size : Int)
  · go_enter Tryd.func6, Tryd.ntmps6
    go_wp2_with fail
    with_reducible refine (alive_any _).mono ?_
    rintro _ w1 ⟨rfl, hb1⟩
    go_wp2
    go_ret
    exact ⟨rfl, hb1⟩
  by_cases hla1 : (500 : Int) < (a1.size : Int)
  · go_enter Tryd.func6, Tryd.ntmps6
    go_wp2_with fail
    with_reducible refine (alive_any _).mono ?_
    rintro _ w1 ⟨rfl, hb1⟩
    go_wp2
    go_ret
    exact ⟨rfl, hb1⟩
  have hz0 : a0.size ≤ 1000000 := by omega
  have hzu : (a0 ++ ⟨#[47]⟩ ++ a1).size ≤ 1000000 := by rw [ByteArray.size_append, ByteArray.size_append]; show a0.size + 1 + a1.size ≤ _; omega
  have hzv : (a0 ++ ⟨#[47]⟩).size ≤ 1000000 := by rw [ByteArray.size_append]; show a0.size + 1 ≤ _; omega
  have hzw : (a0 ++ a1).size ≤ 1000000 := by rw [ByteArray.size_append]; omega
  have hsv : (a0 ++ ⟨#[47]⟩).size = a0.size + 1 := by rw [ByteArray.size_append]; rfl
  have H1 := Lib.hid (below_one a0 a1)
  have H2 := Lib.hid (below_two a0 a1)
  clear w0 w1
  by_cases hb : a1.size = 0
  · have he1 := is_empty hb
    have he2 : a1.toList.isEmpty = true := by rw [he1]; rfl
    have he3 : (a1.toList == []) = true := by rw [he1]; rfl
    go_enter Tryd.func6, Tryd.ntmps6
    go_wp2_with fail
    refine wp_region_ext (by kernel_rfl) (by kernel_rfl) ?_
    repeat (go_big_quiet_step (first
      | (go_at_call 9; with_reducible refine (alive_any _).mono ?_; rintro _ w1 ⟨rfl, hb1⟩; exact ⟨rfl, Ext.on _ hb1⟩)
      | (go_at_call 14; with_reducible refine (mt_at _ hzu hz0 H1.out).mono ?_; rintro _ w1 ⟨rfl, hb1⟩; exact ⟨rfl, Ext.on _ hb1⟩)
      | (go_at_call 14; with_reducible refine (mt_at _ hzu hzv H2.out).mono ?_; rintro _ w1 ⟨rfl, hb1⟩; exact ⟨rfl, Ext.on _ hb1⟩)))
    refine wpQuiet_nil ?_
    rintro _ ⟨x, rfl⟩
    have hb1 := x.below
    go_wp2
    go_ret
    exact ⟨rfl, hb1⟩
  have hp : 0 < a1.size := by omega
  have hn1 := not_empty hp
  have hn2 := isE_not hn1
  have hn3 : (a1.toList == []) = false := by cases e : a1.toList with | nil => exact absurd e hn1 | cons x t => rfl
  have HM := Lib.hid (below_more a0 a1 hp)
  by_cases hb0 : a1[0] = 47
  · have h47 : ((a1[0].toNat : Int) == 47) = true := beq_iff_eq.2 (u8_is hb0 47 rfl)
    have H3 : Hid (pmB (a0 ++ a1).data.toList a0.data.toList = true) := by show _ = _; rw [HM.out, decide_eq_true hb0]; rfl
    clear hb0 HM
    go_enter Tryd.func6, Tryd.ntmps6
    go_wp2_with fail
    refine wp_region_ext (by kernel_rfl) (by kernel_rfl) ?_
    repeat (go_big_quiet_step (first
      | (go_at_call 9; with_reducible refine (alive_any _).mono ?_; rintro _ w1 ⟨rfl, hb1⟩; exact ⟨rfl, Ext.on _ hb1⟩)
      | (go_at_call 14; with_reducible refine (mt_at _ hzu hz0 H1.out).mono ?_; rintro _ w1 ⟨rfl, hb1⟩; exact ⟨rfl, Ext.on _ hb1⟩)
      | (go_at_call 14; with_reducible refine (mt_at _ hzu hzv H2.out).mono ?_; rintro _ w1 ⟨rfl, hb1⟩; exact ⟨rfl, Ext.on _ hb1⟩)
      | (go_at_call 14; with_reducible refine (mt_at _ hzw hz0 H3.out).mono ?_; rintro _ w1 ⟨rfl, hb1⟩; exact ⟨rfl, Ext.on _ hb1⟩)))
    refine wpQuiet_nil ?_
    rintro _ ⟨x, rfl⟩
    have hb1 := x.below
    go_wp2
    go_ret
    exact ⟨rfl, hb1⟩
  have h47 : ((a1[0].toNat : Int) == 47) = false := beq_eq_false_iff_ne.2 (u8_isnt hb0 47 rfl)
  by_cases ha : a0.size = 0
  · have he1 := is_empty ha
    have he2 : a0.toList.isEmpty = true := by rw [he1]; rfl
    have he3 : (a0.toList == []) = true := by rw [he1]; rfl
    have H3 : Hid (pmB (a0 ++ a1).data.toList a0.data.toList = false) := by show _ = _; rw [HM.out, decide_eq_false hb0, decide_eq_false (show ¬ 0 < a0.size by omega)]; rfl
    clear hb0 HM
    go_enter Tryd.func6, Tryd.ntmps6
    go_wp2_with fail
    refine wp_region_ext (by kernel_rfl) (by kernel_rfl) ?_
    repeat (go_big_quiet_step (first
      | (go_at_call 9; with_reducible refine (alive_any _).mono ?_; rintro _ w1 ⟨rfl, hb1⟩; exact ⟨rfl, Ext.on _ hb1⟩)
      | (go_at_call 14; with_reducible refine (mt_at _ hzu hz0 H1.out).mono ?_; rintro _ w1 ⟨rfl, hb1⟩; exact ⟨rfl, Ext.on _ hb1⟩)
      | (go_at_call 14; with_reducible refine (mt_at _ hzu hzv H2.out).mono ?_; rintro _ w1 ⟨rfl, hb1⟩; exact ⟨rfl, Ext.on _ hb1⟩)
      | (go_at_call 14; with_reducible refine (mt_at _ hzw hz0 H3.out).mono ?_; rintro _ w1 ⟨rfl, hb1⟩; exact ⟨rfl, Ext.on _ hb1⟩)))
    refine wpQuiet_nil ?_
    rintro _ ⟨x, rfl⟩
    have hb1 := x.below
    go_wp2
    go_ret
    exact ⟨rfl, hb1⟩
  have hpa : 0 < a0.size := by omega
  have hm1 := not_empty hpa
  have hm2 := isE_not hm1
  have hm3 : (a0.toList == []) = false := by cases e : a0.toList with | nil => exact absurd e hm1 | cons x t => rfl
  have hla : a0.size - 1 < a0.size := by omega
  have hli : (a0.size : Int) - 1 < (a0.size : Int) := by omega
  have h0i : 0 ≤ (a0.size : Int) - 1 := by omega
  have h1i : 1 ≤ (a0.size : Int) := by omega
  have hni : ((a0.size : Int) - 1).toNat = a0.size - 1 := by omega
  by_cases hz : a0[a0.size - 1] = 47
  · have h48 : ((a0[a0.size - 1].toNat : Int) == 47) = true := beq_iff_eq.2 (u8_is hz 47 rfl)
    have H3 : Hid (pmB (a0 ++ a1).data.toList a0.data.toList = true) := by show _ = _; rw [HM.out, decide_eq_false hb0, decide_eq_true hpa, getD_b a0 _ hla, decide_eq_true hz]; rfl
    clear hb0 hz HM
    go_enter Tryd.func6, Tryd.ntmps6
    go_wp2_with fail
    refine wp_region_ext (by kernel_rfl) (by kernel_rfl) ?_
    repeat (go_big_quiet_step (first
      | (go_at_call 9; with_reducible refine (alive_any _).mono ?_; rintro _ w1 ⟨rfl, hb1⟩; exact ⟨rfl, Ext.on _ hb1⟩)
      | (go_at_call 14; with_reducible refine (mt_at _ hzu hz0 H1.out).mono ?_; rintro _ w1 ⟨rfl, hb1⟩; exact ⟨rfl, Ext.on _ hb1⟩)
      | (go_at_call 14; with_reducible refine (mt_at _ hzu hzv H2.out).mono ?_; rintro _ w1 ⟨rfl, hb1⟩; exact ⟨rfl, Ext.on _ hb1⟩)
      | (go_at_call 14; with_reducible refine (mt_at _ hzw hz0 H3.out).mono ?_; rintro _ w1 ⟨rfl, hb1⟩; exact ⟨rfl, Ext.on _ hb1⟩)))
    refine wpQuiet_nil ?_
    rintro _ ⟨x, rfl⟩
    have hb1 := x.below
    go_wp2
    go_ret
    exact ⟨rfl, hb1⟩
  · have h48 : ((a0[a0.size - 1].toNat : Int) == 47) = false := beq_eq_false_iff_ne.2 (u8_isnt hz 47 rfl)
    have H3 : Hid (pmB (a0 ++ a1).data.toList a0.data.toList = false) := by show _ = _; rw [HM.out, decide_eq_false hb0, decide_eq_true hpa, getD_b a0 _ hla, decide_eq_false hz]; rfl
    clear hb0 hz HM
    go_enter Tryd.func6, Tryd.ntmps6
    go_wp2_with fail
    refine wp_region_ext (by kernel_rfl) (by kernel_rfl) ?_
    repeat (go_big_quiet_step (first
      | (go_at_call 9; with_reducible refine (alive_any _).mono ?_; rintro _ w1 ⟨rfl, hb1⟩; exact ⟨rfl, Ext.on _ hb1⟩)
      | (go_at_call 14; with_reducible refine (mt_at _ hzu hz0 H1.out).mono ?_; rintro _ w1 ⟨rfl, hb1⟩; exact ⟨rfl, Ext.on _ hb1⟩)
      | (go_at_call 14; with_reducible refine (mt_at _ hzu hzv H2.out).mono ?_; rintro _ w1 ⟨rfl, hb1⟩; exact ⟨rfl, Ext.on _ hb1⟩)
      | (go_at_call 14; with_reducible refine (mt_at _ hzw hz0 H3.out).mono ?_; rintro _ w1 ⟨rfl, hb1⟩; exact ⟨rfl, Ext.on _ hb1⟩)))
    refine wpQuiet_nil ?_
    rintro _ ⟨x, rfl⟩
    have hb1 := x.below
    go_wp2
    go_ret
    exact ⟨rfl, hb1⟩

set_option maxRecDepth 100000 in
theorem lifted (os : Os) (started : os.Started) (H : Type) (enc : TypeId × Value → H) :
    ReturnsInHanded {} Tryd.checked os 6 .any (fun w args => (Rows.pathBelowSpec.pre enc Tryd.prog Tryd.f6 [] false w args ∧ laidMetH Tryd.prog listed w) ∧ sizedMet enc Tryd.prog Tryd.f6 (OpenSpec.ofChange Rows.pathBelowSpec) false w args)
      (Rows.pathBelowSpec.post enc Tryd.prog Tryd.f6 false true false false) := by
  refine returnsInHanded_of_change_and (C := Tryd.checked) (X := fun w _ => laidMetH Tryd.prog listed w) (fun _ _ _ hh h => h.of_heap hh) own started (by kernel_rfl) Tryd.func6
    (ChangeSpec.witness_shaped (enc := enc) (C := Tryd.checked) (os := os) (X := fun w _ => laidMetH Tryd.prog listed w) false (laidOver (World.holding Tryd.prog os ⟨#[], #[], []⟩)) #[.string ByteArray.empty, .string ByteArray.empty] 8 rfl (World.shaped_of_RefB (by kernel_rfl) (by kernel_rfl)) (by kernel_rfl) (by kernel_rfl) (by kernel_rfl) (laid_over os _)) ?_
  intro W base args ds gs before hval0 hW hcnd hsz0 hL _
  have hT := tabs_listed hL
  have hval : ∀ (j : Nat) t v, Tryd.f6.params[j]? = some t → args[j]? = some v → Value.okWide Tryd.prog W .any base t v := hval0
  have hsz : (DataW.weightsEach Tryd.prog (Tryd.f6.params.toList ++ Rows.pathBelowSpec.plain.varTypes Tryd.prog) (ds ++ gs)).all (· ≤ reachBytes) = true := hsz0
  have hW' := hW
  obtain ⟨p, q, hA0, hV, rfl, hfz, hnd⟩ := hW
  have hA : DataW.TrodAll enc Tryd.prog W 0 (fun _ => true) true Tryd.f6.params.toList args.toList ds p := hA0
  rw [Tryd.params6] at hA hval hsz
  obtain ⟨v0, vs0, d0, ds0, p0, q0, hargs, rfl, rfl, h0, r0⟩ := trodAll_cons hA
  obtain ⟨v1, vs1, d1, ds1, p1, q1, rfl, rfl, rfl, h1, r1⟩ := trodAll_cons r0
  obtain ⟨rfl, rfl, rfl⟩ := trodAll_nil r1
  obtain rfl : args = #[v0, v1] := by cases args; simp_all
  obtain ⟨rfl, rfl⟩ := trodVars_none hV
  obtain ⟨a0, rfl, rfl, rfl, m0⟩ := open_string Tryd.underlying9 (hval 0 9 v0 rfl rfl) h0
  obtain ⟨a1, rfl, rfl, rfl, m1⟩ := open_string Tryd.underlying9 (hval 1 9 v1 rfl rfl) h1
  have w0 : a0.size ≤ 140737488351232 := by
    have h := sized_string hsz (j := 0) (t := 9) rfl rfl
    have e : a0.data.toList.length = a0.size := by simp
    unfold reachBytes at h
    omega
  have w1 : a1.size ≤ 140737488351232 := by
    have h := sized_string hsz (j := 1) (t := 9) rfl rfl
    have e : a1.data.toList.length = a1.size := by simp
    unfold reachBytes at h
    omega
  clear hA0 hval0 hsz hsz0
  refine (walk a0 a1 w0 w1 W hT).mono fun e W' ⟨he, bel⟩ => ?_
  subst he
  exact ⟨_, rfl, _, _, _, [], _, [], hW', trodAll_mk1 (shut_bool Tryd.underlying4 _), (trodAll_cons_mk (shut_string Tryd.underlying9 m0) (trodAll_cons_mk (shut_string Tryd.underlying9 m1) trodAll_mk0)), rfl, bel.frame _, fun h => by cases h⟩

theorem over : Rows.pathBelowRow.holds Tryd.pinned (OpenSpec.ofChange Rows.pathBelowSpec) :=
  OpenClaim.holds_of_wide 6 Tryd.f6 rfl rfl rfl rfl rfl rfl rfl ⟨rfl, rfl, rfl, rfl, rfl⟩ rfl rfl rfl rfl rfl (by kernel_rfl) Tryd.func6 (by kernel_rfl)
    (of_decide_eq_true (by kernel_rfl)) (by unfold Func.isWrapper; first | (rw [if_pos (by decide +kernel)]; kernel_rfl) | (rw [if_neg (by decide +kernel)]; exact ⟨rfl, rfl⟩))
    (fun os started H enc _ => lifted os started H enc)

set_option maxRecDepth 100000 in
theorem card : Rows.PathBelowCardSaid :=
  Claim7.holds_tied_plain_at .later [] _ true Rows.pathBelowCard.stood.harness false
    over (fun _ h => by cases h) (by kernel_rfl) (fun _ h => by cases h) pathBelow_row_tie rfl ⟨rfl, rfl⟩ (by kernel_rfl) rfl
    (fun f fn hf hfn => by
      obtain rfl : f = 6 := Option.some.inj ((show Tryd.prog.funcNamed Rows.pathBelowRow.func = some 6 by kernel_rfl).symm.trans hf) |>.symm
      obtain rfl : fn = Tryd.f6 := (Option.some.inj (Tryd.func6.symm.trans hfn)).symm
      exact ⟨by kernel_rfl, fun j t ht => by
        rw [Tryd.params6] at ht
        have hm : t ∈ [9] := by first | (simpa using Array.mem_of_getElem? ht) | (have hq := Array.mem_of_getElem? ht; simp at hq ⊢; omega)
        have hall : ([9].all fun u => !Tryd.prog.wantsStandIn u) = true := by kernel_rfl
        exact (show Tryd.prog.wantsStandIn t = false by simpa using List.all_eq_true.1 hall t hm)⟩)
    (by kernel_rfl)

end Go.Proofs.YthempdglmhmfeaaDoor.pathBelow
namespace Go.Proofs.YthempdglmhmfeaaDoor
/-- The statement. -/
theorem pathBelow_proved : Rows.PathBelowCardSaid := pathBelow.card
end Go.Proofs.YthempdglmhmfeaaDoor
