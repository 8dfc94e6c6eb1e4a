/-
  For all texts a and b, cracknellaw12.PathMatches(a, b) returns true and leaves them as they were. Conditions: none beyond the form's own (a string that is read takes at most 2^47 - 4096 bytes).
-/
import Derived.Test.YthempdglmhmfeaaDoorPatAlive
import Derived.Test.YthempdglmhmfeaaDoorU8Laid
import Derived.Test.YthempdglmhmfeaaDoorTie
import Derived.Test.YthempdglmhmfeaaDoorCards
import Derived.SevenTiedAt
import Derived.LaidLaws
import Derived.Stop.Joined
import Derived.ProofKit
import Derived.OpenShut
import Derived.ShutString
import Derived.ChangeOld
import Derived.SizedLaws
namespace Go.Proofs.YthempdglmhmfeaaDoor.pathMatches
open Go.ChangeShapes Go.WideShapes Go.ChangeAt Go.RowKit
open Go.ChangeMaps (open_string shut_string)
set_option linter.unusedVariables false

theorem own : ownKnob Tryd.prog.godebug = none := by kernel_rfl

theorem pm_begin (a b : ByteArray) (h : pmB a.data.toList b.data.toList = true) : b.size ≤ a.size ∧ a.extract 0 b.size = b := by
  obtain ⟨h1, h2⟩ := pm_prefix _ _ h
  rw [list_len, list_len] at h1
  refine ⟨h1, ?_⟩
  apply ba_ext
  rw [extract_list, List.drop_zero, Nat.sub_zero]
  rw [list_len] at h2
  exact h2

set_option maxRecDepth 100000 in
set_option maxHeartbeats 1600000 in
theorem walk (a0 : ByteArray) (a1 : ByteArray) (w0 : a0.size ≤ 140737488351232) (w1 : a1.size ≤ 140737488351232) (w : World) (hT : Tabs w) :
    Calls Tryd.prog 4 #[.string a0, .string a1] w fun e w' => e = .returned (.bool true) ∧ Below w.heap.size w w' := by
  by_cases hla0 : (1000 : Int) < (a0.size : Int)
  · go_enter Tryd.func4, Tryd.ntmps4
    go_wp2_with fail
    with_reducible refine (alive_any _).mono ?_
    rintro _ w1 ⟨rfl, hb1⟩
    go_wp2
    go_ret
    exact ⟨rfl, hb1⟩
  by_cases hla1 : (1000 : Int) < (a1.size : Int)
  · go_enter Tryd.func4, Tryd.ntmps4
    go_wp2_with fail
    with_reducible refine (alive_any _).mono ?_
    rintro _ w1 ⟨rfl, hb1⟩
    go_wp2
    go_ret
    exact ⟨rfl, hb1⟩
  have hz0 : a0.size ≤ 1000000 := by omega
  have hz1 : a1.size ≤ 1000000 := by omega
  have HS := Lib.hid (pm_self a0.data.toList)
  clear w0 w1
  cases hp : pmB a0.data.toList a1.data.toList
  · have HP := Lib.hid hp
    clear hp
    go_enter Tryd.func4, Tryd.ntmps4
    go_wp2_with fail
    with_reducible refine (alive_any _).mono ?_
    rintro _ w1 ⟨rfl, hb1⟩
    go_wp2_with fail
    with_reducible refine (mt_at _ hz0 hz1 HP.out).mono ?_
    rintro _ w2 ⟨rfl, hb⟩
    have hb2 := chain hb1 hb
    clear hb hb1
    go_wp2_with fail
    with_reducible refine (rmt_at _ hz0 hz1 HP.out).mono ?_
    rintro _ w3 ⟨rfl, hb⟩
    have hb3 := chain hb2 hb
    clear hb hb2
    go_wp2_with fail
    with_reducible refine (mt_at _ hz0 hz0 HS.out).mono ?_
    rintro _ w4 ⟨rfl, hb⟩
    have hb4 := chain hb3 hb
    clear hb hb3
    go_wp2_with fail
    with_reducible refine (mt_at _ hz0 hz1 HP.out).mono ?_
    rintro _ w5 ⟨rfl, hb⟩
    have hb5 := chain hb4 hb
    clear hb hb4
    go_wp2
    go_ret
    exact ⟨rfl, hb5⟩
  · obtain ⟨g1, g2⟩ := pm_begin a0 a1 hp
    have hq : ((a0.extract 0 a1.size).toList == a1.toList) = true := by rw [g2]; simp
    have HP := Lib.hid hp
    clear hp
    go_enter Tryd.func4, Tryd.ntmps4
    go_wp2_with fail
    with_reducible refine (alive_any _).mono ?_
    rintro _ w1 ⟨rfl, hb1⟩
    go_wp2_with fail
    with_reducible refine (mt_at _ hz0 hz1 HP.out).mono ?_
    rintro _ w2 ⟨rfl, hb⟩
    have hb2 := chain hb1 hb
    clear hb hb1
    go_wp2_with fail
    with_reducible refine (rmt_at _ hz0 hz1 HP.out).mono ?_
    rintro _ w3 ⟨rfl, hb⟩
    have hb3 := chain hb2 hb
    clear hb hb2
    go_wp2_with fail
    with_reducible refine (mt_at _ hz0 hz0 HS.out).mono ?_
    rintro _ w4 ⟨rfl, hb⟩
    have hb4 := chain hb3 hb
    clear hb hb3
    go_wp2_with fail
    with_reducible refine (mt_at _ hz0 hz1 HP.out).mono ?_
    rintro _ w5 ⟨rfl, hb⟩
    have hb5 := chain hb4 hb
    clear hb hb4
    go_wp2
    go_ret
    exact ⟨rfl, hb5⟩

set_option maxRecDepth 100000 in
theorem lifted (os : Os) (started : os.Started) (H : Type) (enc : TypeId × Value → H) :
    ReturnsInHanded {} Tryd.checked os 4 .any (fun w args => (Rows.pathMatchesSpec.pre enc Tryd.prog Tryd.f4 [] false w args ∧ laidMetH Tryd.prog listed w) ∧ sizedMet enc Tryd.prog Tryd.f4 (OpenSpec.ofChange Rows.pathMatchesSpec) false w args)
      (Rows.pathMatchesSpec.post enc Tryd.prog Tryd.f4 false true false false) := by
  refine returnsInHanded_of_change_and (C := Tryd.checked) (X := fun w _ => laidMetH Tryd.prog listed w) (fun _ _ _ hh h => h.of_heap hh) own started (by kernel_rfl) Tryd.func4
    (ChangeSpec.witness_shaped (enc := enc) (C := Tryd.checked) (os := os) (X := fun w _ => laidMetH Tryd.prog listed w) false (laidOver (World.holding Tryd.prog os ⟨#[], #[], []⟩)) #[.string ByteArray.empty, .string ByteArray.empty] 8 rfl (World.shaped_of_RefB (by kernel_rfl) (by kernel_rfl)) (by kernel_rfl) (by kernel_rfl) (by kernel_rfl) (laid_over os _)) ?_
  intro W base args ds gs before hval0 hW hcnd hsz0 hL _
  have hT := tabs_listed hL
  have hval : ∀ (j : Nat) t v, Tryd.f4.params[j]? = some t → args[j]? = some v → Value.okWide Tryd.prog W .any base t v := hval0
  have hsz : (DataW.weightsEach Tryd.prog (Tryd.f4.params.toList ++ Rows.pathMatchesSpec.plain.varTypes Tryd.prog) (ds ++ gs)).all (· ≤ reachBytes) = true := hsz0
  have hW' := hW
  obtain ⟨p, q, hA0, hV, rfl, hfz, hnd⟩ := hW
  have hA : DataW.TrodAll enc Tryd.prog W 0 (fun _ => true) true Tryd.f4.params.toList args.toList ds p := hA0
  rw [Tryd.params4] at hA hval hsz
  obtain ⟨v0, vs0, d0, ds0, p0, q0, hargs, rfl, rfl, h0, r0⟩ := trodAll_cons hA
  obtain ⟨v1, vs1, d1, ds1, p1, q1, rfl, rfl, rfl, h1, r1⟩ := trodAll_cons r0
  obtain ⟨rfl, rfl, rfl⟩ := trodAll_nil r1
  obtain rfl : args = #[v0, v1] := by cases args; simp_all
  obtain ⟨rfl, rfl⟩ := trodVars_none hV
  obtain ⟨a0, rfl, rfl, rfl, m0⟩ := open_string Tryd.underlying9 (hval 0 9 v0 rfl rfl) h0
  obtain ⟨a1, rfl, rfl, rfl, m1⟩ := open_string Tryd.underlying9 (hval 1 9 v1 rfl rfl) h1
  have w0 : a0.size ≤ 140737488351232 := by
    have h := sized_string hsz (j := 0) (t := 9) rfl rfl
    have e : a0.data.toList.length = a0.size := by simp
    unfold reachBytes at h
    omega
  have w1 : a1.size ≤ 140737488351232 := by
    have h := sized_string hsz (j := 1) (t := 9) rfl rfl
    have e : a1.data.toList.length = a1.size := by simp
    unfold reachBytes at h
    omega
  clear hA0 hval0 hsz hsz0
  refine (walk a0 a1 w0 w1 W hT).mono fun e W' ⟨he, bel⟩ => ?_
  subst he
  exact ⟨_, rfl, _, _, _, [], _, [], hW', trodAll_mk1 (shut_bool Tryd.underlying4 _), (trodAll_cons_mk (shut_string Tryd.underlying9 m0) (trodAll_cons_mk (shut_string Tryd.underlying9 m1) trodAll_mk0)), rfl, bel.frame _, fun h => by cases h⟩

theorem over : Rows.pathMatchesRow.holds Tryd.pinned (OpenSpec.ofChange Rows.pathMatchesSpec) :=
  OpenClaim.holds_of_wide 4 Tryd.f4 rfl rfl rfl rfl rfl rfl rfl ⟨rfl, rfl, rfl, rfl, rfl⟩ rfl rfl rfl rfl rfl (by kernel_rfl) Tryd.func4 (by kernel_rfl)
    (of_decide_eq_true (by kernel_rfl)) (by unfold Func.isWrapper; first | (rw [if_pos (by decide +kernel)]; kernel_rfl) | (rw [if_neg (by decide +kernel)]; exact ⟨rfl, rfl⟩))
    (fun os started H enc _ => lifted os started H enc)

set_option maxRecDepth 100000 in
theorem card : Rows.PathMatchesCardSaid :=
  Claim7.holds_tied_plain_at .later [] _ true Rows.pathMatchesCard.stood.harness false
    over (fun _ h => by cases h) (by kernel_rfl) (fun _ h => by cases h) pathMatches_row_tie rfl ⟨rfl, rfl⟩ (by kernel_rfl) rfl
    (fun f fn hf hfn => by
      obtain rfl : f = 4 := Option.some.inj ((show Tryd.prog.funcNamed Rows.pathMatchesRow.func = some 4 by kernel_rfl).symm.trans hf) |>.symm
      obtain rfl : fn = Tryd.f4 := (Option.some.inj (Tryd.func4.symm.trans hfn)).symm
      exact ⟨by kernel_rfl, fun j t ht => by
        rw [Tryd.params4] at ht
        have hm : t ∈ [9] := by first | (simpa using Array.mem_of_getElem? ht) | (have hq := Array.mem_of_getElem? ht; simp at hq ⊢; omega)
        have hall : ([9].all fun u => !Tryd.prog.wantsStandIn u) = true := by kernel_rfl
        exact (show Tryd.prog.wantsStandIn t = false by simpa using List.all_eq_true.1 hall t hm)⟩)
    (by kernel_rfl)

end Go.Proofs.YthempdglmhmfeaaDoor.pathMatches
namespace Go.Proofs.YthempdglmhmfeaaDoor
/-- The statement. -/
theorem pathMatches_proved : Rows.PathMatchesCardSaid := pathMatches.card
end Go.Proofs.YthempdglmhmfeaaDoor
