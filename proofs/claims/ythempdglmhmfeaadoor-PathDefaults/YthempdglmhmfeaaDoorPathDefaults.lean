/-
  For every text s, cracknellaw12.PathDefaults(s) returns true and leaves it as it was. Conditions: none beyond the form's own (a string that is read takes at most 2^47 - 4096 bytes).
-/
import Derived.Test.YthempdglmhmfeaaDoorPatAlive
import Derived.Test.YthempdglmhmfeaaDoorU8Laid
import Derived.Test.YthempdglmhmfeaaDoorTie
import Derived.Test.YthempdglmhmfeaaDoorCards
import Derived.SevenTiedAt
import Derived.LaidLaws
import Derived.Stop.Joined
import Derived.ProofKit
import Derived.OpenShut
import Derived.ShutString
import Derived.ChangeOld
import Derived.SizedLaws
namespace Go.Proofs.YthempdglmhmfeaaDoor.pathDefaults
open Go.ChangeShapes Go.WideShapes Go.ChangeAt Go.RowKit
open Go.ChangeMaps (open_string shut_string)
set_option linter.unusedVariables false

theorem own : ownKnob Tryd.prog.godebug = none := by kernel_rfl

theorem defB_size (s : ByteArray) : (defB s).size ≤ s.size + 1 := by
  have hh : (defL s.data.toList).length ≤ s.data.toList.length + 1 := by
    unfold defL
    split
    · split
      · simp
      · rw [List.length_take]; omega
    · simp
  rw [list_len] at hh
  show (defL s.data.toList).toArray.size ≤ _
  simpa using hh
theorem def_ok (s : ByteArray) (h : rightB s.data.toList = true) : rightB (defB s).data.toList = true ∧ pmB s.data.toList (defB s).data.toList = true := def_right _ h

set_option maxRecDepth 100000 in
set_option maxHeartbeats 1600000 in
theorem walk (a0 : ByteArray) (w0 : a0.size ≤ 140737488351232) (w : World) (hT : Tabs w) :
    Calls Tryd.prog 3 #[.string a0] w fun e w' => e = .returned (.bool true) ∧ Below w.heap.size w w' := by
  by_cases hla0 : (1000 : Int) < (a0.size : Int)
  · go_enter Tryd.func3, Tryd.ntmps3
    go_wp2_with fail
    with_reducible refine (alive_any _).mono ?_
    rintro _ w1 ⟨rfl, hb1⟩
    go_wp2
    go_ret
    exact ⟨rfl, hb1⟩
  have hz : a0.size ≤ 1000000 := by omega
  obtain ⟨D, hD⟩ : ∃ D, D = defB a0 := ⟨_, rfl⟩
  have hdz : D.size ≤ 1000000 := by rw [hD]; have := defB_size a0; omega
  have HD := Lib.hid hD.symm
  clear w0
  cases hr : rightB a0.data.toList
  · have HR := Lib.hid hr
    clear hr hD
    go_enter Tryd.func3, Tryd.ntmps3
    go_wp2_with fail
    with_reducible refine (def_at _ hz HD.out).mono ?_
    rintro _ w1 ⟨rfl, hb1⟩
    go_wp2_with fail
    with_reducible refine (alive_any _).mono ?_
    rintro _ w2 ⟨rfl, hb⟩
    have hb2 := chain hb1 hb
    clear hb hb1
    go_wp2_with fail
    with_reducible refine (rgt_at _ hz HR.out).mono ?_
    rintro _ w3 ⟨rfl, hb⟩
    have hb3 := chain hb2 hb
    clear hb hb2
    go_wp2_with fail
    with_reducible refine (rrgt_at _ hz HR.out).mono ?_
    rintro _ w4 ⟨rfl, hb⟩
    have hb4 := chain hb3 hb
    clear hb hb3
    go_wp2_with fail
    with_reducible refine (rdef_at _ hz HD.out).mono ?_
    rintro _ w5 ⟨rfl, hb⟩
    have hb5 := chain hb4 hb
    clear hb hb4
    go_wp2_with fail
    with_reducible refine (rgt_at _ hz HR.out).mono ?_
    rintro _ w6 ⟨rfl, hb⟩
    have hb6 := chain hb5 hb
    clear hb hb5
    go_wp2
    go_ret
    exact ⟨rfl, hb6⟩
  · have HO := Lib.hid (def_ok a0 hr)
    rw [← hD] at HO
    have HR := Lib.hid hr
    clear hr hD
    go_enter Tryd.func3, Tryd.ntmps3
    go_wp2_with fail
    with_reducible refine (def_at _ hz HD.out).mono ?_
    rintro _ w1 ⟨rfl, hb1⟩
    go_wp2_with fail
    with_reducible refine (alive_any _).mono ?_
    rintro _ w2 ⟨rfl, hb⟩
    have hb2 := chain hb1 hb
    clear hb hb1
    go_wp2_with fail
    with_reducible refine (rgt_at _ hz HR.out).mono ?_
    rintro _ w3 ⟨rfl, hb⟩
    have hb3 := chain hb2 hb
    clear hb hb2
    go_wp2_with fail
    with_reducible refine (rrgt_at _ hz HR.out).mono ?_
    rintro _ w4 ⟨rfl, hb⟩
    have hb4 := chain hb3 hb
    clear hb hb3
    go_wp2_with fail
    with_reducible refine (rdef_at _ hz HD.out).mono ?_
    rintro _ w5 ⟨rfl, hb⟩
    have hb5 := chain hb4 hb
    clear hb hb4
    go_wp2_with fail
    with_reducible refine (rgt_at _ hz HR.out).mono ?_
    rintro _ w6 ⟨rfl, hb⟩
    have hb6 := chain hb5 hb
    clear hb hb5
    go_wp2_with fail
    with_reducible refine (rgt_at _ hdz HO.out.1).mono ?_
    rintro _ w7 ⟨rfl, hb⟩
    have hb7 := chain hb6 hb
    clear hb hb6
    go_wp2_with fail
    with_reducible refine (mt_at _ hz hdz HO.out.2).mono ?_
    rintro _ w8 ⟨rfl, hb⟩
    have hb8 := chain hb7 hb
    clear hb hb7
    go_wp2
    go_ret
    exact ⟨rfl, hb8⟩

set_option maxRecDepth 100000 in
theorem lifted (os : Os) (started : os.Started) (H : Type) (enc : TypeId × Value → H) :
    ReturnsInHanded {} Tryd.checked os 3 .any (fun w args => (Rows.pathDefaultsSpec.pre enc Tryd.prog Tryd.f3 [] false w args ∧ laidMetH Tryd.prog listed w) ∧ sizedMet enc Tryd.prog Tryd.f3 (OpenSpec.ofChange Rows.pathDefaultsSpec) false w args)
      (Rows.pathDefaultsSpec.post enc Tryd.prog Tryd.f3 false true false false) := by
  refine returnsInHanded_of_change_and (C := Tryd.checked) (X := fun w _ => laidMetH Tryd.prog listed w) (fun _ _ _ hh h => h.of_heap hh) own started (by kernel_rfl) Tryd.func3
    (ChangeSpec.witness_shaped (enc := enc) (C := Tryd.checked) (os := os) (X := fun w _ => laidMetH Tryd.prog listed w) false (laidOver (World.holding Tryd.prog os ⟨#[], #[], []⟩)) #[.string ByteArray.empty] 8 rfl (World.shaped_of_RefB (by kernel_rfl) (by kernel_rfl)) (by kernel_rfl) (by kernel_rfl) (by kernel_rfl) (laid_over os _)) ?_
  intro W base args ds gs before hval0 hW hcnd hsz0 hL _
  have hT := tabs_listed hL
  have hval : ∀ (j : Nat) t v, Tryd.f3.params[j]? = some t → args[j]? = some v → Value.okWide Tryd.prog W .any base t v := hval0
  have hsz : (DataW.weightsEach Tryd.prog (Tryd.f3.params.toList ++ Rows.pathDefaultsSpec.plain.varTypes Tryd.prog) (ds ++ gs)).all (· ≤ reachBytes) = true := hsz0
  have hW' := hW
  obtain ⟨p, q, hA0, hV, rfl, hfz, hnd⟩ := hW
  have hA : DataW.TrodAll enc Tryd.prog W 0 (fun _ => true) true Tryd.f3.params.toList args.toList ds p := hA0
  rw [Tryd.params3] at hA hval hsz
  obtain ⟨v0, vs0, d0, ds0, p0, q0, hargs, rfl, rfl, h0, r0⟩ := trodAll_cons hA
  obtain ⟨rfl, rfl, rfl⟩ := trodAll_nil r0
  obtain rfl : args = #[v0] := by cases args; simp_all
  obtain ⟨rfl, rfl⟩ := trodVars_none hV
  obtain ⟨a0, rfl, rfl, rfl, m0⟩ := open_string Tryd.underlying9 (hval 0 9 v0 rfl rfl) h0
  have w0 : a0.size ≤ 140737488351232 := by
    have h := sized_string hsz (j := 0) (t := 9) rfl rfl
    have e : a0.data.toList.length = a0.size := by simp
    unfold reachBytes at h
    omega
  clear hA0 hval0 hsz hsz0
  refine (walk a0 w0 W hT).mono fun e W' ⟨he, bel⟩ => ?_
  subst he
  exact ⟨_, rfl, _, _, _, [], _, [], hW', trodAll_mk1 (shut_bool Tryd.underlying4 _), (trodAll_cons_mk (shut_string Tryd.underlying9 m0) trodAll_mk0), rfl, bel.frame _, fun h => by cases h⟩

theorem over : Rows.pathDefaultsRow.holds Tryd.pinned (OpenSpec.ofChange Rows.pathDefaultsSpec) :=
  OpenClaim.holds_of_wide 3 Tryd.f3 rfl rfl rfl rfl rfl rfl rfl ⟨rfl, rfl, rfl, rfl, rfl⟩ rfl rfl rfl rfl rfl (by kernel_rfl) Tryd.func3 (by kernel_rfl)
    (of_decide_eq_true (by kernel_rfl)) (by unfold Func.isWrapper; first | (rw [if_pos (by decide +kernel)]; kernel_rfl) | (rw [if_neg (by decide +kernel)]; exact ⟨rfl, rfl⟩))
    (fun os started H enc _ => lifted os started H enc)

set_option maxRecDepth 100000 in
theorem card : Rows.PathDefaultsCardSaid :=
  Claim7.holds_tied_plain_at .later [] _ true Rows.pathDefaultsCard.stood.harness false
    over (fun _ h => by cases h) (by kernel_rfl) (fun _ h => by cases h) pathDefaults_row_tie rfl ⟨rfl, rfl⟩ (by kernel_rfl) rfl
    (fun f fn hf hfn => by
      obtain rfl : f = 3 := Option.some.inj ((show Tryd.prog.funcNamed Rows.pathDefaultsRow.func = some 3 by kernel_rfl).symm.trans hf) |>.symm
      obtain rfl : fn = Tryd.f3 := (Option.some.inj (Tryd.func3.symm.trans hfn)).symm
      exact ⟨by kernel_rfl, fun j t ht => by
        rw [Tryd.params3] at ht
        have hm : t ∈ [9] := by first | (simpa using Array.mem_of_getElem? ht) | (have hq := Array.mem_of_getElem? ht; simp at hq ⊢; omega)
        have hall : ([9].all fun u => !Tryd.prog.wantsStandIn u) = true := by kernel_rfl
        exact (show Tryd.prog.wantsStandIn t = false by simpa using List.all_eq_true.1 hall t hm)⟩)
    (by kernel_rfl)

end Go.Proofs.YthempdglmhmfeaaDoor.pathDefaults
namespace Go.Proofs.YthempdglmhmfeaaDoor
/-- The statement. -/
theorem pathDefaults_proved : Rows.PathDefaultsCardSaid := pathDefaults.card
end Go.Proofs.YthempdglmhmfeaaDoor
