/-
  For every number days, cracknellaw09.CivilWeekdays(days) returns true and leaves it as it was. Conditions: none.
-/
import Derived.Test.YtfpakabdgnnheaaDoorCivAlive
import Derived.Test.YtfpakabdgnnheaaDoorCivLaid
import Derived.Test.YtfpakabdgnnheaaDoorTie
import Derived.Test.YtfpakabdgnnheaaDoorCards
import Derived.SevenTiedAt
import Derived.LaidLaws
import Derived.Stop.Joined
import Derived.ProofKit
import Derived.OpenShut
import Derived.ShutString
import Derived.ChangeOld
import Derived.SizedLaws
namespace Go.Proofs.YtfpakabdgnnheaaDoor.civilWeekdays
open Go.ChangeShapes Go.WideShapes Go.ChangeAt Go.RowKit
open Go.ChangeMaps (open_string shut_string)
set_option linter.unusedVariables false

theorem own : ownKnob Tryd.prog.godebug = none := by kernel_rfl

theorem wday_range (n : Int) : 0 ≤ wday n ∧ wday n < 7 := by unfold wday; omega
theorem wday_seven (n : Int) : wday (n + 7) = wday n := by unfold wday; omega
theorem wday_one (n : Int) : wday (n + 1) = (wday n + 1) % 7 := by unfold wday; omega

set_option maxRecDepth 100000 in
set_option maxHeartbeats 1600000 in
theorem walk (a0 : Int) (w0 : (Lit.int .i64 a0).wf = true) (w : World) (hT : Tabs w) :
    Calls Tryd.prog 6 #[.int .i64 a0] w fun e w' => e = .returned (.bool true) ∧ Below w.heap.size w w' := by
  obtain ⟨l0, u0⟩ := bounds_i64 w0
  clear w0
  obtain ⟨x, hx⟩ : ∃ x, x = wday a0 := ⟨_, rfl⟩
  obtain ⟨x0, x6⟩ := wday_range a0
  rw [← hx] at x0 x6
  have HW := Lib.hid (at_weekday (k := x) · hx.symm ⟨l0, u0⟩)
  have HR := Lib.hid (rweekday_any a0)
  rw [← hx] at HR
  have e7 := wday_seven a0
  have e1 := wday_one a0
  rw [← hx] at e7 e1
  clear hx
  by_cases hb : 1152921504606846976 < a0
  · clear e7 e1
    go_enter Tryd.func6, Tryd.ntmps6
    go_wp2_with fail
    with_reducible refine (HW.out _).mono ?_
    rintro _ w1 ⟨rfl, hb1⟩
    replace hT := hT.keep hb1
    go_wp2_with fail
    with_reducible refine (alive_any _ hT).mono ?_
    rintro _ w2 ⟨rfl, hb⟩
    have hb2 := chain hb1 hb
    replace hT := hT.keep hb
    clear hb hb1
    go_wp2_with fail
    with_reducible refine (HR.out _).mono ?_
    rintro _ wz ⟨rfl, rfl⟩
    go_wp2
    go_ret
    exact ⟨rfl, hb2⟩
  by_cases hs : a0 < -1152921504606846976
  · clear e7 e1
    go_enter Tryd.func6, Tryd.ntmps6
    go_wp2_with fail
    with_reducible refine (HW.out _).mono ?_
    rintro _ w1 ⟨rfl, hb1⟩
    replace hT := hT.keep hb1
    go_wp2_with fail
    with_reducible refine (alive_any _ hT).mono ?_
    rintro _ w2 ⟨rfl, hb⟩
    have hb2 := chain hb1 hb
    replace hT := hT.keep hb
    clear hb hb1
    go_wp2_with fail
    with_reducible refine (HR.out _).mono ?_
    rintro _ wz ⟨rfl, rfl⟩
    go_wp2
    go_ret
    exact ⟨rfl, hb2⟩
  have H7 := Lib.hid (at_weekday (n := a0 + 7) (k := x) · e7 ⟨by omega, by omega⟩)
  have H1 := Lib.hid (at_weekday (n := a0 + 1) (k := (x + 1) % 7) · e1 ⟨by omega, by omega⟩)
  clear e7 e1
  go_enter Tryd.func6, Tryd.ntmps6
  go_wp2_with fail
  with_reducible refine (HW.out _).mono ?_
  rintro _ w1 ⟨rfl, hb1⟩
  replace hT := hT.keep hb1
  go_wp2_with fail
  with_reducible refine (alive_any _ hT).mono ?_
  rintro _ w2 ⟨rfl, hb⟩
  have hb2 := chain hb1 hb
  replace hT := hT.keep hb
  clear hb hb1
  go_wp2_with fail
  with_reducible refine (HR.out _).mono ?_
  rintro _ wz ⟨rfl, rfl⟩
  go_wp2_with fail
  with_reducible refine (H7.out _).mono ?_
  rintro _ w3 ⟨rfl, hb⟩
  have hb3 := chain hb2 hb
  replace hT := hT.keep hb
  clear hb hb2
  go_wp2_with fail
  with_reducible refine (H1.out _).mono ?_
  rintro _ w4 ⟨rfl, hb⟩
  have hb4 := chain hb3 hb
  replace hT := hT.keep hb
  clear hb hb3
  go_wp2
  go_ret
  exact ⟨rfl, hb4⟩

set_option maxRecDepth 100000 in
theorem lifted (os : Os) (started : os.Started) (H : Type) (enc : TypeId × Value → H) :
    ReturnsInHanded {} Tryd.checked os 6 .any (fun w args => (Rows.civilWeekdaysSpec.pre enc Tryd.prog Tryd.f6 [] false w args ∧ laidMetH Tryd.prog listed w) ∧ sizedMet enc Tryd.prog Tryd.f6 (OpenSpec.ofChange Rows.civilWeekdaysSpec) false w args)
      (Rows.civilWeekdaysSpec.post enc Tryd.prog Tryd.f6 false true false false) := by
  refine returnsInHanded_of_change_and (C := Tryd.checked) (X := fun w _ => laidMetH Tryd.prog listed w) (fun _ _ _ hh h => h.of_heap hh) own started (by kernel_rfl) Tryd.func6
    (ChangeSpec.witness_shaped (enc := enc) (C := Tryd.checked) (os := os) (X := fun w _ => laidMetH Tryd.prog listed w) false (laidOver (World.holding Tryd.prog os ⟨#[], #[], []⟩)) #[.int .i64 0] 8 rfl (World.shaped_of_RefB (by kernel_rfl) (by kernel_rfl)) (by kernel_rfl) (by kernel_rfl) (by kernel_rfl) (laid_over os _)) ?_
  intro W base args ds gs before hval0 hW hcnd hsz0 hL _
  have hT := tabs_listed hL
  have hval : ∀ (j : Nat) t v, Tryd.f6.params[j]? = some t → args[j]? = some v → Value.okWide Tryd.prog W .any base t v := hval0
  have hsz : (DataW.weightsEach Tryd.prog (Tryd.f6.params.toList ++ Rows.civilWeekdaysSpec.plain.varTypes Tryd.prog) (ds ++ gs)).all (· ≤ reachBytes) = true := hsz0
  have hW' := hW
  obtain ⟨p, q, hA0, hV, rfl, hfz, hnd⟩ := hW
  have hA : DataW.TrodAll enc Tryd.prog W 0 (fun _ => true) true Tryd.f6.params.toList args.toList ds p := hA0
  rw [Tryd.params6] at hA hval hsz
  obtain ⟨v0, vs0, d0, ds0, p0, q0, hargs, rfl, rfl, h0, r0⟩ := trodAll_cons hA
  obtain ⟨rfl, rfl, rfl⟩ := trodAll_nil r0
  obtain rfl : args = #[v0] := by cases args; simp_all
  obtain ⟨rfl, rfl⟩ := trodVars_none hV
  obtain ⟨a0, rfl, rfl, rfl, w0⟩ := open_int Tryd.underlying3 (hval 0 3 v0 rfl rfl) h0
  clear hA0 hval0 hsz hsz0
  refine (walk a0 w0 W hT).mono fun e W' ⟨he, bel⟩ => ?_
  subst he
  exact ⟨_, rfl, _, _, _, [], _, [], hW', trodAll_mk1 (shut_bool Tryd.underlying4 _), (trodAll_cons_mk (shut_int Tryd.underlying3 w0) trodAll_mk0), rfl, bel.frame _, fun h => by cases h⟩

theorem over : Rows.civilWeekdaysRow.holds Tryd.pinned (OpenSpec.ofChange Rows.civilWeekdaysSpec) :=
  OpenClaim.holds_of_wide 6 Tryd.f6 rfl rfl rfl rfl rfl rfl rfl ⟨rfl, rfl, rfl, rfl, rfl⟩ rfl rfl rfl rfl rfl (by kernel_rfl) Tryd.func6 (by kernel_rfl)
    (of_decide_eq_true (by kernel_rfl)) (by unfold Func.isWrapper; first | (rw [if_pos (by decide +kernel)]; kernel_rfl) | (rw [if_neg (by decide +kernel)]; exact ⟨rfl, rfl⟩))
    (fun os started H enc _ => lifted os started H enc)

set_option maxRecDepth 100000 in
theorem card : Rows.CivilWeekdaysCardSaid :=
  Claim7.holds_tied_plain_at .later [] _ true Rows.civilWeekdaysCard.stood.harness false
    over (fun _ h => by cases h) (by kernel_rfl) (fun _ h => by cases h) civilWeekdays_row_tie rfl ⟨rfl, rfl⟩ (by kernel_rfl) rfl
    (fun f fn hf hfn => by
      obtain rfl : f = 6 := Option.some.inj ((show Tryd.prog.funcNamed Rows.civilWeekdaysRow.func = some 6 by kernel_rfl).symm.trans hf) |>.symm
      obtain rfl : fn = Tryd.f6 := (Option.some.inj (Tryd.func6.symm.trans hfn)).symm
      exact ⟨by kernel_rfl, fun j t ht => by
        rw [Tryd.params6] at ht
        have hm : t ∈ [3] := by first | (simpa using Array.mem_of_getElem? ht) | (have hq := Array.mem_of_getElem? ht; simp at hq ⊢; omega)
        have hall : ([3].all fun u => !Tryd.prog.wantsStandIn u) = true := by kernel_rfl
        exact (show Tryd.prog.wantsStandIn t = false by simpa using List.all_eq_true.1 hall t hm)⟩)
    (by kernel_rfl)

end Go.Proofs.YtfpakabdgnnheaaDoor.civilWeekdays
namespace Go.Proofs.YtfpakabdgnnheaaDoor
/-- The statement. -/
theorem civilWeekdays_proved : Rows.CivilWeekdaysCardSaid := civilWeekdays.card
end Go.Proofs.YtfpakabdgnnheaaDoor
