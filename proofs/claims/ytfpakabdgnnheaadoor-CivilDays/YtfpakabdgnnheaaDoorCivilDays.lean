/-
  For all numbers year, month and day, cracknellaw09.CivilDays(year, month, day) returns true and leaves them as they were. Conditions: none.
-/
import Derived.Test.YtfpakabdgnnheaaDoorCivAlive
import Derived.Test.YtfpakabdgnnheaaDoorCivLaid
import Derived.Test.YtfpakabdgnnheaaDoorTie
import Derived.Test.YtfpakabdgnnheaaDoorCards
import Derived.SevenTiedAt
import Derived.LaidLaws
import Derived.Stop.Joined
import Derived.ProofKit
import Derived.OpenShut
import Derived.ShutString
import Derived.ChangeOld
import Derived.SizedLaws
namespace Go.Proofs.YtfpakabdgnnheaaDoor.civilDays
open Go.ChangeShapes Go.WideShapes Go.ChangeAt Go.RowKit
open Go.ChangeMaps (open_string shut_string)
set_option linter.unusedVariables false

theorem own : ownKnob Tryd.prog.godebug = none := by kernel_rfl

theorem day_yes (y m d : Int) (h : IsDay y m d) : Tells (dayNum y m d) y m d := ⟨h, rfl⟩
theorem zero_day : Tells 0 1970 1 1 := ⟨by decide, by decide⟩

set_option maxRecDepth 100000 in
set_option maxHeartbeats 1600000 in
theorem walk (a0 : Int) (a1 : Int) (a2 : Int) (w0 : (Lit.int .i64 a0).wf = true) (w1 : (Lit.int .i64 a1).wf = true) (w2 : (Lit.int .i64 a2).wf = true) (w : World) (hT : Tabs w) :
    Calls Tryd.prog 3 #[.int .i64 a0, .int .i64 a1, .int .i64 a2] w fun e w' => e = .returned (.bool true) ∧ Below w.heap.size w w' := by
  obtain ⟨l0, u0⟩ := bounds_i64 w0
  obtain ⟨l1, u1⟩ := bounds_i64 w1
  obtain ⟨l2, u2⟩ := bounds_i64 w2
  clear w0 w1 w2
  by_cases hd : IsDay a0 a1 a2
  · have HD := Lib.hid hd
    clear hd
    obtain ⟨n, hn⟩ : ∃ n, n = dayNum a0 a1 a2 := ⟨_, rfl⟩
    have HT : Hid (Tells n a0 a1 a2) := by rw [hn]; exact day_yes _ _ _ HD.out
    have HY := Lib.hid (at_days (n := n) · HD.out hn.symm)
    have HR := Lib.hid (rdays_yes a0 a1 a2 · HD.out)
    rw [← hn] at HR
    clear hn
    go_enter Tryd.func3, Tryd.ntmps3
    go_wp2_with fail
    with_reducible refine (HY.out _ hT).mono ?_
    rintro _ w1 ⟨rfl, hb1⟩
    replace hT := hT.keep hb1
    go_wp2_with fail
    with_reducible refine (HR.out _).mono ?_
    rintro _ wz ⟨rfl, rfl⟩
    go_wp2_with fail
    with_reducible refine (date_yes n a0 a1 a2 _ HT.out hT).mono ?_
    rintro _ w2 ⟨rfl, hb⟩
    have hb2 := chain hb1 hb
    replace hT := hT.keep hb
    clear hb hb1
    go_wp2_with fail
    with_reducible refine (alive_any _ hT).mono ?_
    rintro _ w3 ⟨rfl, hb⟩
    have hb3 := chain hb2 hb
    replace hT := hT.keep hb
    clear hb hb2
    go_wp2_with fail
    with_reducible refine (length_any a0 a1 _ l0 u0 l1 u1 hT).mono ?_
    rintro _ w4 ⟨rfl, hb⟩
    have hb4 := chain hb3 hb
    replace hT := hT.keep hb
    clear hb hb3
    go_wp2_with fail
    with_reducible refine (rlength_any a0 a1 _).mono ?_
    rintro _ wz ⟨rfl, rfl⟩
    go_wp2_with fail
    with_reducible refine (leap_any a0 _ l0 u0).mono ?_
    rintro _ w5 ⟨rfl, hb⟩
    have hb5 := chain hb4 hb
    replace hT := hT.keep hb
    clear hb hb4
    go_wp2_with fail
    with_reducible refine (rleap_any a0 _).mono ?_
    rintro _ wz ⟨rfl, rfl⟩
    go_wp2
    go_ret
    exact ⟨rfl, hb5⟩
  · have HD := Lib.hid hd
    clear hd
    go_enter Tryd.func3, Tryd.ntmps3
    go_wp2_with fail
    with_reducible refine (days_no a0 a1 a2 _ HD.out ⟨l0, u0⟩ ⟨l1, u1⟩ ⟨l2, u2⟩ hT).mono ?_
    rintro _ w1 ⟨rfl, hb1⟩
    replace hT := hT.keep hb1
    go_wp2_with fail
    with_reducible refine (rdays_no a0 a1 a2 _ HD.out).mono ?_
    rintro _ wz ⟨rfl, rfl⟩
    go_wp2_with fail
    with_reducible refine (date_yes 0 1970 1 1 _ zero_day hT).mono ?_
    rintro _ w2 ⟨rfl, hb⟩
    have hb2 := chain hb1 hb
    replace hT := hT.keep hb
    clear hb hb1
    go_wp2_with fail
    with_reducible refine (alive_any _ hT).mono ?_
    rintro _ w3 ⟨rfl, hb⟩
    have hb3 := chain hb2 hb
    replace hT := hT.keep hb
    clear hb hb2
    go_wp2_with fail
    with_reducible refine (length_any a0 a1 _ l0 u0 l1 u1 hT).mono ?_
    rintro _ w4 ⟨rfl, hb⟩
    have hb4 := chain hb3 hb
    replace hT := hT.keep hb
    clear hb hb3
    go_wp2_with fail
    with_reducible refine (rlength_any a0 a1 _).mono ?_
    rintro _ wz ⟨rfl, rfl⟩
    go_wp2_with fail
    with_reducible refine (leap_any a0 _ l0 u0).mono ?_
    rintro _ w5 ⟨rfl, hb⟩
    have hb5 := chain hb4 hb
    replace hT := hT.keep hb
    clear hb hb4
    go_wp2_with fail
    with_reducible refine (rleap_any a0 _).mono ?_
    rintro _ wz ⟨rfl, rfl⟩
    go_wp2
    go_ret
    exact ⟨rfl, hb5⟩

set_option maxRecDepth 100000 in
theorem lifted (os : Os) (started : os.Started) (H : Type) (enc : TypeId × Value → H) :
    ReturnsInHanded {} Tryd.checked os 3 .any (fun w args => (Rows.civilDaysSpec.pre enc Tryd.prog Tryd.f3 [] false w args ∧ laidMetH Tryd.prog listed w) ∧ sizedMet enc Tryd.prog Tryd.f3 (OpenSpec.ofChange Rows.civilDaysSpec) false w args)
      (Rows.civilDaysSpec.post enc Tryd.prog Tryd.f3 false true false false) := by
  refine returnsInHanded_of_change_and (C := Tryd.checked) (X := fun w _ => laidMetH Tryd.prog listed w) (fun _ _ _ hh h => h.of_heap hh) own started (by kernel_rfl) Tryd.func3
    (ChangeSpec.witness_shaped (enc := enc) (C := Tryd.checked) (os := os) (X := fun w _ => laidMetH Tryd.prog listed w) false (laidOver (World.holding Tryd.prog os ⟨#[], #[], []⟩)) #[.int .i64 0, .int .i64 0, .int .i64 0] 8 rfl (World.shaped_of_RefB (by kernel_rfl) (by kernel_rfl)) (by kernel_rfl) (by kernel_rfl) (by kernel_rfl) (laid_over os _)) ?_
  intro W base args ds gs before hval0 hW hcnd hsz0 hL _
  have hT := tabs_listed hL
  have hval : ∀ (j : Nat) t v, Tryd.f3.params[j]? = some t → args[j]? = some v → Value.okWide Tryd.prog W .any base t v := hval0
  have hsz : (DataW.weightsEach Tryd.prog (Tryd.f3.params.toList ++ Rows.civilDaysSpec.plain.varTypes Tryd.prog) (ds ++ gs)).all (· ≤ reachBytes) = true := hsz0
  have hW' := hW
  obtain ⟨p, q, hA0, hV, rfl, hfz, hnd⟩ := hW
  have hA : DataW.TrodAll enc Tryd.prog W 0 (fun _ => true) true Tryd.f3.params.toList args.toList ds p := hA0
  rw [Tryd.params3] at hA hval hsz
  obtain ⟨v0, vs0, d0, ds0, p0, q0, hargs, rfl, rfl, h0, r0⟩ := trodAll_cons hA
  obtain ⟨v1, vs1, d1, ds1, p1, q1, rfl, rfl, rfl, h1, r1⟩ := trodAll_cons r0
  obtain ⟨v2, vs2, d2, ds2, p2, q2, rfl, rfl, rfl, h2, r2⟩ := trodAll_cons r1
  obtain ⟨rfl, rfl, rfl⟩ := trodAll_nil r2
  obtain rfl : args = #[v0, v1, v2] := by cases args; simp_all
  obtain ⟨rfl, rfl⟩ := trodVars_none hV
  obtain ⟨a0, rfl, rfl, rfl, w0⟩ := open_int Tryd.underlying3 (hval 0 3 v0 rfl rfl) h0
  obtain ⟨a1, rfl, rfl, rfl, w1⟩ := open_int Tryd.underlying3 (hval 1 3 v1 rfl rfl) h1
  obtain ⟨a2, rfl, rfl, rfl, w2⟩ := open_int Tryd.underlying3 (hval 2 3 v2 rfl rfl) h2
  clear hA0 hval0 hsz hsz0
  refine (walk a0 a1 a2 w0 w1 w2 W hT).mono fun e W' ⟨he, bel⟩ => ?_
  subst he
  exact ⟨_, rfl, _, _, _, [], _, [], hW', trodAll_mk1 (shut_bool Tryd.underlying4 _), (trodAll_cons_mk (shut_int Tryd.underlying3 w0) (trodAll_cons_mk (shut_int Tryd.underlying3 w1) (trodAll_cons_mk (shut_int Tryd.underlying3 w2) trodAll_mk0))), rfl, bel.frame _, fun h => by cases h⟩

theorem over : Rows.civilDaysRow.holds Tryd.pinned (OpenSpec.ofChange Rows.civilDaysSpec) :=
  OpenClaim.holds_of_wide 3 Tryd.f3 rfl rfl rfl rfl rfl rfl rfl ⟨rfl, rfl, rfl, rfl, rfl⟩ rfl rfl rfl rfl rfl (by kernel_rfl) Tryd.func3 (by kernel_rfl)
    (of_decide_eq_true (by kernel_rfl)) (by unfold Func.isWrapper; first | (rw [if_pos (by decide +kernel)]; kernel_rfl) | (rw [if_neg (by decide +kernel)]; exact ⟨rfl, rfl⟩))
    (fun os started H enc _ => lifted os started H enc)

set_option maxRecDepth 100000 in
theorem card : Rows.CivilDaysCardSaid :=
  Claim7.holds_tied_plain_at .later [] _ true Rows.civilDaysCard.stood.harness false
    over (fun _ h => by cases h) (by kernel_rfl) (fun _ h => by cases h) civilDays_row_tie rfl ⟨rfl, rfl⟩ (by kernel_rfl) rfl
    (fun f fn hf hfn => by
      obtain rfl : f = 3 := Option.some.inj ((show Tryd.prog.funcNamed Rows.civilDaysRow.func = some 3 by kernel_rfl).symm.trans hf) |>.symm
      obtain rfl : fn = Tryd.f3 := (Option.some.inj (Tryd.func3.symm.trans hfn)).symm
      exact ⟨by kernel_rfl, fun j t ht => by
        rw [Tryd.params3] at ht
        have hm : t ∈ [3] := by first | (simpa using Array.mem_of_getElem? ht) | (have hq := Array.mem_of_getElem? ht; simp at hq ⊢; omega)
        have hall : ([3].all fun u => !Tryd.prog.wantsStandIn u) = true := by kernel_rfl
        exact (show Tryd.prog.wantsStandIn t = false by simpa using List.all_eq_true.1 hall t hm)⟩)
    (by kernel_rfl)

end Go.Proofs.YtfpakabdgnnheaaDoor.civilDays
namespace Go.Proofs.YtfpakabdgnnheaaDoor
/-- The statement. -/
theorem civilDays_proved : Rows.CivilDaysCardSaid := civilDays.card
end Go.Proofs.YtfpakabdgnnheaaDoor
