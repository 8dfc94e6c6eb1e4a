/-
  For every number t, cracknellaw09.CivilOf(t) returns true and leaves it as it was. Conditions: none.
-/
import Derived.Test.YtfpakabdgnnheaaDoorCivAlive
import Derived.Test.YtfpakabdgnnheaaDoorCivLaid
import Derived.Test.YtfpakabdgnnheaaDoorTie
import Derived.Test.YtfpakabdgnnheaaDoorCards
import Derived.SevenTiedAt
import Derived.LaidLaws
import Derived.Stop.Joined
import Derived.ProofKit
import Derived.OpenShut
import Derived.ShutString
import Derived.ChangeOld
import Derived.SizedLaws
namespace Go.Proofs.YtfpakabdgnnheaaDoor.civilOf
open Go.ChangeShapes Go.WideShapes Go.ChangeAt Go.RowKit
open Go.ChangeMaps (open_string shut_string)
set_option linter.unusedVariables false

theorem own : ownKnob Tryd.prog.godebug = none := by kernel_rfl


set_option maxRecDepth 100000 in
set_option maxHeartbeats 1600000 in
theorem walk (a0 : Int) (w0 : (Lit.int .i64 a0).wf = true) (w : World) (hT : Tabs w) :
    Calls Tryd.prog 8 #[.int .i64 a0] w fun e w' => e = .returned (.bool true) ∧ Below w.heap.size w w' := by
  obtain ⟨l0, u0⟩ := bounds_i64 w0
  clear w0
  by_cases hr : -62135596800 ≤ a0 ∧ a0 ≤ 253402300799
  · obtain ⟨y, m, d, h, i, s, hs⟩ := exists_clock a0 hr.1 hr.2
    have HS := Lib.hid hs
    have HE := Lib.hid (at_epoch (n := a0) · hs.1 hs.2)
    clear hs
    go_enter Tryd.func8, Tryd.ntmps8
    go_wp2_with fail
    with_reducible refine (of_yes a0 y m d h i s _ HS.out hT).mono ?_
    rintro _ w1 ⟨rfl, hb1⟩
    replace hT := hT.keep hb1
    go_wp2_with fail
    have hc := ClkAt.new w1 y m d h i s 34
    replace hb1 := hb1.alloc hb1.size (.cells #[.int .i64 y, .int .i64 m, .int .i64 d, .int .i64 h, .int .i64 i, .int .i64 s] 34)
    replace hT := hT.alloc (.cells #[.int .i64 y, .int .i64 m, .int .i64 d, .int .i64 h, .int .i64 i, .int .i64 s] 34)
    with_reducible refine (rof_yes a0 y m d h i s _ HS.out).mono ?_
    rintro _ w2 ⟨rfl, hb⟩
    have hb2 := chain hb1 hb
    replace hT := hT.keep hb
    replace hc := hc.keep hb
    clear hb hb1
    have hx := hc.keep ((Below.refl _ _).alloc (Nat.le_refl _) (.cells #[.int .i64 y, .int .i64 m, .int .i64 d, .int .i64 h, .int .i64 i, .int .i64 s] 32))
    obtain ⟨hxc0, hxc1, hxc2, hxc3, hxc4, hxc5⟩ := id hx
    go_wp2_with fail
    clear hxc0 hxc1 hxc2 hxc3 hxc4 hxc5
    clear hx
    replace hc := hc.keep ((Below.refl _ _).alloc (Nat.le_refl _) (.cells #[.int .i64 y, .int .i64 m, .int .i64 d, .int .i64 h, .int .i64 i, .int .i64 s] 32))
    have hd := ClkAt.new w2 y m d h i s 32
    replace hb2 := hb2.alloc hb2.size (.cells #[.int .i64 y, .int .i64 m, .int .i64 d, .int .i64 h, .int .i64 i, .int .i64 s] 32)
    replace hT := hT.alloc (.cells #[.int .i64 y, .int .i64 m, .int .i64 d, .int .i64 h, .int .i64 i, .int .i64 s] 32)
    with_reducible refine (HE.out _ hT).mono ?_
    rintro _ w3 ⟨rfl, hb⟩
    have hb3 := chain hb2 hb
    replace hT := hT.keep hb
    replace hc := hc.keep hb
    replace hd := hd.keep hb
    clear hb hb2
    go_wp2_with fail
    with_reducible refine (alive_any _ hT).mono ?_
    rintro _ w4 ⟨rfl, hb⟩
    have hb4 := chain hb3 hb
    replace hT := hT.keep hb
    replace hc := hc.keep hb
    replace hd := hd.keep hb
    clear hb hb3
    obtain ⟨hcc0, hcc1, hcc2, hcc3, hcc4, hcc5⟩ := id hc
    obtain ⟨hdc0, hdc1, hdc2, hdc3, hdc4, hdc5⟩ := id hd
    go_wp2
    go_ret
    exact ⟨rfl, hb4⟩
  · have hn : a0 < -62135596800 ∨ 253402300799 < a0 := by omega
    have HN := Lib.hid hn
    clear hn hr
    go_enter Tryd.func8, Tryd.ntmps8
    go_wp2_with fail
    with_reducible refine (of_no a0 _ HN.out l0 u0 hT).mono ?_
    rintro _ w1 ⟨rfl, hb1⟩
    replace hT := hT.keep hb1
    go_wp2_with fail
    have hc := ClkAt.new w1 0 0 0 0 0 0 34
    replace hb1 := hb1.alloc hb1.size (.cells #[.int .i64 0, .int .i64 0, .int .i64 0, .int .i64 0, .int .i64 0, .int .i64 0] 34)
    replace hT := hT.alloc (.cells #[.int .i64 0, .int .i64 0, .int .i64 0, .int .i64 0, .int .i64 0, .int .i64 0] 34)
    with_reducible refine (rof_no a0 _ HN.out).mono ?_
    rintro _ w2 ⟨rfl, hb⟩
    have hb2 := chain hb1 hb
    replace hT := hT.keep hb
    replace hc := hc.keep hb
    clear hb hb1
    have hx := hc.keep ((Below.refl _ _).alloc (Nat.le_refl _) (.cells #[.int .i64 0, .int .i64 0, .int .i64 0, .int .i64 0, .int .i64 0, .int .i64 0] 32))
    obtain ⟨hxc0, hxc1, hxc2, hxc3, hxc4, hxc5⟩ := id hx
    go_wp2_with fail
    clear hxc0 hxc1 hxc2 hxc3 hxc4 hxc5
    clear hx
    replace hc := hc.keep ((Below.refl _ _).alloc (Nat.le_refl _) (.cells #[.int .i64 0, .int .i64 0, .int .i64 0, .int .i64 0, .int .i64 0, .int .i64 0] 32))
    have hd := ClkAt.new w2 0 0 0 0 0 0 32
    replace hb2 := hb2.alloc hb2.size (.cells #[.int .i64 0, .int .i64 0, .int .i64 0, .int .i64 0, .int .i64 0, .int .i64 0] 32)
    replace hT := hT.alloc (.cells #[.int .i64 0, .int .i64 0, .int .i64 0, .int .i64 0, .int .i64 0, .int .i64 0] 32)
    with_reducible refine (epoch_no 0 0 0 0 0 0 _ (by decide) (by decide) hT).mono ?_
    rintro _ w3 ⟨rfl, hb⟩
    have hb3 := chain hb2 hb
    replace hT := hT.keep hb
    replace hc := hc.keep hb
    replace hd := hd.keep hb
    clear hb hb2
    go_wp2_with fail
    with_reducible refine (alive_any _ hT).mono ?_
    rintro _ w4 ⟨rfl, hb⟩
    have hb4 := chain hb3 hb
    replace hT := hT.keep hb
    replace hc := hc.keep hb
    replace hd := hd.keep hb
    clear hb hb3
    obtain ⟨hcc0, hcc1, hcc2, hcc3, hcc4, hcc5⟩ := id hc
    obtain ⟨hdc0, hdc1, hdc2, hdc3, hdc4, hdc5⟩ := id hd
    go_wp2
    go_ret
    exact ⟨rfl, hb4⟩

set_option maxRecDepth 100000 in
theorem lifted (os : Os) (started : os.Started) (H : Type) (enc : TypeId × Value → H) :
    ReturnsInHanded {} Tryd.checked os 8 .any (fun w args => (Rows.civilOfSpec.pre enc Tryd.prog Tryd.f8 [] false w args ∧ laidMetH Tryd.prog listed w) ∧ sizedMet enc Tryd.prog Tryd.f8 (OpenSpec.ofChange Rows.civilOfSpec) false w args)
      (Rows.civilOfSpec.post enc Tryd.prog Tryd.f8 false true false false) := by
  refine returnsInHanded_of_change_and (C := Tryd.checked) (X := fun w _ => laidMetH Tryd.prog listed w) (fun _ _ _ hh h => h.of_heap hh) own started (by kernel_rfl) Tryd.func8
    (ChangeSpec.witness_shaped (enc := enc) (C := Tryd.checked) (os := os) (X := fun w _ => laidMetH Tryd.prog listed w) false (laidOver (World.holding Tryd.prog os ⟨#[], #[], []⟩)) #[.int .i64 0] 8 rfl (World.shaped_of_RefB (by kernel_rfl) (by kernel_rfl)) (by kernel_rfl) (by kernel_rfl) (by kernel_rfl) (laid_over os _)) ?_
  intro W base args ds gs before hval0 hW hcnd hsz0 hL _
  have hT := tabs_listed hL
  have hval : ∀ (j : Nat) t v, Tryd.f8.params[j]? = some t → args[j]? = some v → Value.okWide Tryd.prog W .any base t v := hval0
  have hsz : (DataW.weightsEach Tryd.prog (Tryd.f8.params.toList ++ Rows.civilOfSpec.plain.varTypes Tryd.prog) (ds ++ gs)).all (· ≤ reachBytes) = true := hsz0
  have hW' := hW
  obtain ⟨p, q, hA0, hV, rfl, hfz, hnd⟩ := hW
  have hA : DataW.TrodAll enc Tryd.prog W 0 (fun _ => true) true Tryd.f8.params.toList args.toList ds p := hA0
  rw [Tryd.params8] at hA hval hsz
  obtain ⟨v0, vs0, d0, ds0, p0, q0, hargs, rfl, rfl, h0, r0⟩ := trodAll_cons hA
  obtain ⟨rfl, rfl, rfl⟩ := trodAll_nil r0
  obtain rfl : args = #[v0] := by cases args; simp_all
  obtain ⟨rfl, rfl⟩ := trodVars_none hV
  obtain ⟨a0, rfl, rfl, rfl, w0⟩ := open_int Tryd.underlying3 (hval 0 3 v0 rfl rfl) h0
  clear hA0 hval0 hsz hsz0
  refine (walk a0 w0 W hT).mono fun e W' ⟨he, bel⟩ => ?_
  subst he
  exact ⟨_, rfl, _, _, _, [], _, [], hW', trodAll_mk1 (shut_bool Tryd.underlying4 _), (trodAll_cons_mk (shut_int Tryd.underlying3 w0) trodAll_mk0), rfl, bel.frame _, fun h => by cases h⟩

theorem over : Rows.civilOfRow.holds Tryd.pinned (OpenSpec.ofChange Rows.civilOfSpec) :=
  OpenClaim.holds_of_wide 8 Tryd.f8 rfl rfl rfl rfl rfl rfl rfl ⟨rfl, rfl, rfl, rfl, rfl⟩ rfl rfl rfl rfl rfl (by kernel_rfl) Tryd.func8 (by kernel_rfl)
    (of_decide_eq_true (by kernel_rfl)) (by unfold Func.isWrapper; first | (rw [if_pos (by decide +kernel)]; kernel_rfl) | (rw [if_neg (by decide +kernel)]; exact ⟨rfl, rfl⟩))
    (fun os started H enc _ => lifted os started H enc)

set_option maxRecDepth 100000 in
theorem card : Rows.CivilOfCardSaid :=
  Claim7.holds_tied_plain_at .later [] _ true Rows.civilOfCard.stood.harness false
    over (fun _ h => by cases h) (by kernel_rfl) (fun _ h => by cases h) civilOf_row_tie rfl ⟨rfl, rfl⟩ (by kernel_rfl) rfl
    (fun f fn hf hfn => by
      obtain rfl : f = 8 := Option.some.inj ((show Tryd.prog.funcNamed Rows.civilOfRow.func = some 8 by kernel_rfl).symm.trans hf) |>.symm
      obtain rfl : fn = Tryd.f8 := (Option.some.inj (Tryd.func8.symm.trans hfn)).symm
      exact ⟨by kernel_rfl, fun j t ht => by
        rw [Tryd.params8] at ht
        have hm : t ∈ [3] := by first | (simpa using Array.mem_of_getElem? ht) | (have hq := Array.mem_of_getElem? ht; simp at hq ⊢; omega)
        have hall : ([3].all fun u => !Tryd.prog.wantsStandIn u) = true := by kernel_rfl
        exact (show Tryd.prog.wantsStandIn t = false by simpa using List.all_eq_true.1 hall t hm)⟩)
    (by kernel_rfl)

end Go.Proofs.YtfpakabdgnnheaaDoor.civilOf
namespace Go.Proofs.YtfpakabdgnnheaaDoor
/-- The statement. -/
theorem civilOf_proved : Rows.CivilOfCardSaid := civilOf.card
end Go.Proofs.YtfpakabdgnnheaaDoor
