/-
  For every clock c, cracknellaw09.CivilEpochs(c) returns true and leaves it as it was. Conditions: none.
-/
import Derived.Test.YtfpakabdgnnheaaDoorCivAlive
import Derived.Test.YtfpakabdgnnheaaDoorCivLaid
import Derived.Test.YtfpakabdgnnheaaDoorTie
import Derived.Test.YtfpakabdgnnheaaDoorCards
import Derived.SevenTiedAt
import Derived.LaidLaws
import Derived.Stop.Joined
import Derived.ProofKit
import Derived.OpenShut
import Derived.ShutString
import Derived.ChangeOld
import Derived.SizedLaws
namespace Go.Proofs.YtfpakabdgnnheaaDoor.civilEpochs
open Go.ChangeShapes Go.WideShapes Go.ChangeAt Go.RowKit
open Go.ChangeMaps (open_string shut_string)
set_option linter.unusedVariables false

theorem own : ownKnob Tryd.prog.godebug = none := by kernel_rfl

theorem zero_clock : Shows 0 1970 1 1 0 0 0 := ⟨by decide, by decide⟩
theorem all_six {a b c d e f : Int} (h : int64 a ∧ int64 b ∧ int64 c ∧ int64 d ∧ int64 e ∧ int64 f) : ∀ x ∈ [a, b, c, d, e, f], -9223372036854775808 ≤ x ∧ x ≤ 9223372036854775807 := by
  obtain ⟨h1, h2, h3, h4, h5, h6⟩ := h
  intro x hx
  simp only [List.mem_cons, List.not_mem_nil, or_false] at hx
  rcases hx with rfl | rfl | rfl | rfl | rfl | rfl <;> assumption

set_option maxRecDepth 100000 in
set_option maxHeartbeats 1600000 in
theorem walk (cy0 cm0 cd0 ch0 cn0 cs0 : Int) (w0 : int64 cy0 ∧ int64 cm0 ∧ int64 cd0 ∧ int64 ch0 ∧ int64 cn0 ∧ int64 cs0) (w : World) (hT : Tabs w) :
    Calls Tryd.prog 7 #[clkV cy0 cm0 cd0 ch0 cn0 cs0] w fun e w' => e = .returned (.bool true) ∧ Below w.heap.size w w' := by
  by_cases hc : IsClock cy0 cm0 cd0 ch0 cn0 cs0
  · obtain ⟨t, ht⟩ : ∃ t, t = secs cy0 cm0 cd0 ch0 cn0 cs0 := ⟨_, rfl⟩
    have HT : Hid (Shows t cy0 cm0 cd0 ch0 cn0 cs0) := ⟨hc, ht.symm⟩
    have HE := Lib.hid (at_epoch (n := t) · hc ht.symm)
    have HR := Lib.hid (repoch_yes cy0 cm0 cd0 ch0 cn0 cs0 · hc)
    rw [← ht] at HR
    clear hc ht w0
    go_enter Tryd.func7, Tryd.ntmps7
    go_wp2_with fail
    have hc := ClkAt.new w cy0 cm0 cd0 ch0 cn0 cs0 32
    have hb0 := (Below.refl w.heap.size w).alloc (Nat.le_refl _) (.cells #[.int .i64 cy0, .int .i64 cm0, .int .i64 cd0, .int .i64 ch0, .int .i64 cn0, .int .i64 cs0] 32)
    replace hT := hT.alloc (.cells #[.int .i64 cy0, .int .i64 cm0, .int .i64 cd0, .int .i64 ch0, .int .i64 cn0, .int .i64 cs0] 32)
    with_reducible refine (HE.out _ hT).mono ?_
    rintro _ w1 ⟨rfl, hb⟩
    have hb1 := chain hb0 hb
    replace hT := hT.keep hb
    replace hc := hc.keep hb
    clear hb hb0
    obtain ⟨hcc0, hcc1, hcc2, hcc3, hcc4, hcc5⟩ := id hc
    go_wp2_with fail
    clear hcc0 hcc1 hcc2 hcc3 hcc4 hcc5
    with_reducible refine (HR.out _).mono ?_
    rintro _ w2 ⟨rfl, hb⟩
    have hb2 := chain hb1 hb
    replace hT := hT.keep hb
    replace hc := hc.keep hb
    clear hb hb1
    go_wp2_with fail
    with_reducible refine (of_yes t cy0 cm0 cd0 ch0 cn0 cs0 _ HT.out hT).mono ?_
    rintro _ w3 ⟨rfl, hb⟩
    have hb3 := chain hb2 hb
    replace hT := hT.keep hb
    replace hc := hc.keep hb
    clear hb hb2
    go_wp2_with fail
    replace hc := hc.keep ((Below.refl _ _).alloc (Nat.le_refl _) (.cells #[.int .i64 cy0, .int .i64 cm0, .int .i64 cd0, .int .i64 ch0, .int .i64 cn0, .int .i64 cs0] 34))
    have hd := ClkAt.new w3 cy0 cm0 cd0 ch0 cn0 cs0 34
    replace hb3 := hb3.alloc hb3.size (.cells #[.int .i64 cy0, .int .i64 cm0, .int .i64 cd0, .int .i64 ch0, .int .i64 cn0, .int .i64 cs0] 34)
    replace hT := hT.alloc (.cells #[.int .i64 cy0, .int .i64 cm0, .int .i64 cd0, .int .i64 ch0, .int .i64 cn0, .int .i64 cs0] 34)
    with_reducible refine (alive_any _ hT).mono ?_
    rintro _ w4 ⟨rfl, hb⟩
    have hb4 := chain hb3 hb
    replace hT := hT.keep hb
    replace hc := hc.keep hb
    replace hd := hd.keep hb
    clear hb hb3
    obtain ⟨hcc0, hcc1, hcc2, hcc3, hcc4, hcc5⟩ := id hc
    obtain ⟨hdc0, hdc1, hdc2, hdc3, hdc4, hdc5⟩ := id hd
    go_wp2
    go_ret
    exact ⟨rfl, hb4⟩
  · have HE := Lib.hid (epoch_no cy0 cm0 cd0 ch0 cn0 cs0 · hc (all_six w0))
    have HR := Lib.hid (repoch_no cy0 cm0 cd0 ch0 cn0 cs0 · hc)
    clear hc w0
    go_enter Tryd.func7, Tryd.ntmps7
    go_wp2_with fail
    have hc := ClkAt.new w cy0 cm0 cd0 ch0 cn0 cs0 32
    have hb0 := (Below.refl w.heap.size w).alloc (Nat.le_refl _) (.cells #[.int .i64 cy0, .int .i64 cm0, .int .i64 cd0, .int .i64 ch0, .int .i64 cn0, .int .i64 cs0] 32)
    replace hT := hT.alloc (.cells #[.int .i64 cy0, .int .i64 cm0, .int .i64 cd0, .int .i64 ch0, .int .i64 cn0, .int .i64 cs0] 32)
    with_reducible refine (HE.out _ hT).mono ?_
    rintro _ w1 ⟨rfl, hb⟩
    have hb1 := chain hb0 hb
    replace hT := hT.keep hb
    replace hc := hc.keep hb
    clear hb hb0
    obtain ⟨hcc0, hcc1, hcc2, hcc3, hcc4, hcc5⟩ := id hc
    go_wp2_with fail
    clear hcc0 hcc1 hcc2 hcc3 hcc4 hcc5
    with_reducible refine (HR.out _).mono ?_
    rintro _ w2 ⟨rfl, hb⟩
    have hb2 := chain hb1 hb
    replace hT := hT.keep hb
    replace hc := hc.keep hb
    clear hb hb1
    go_wp2_with fail
    with_reducible refine (of_yes 0 1970 1 1 0 0 0 _ zero_clock hT).mono ?_
    rintro _ w3 ⟨rfl, hb⟩
    have hb3 := chain hb2 hb
    replace hT := hT.keep hb
    replace hc := hc.keep hb
    clear hb hb2
    go_wp2_with fail
    replace hc := hc.keep ((Below.refl _ _).alloc (Nat.le_refl _) (.cells #[.int .i64 1970, .int .i64 1, .int .i64 1, .int .i64 0, .int .i64 0, .int .i64 0] 34))
    have hd := ClkAt.new w3 1970 1 1 0 0 0 34
    replace hb3 := hb3.alloc hb3.size (.cells #[.int .i64 1970, .int .i64 1, .int .i64 1, .int .i64 0, .int .i64 0, .int .i64 0] 34)
    replace hT := hT.alloc (.cells #[.int .i64 1970, .int .i64 1, .int .i64 1, .int .i64 0, .int .i64 0, .int .i64 0] 34)
    with_reducible refine (alive_any _ hT).mono ?_
    rintro _ w4 ⟨rfl, hb⟩
    have hb4 := chain hb3 hb
    replace hT := hT.keep hb
    replace hc := hc.keep hb
    replace hd := hd.keep hb
    clear hb hb3
    obtain ⟨hcc0, hcc1, hcc2, hcc3, hcc4, hcc5⟩ := id hc
    obtain ⟨hdc0, hdc1, hdc2, hdc3, hdc4, hdc5⟩ := id hd
    go_wp2
    go_ret
    exact ⟨rfl, hb4⟩

set_option maxRecDepth 100000 in
theorem lifted (os : Os) (started : os.Started) (H : Type) (enc : TypeId × Value → H) :
    ReturnsInHanded {} Tryd.checked os 7 .any (fun w args => (Rows.civilEpochsSpec.pre enc Tryd.prog Tryd.f7 [] false w args ∧ laidMetH Tryd.prog listed w) ∧ sizedMet enc Tryd.prog Tryd.f7 (OpenSpec.ofChange Rows.civilEpochsSpec) false w args)
      (Rows.civilEpochsSpec.post enc Tryd.prog Tryd.f7 false true false false) := by
  refine returnsInHanded_of_change_and (C := Tryd.checked) (X := fun w _ => laidMetH Tryd.prog listed w) (fun _ _ _ hh h => h.of_heap hh) own started (by kernel_rfl) Tryd.func7
    (ChangeSpec.witness_shaped (enc := enc) (C := Tryd.checked) (os := os) (X := fun w _ => laidMetH Tryd.prog listed w) false (laidOver (World.holding Tryd.prog os ⟨#[], #[], []⟩)) #[.agg #[.int .i64 0, .int .i64 0, .int .i64 0, .int .i64 0, .int .i64 0, .int .i64 0]] 8 rfl (World.shaped_of_RefB (by kernel_rfl) (by kernel_rfl)) (by kernel_rfl) (by kernel_rfl) (by kernel_rfl) (laid_over os _)) ?_
  intro W base args ds gs before hval0 hW hcnd hsz0 hL _
  have hT := tabs_listed hL
  have hval : ∀ (j : Nat) t v, Tryd.f7.params[j]? = some t → args[j]? = some v → Value.okWide Tryd.prog W .any base t v := hval0
  have hsz : (DataW.weightsEach Tryd.prog (Tryd.f7.params.toList ++ Rows.civilEpochsSpec.plain.varTypes Tryd.prog) (ds ++ gs)).all (· ≤ reachBytes) = true := hsz0
  have hW' := hW
  obtain ⟨p, q, hA0, hV, rfl, hfz, hnd⟩ := hW
  have hA : DataW.TrodAll enc Tryd.prog W 0 (fun _ => true) true Tryd.f7.params.toList args.toList ds p := hA0
  rw [Tryd.params7] at hA hval hsz
  obtain ⟨v0, vs0, d0, ds0, p0, q0, hargs, rfl, rfl, h0, r0⟩ := trodAll_cons hA
  obtain ⟨rfl, rfl, rfl⟩ := trodAll_nil r0
  obtain rfl : args = #[v0] := by cases args; simp_all
  obtain ⟨rfl, rfl⟩ := trodVars_none hV
  have h0k := h0
  have hlt0 : ∀ x ∈ p0, x.block < W.heap.size := fun x hx => by simpa using hW'.lt x (by simp [hx])
  obtain ⟨cy0, cm0, cd0, ch0, cn0, cs0, rfl, w0⟩ := clk_opened h0 (hval 0 32 v0 rfl rfl)
  clear hA0 hval0 hsz hsz0
  refine (walk cy0 cm0 cd0 ch0 cn0 cs0 w0 W hT).mono fun e W' ⟨he, bel⟩ => ?_
  subst he
  exact ⟨_, rfl, _, _, _, [], _, [], hW', trodAll_mk1 (shut_bool Tryd.underlying4 _), (trodAll_cons_mk (Below.trod Tryd.laidOutC (by kernel_rfl) (of_decide_eq_true (by kernel_rfl)) h0k bel hlt0) trodAll_mk0), rfl, bel.frame _, fun h => by cases h⟩

theorem over : Rows.civilEpochsRow.holds Tryd.pinned (OpenSpec.ofChange Rows.civilEpochsSpec) :=
  OpenClaim.holds_of_wide 7 Tryd.f7 rfl rfl rfl rfl rfl rfl rfl ⟨rfl, rfl, rfl, rfl, rfl⟩ rfl rfl rfl rfl rfl (by kernel_rfl) Tryd.func7 (by kernel_rfl)
    (of_decide_eq_true (by kernel_rfl)) (by unfold Func.isWrapper; first | (rw [if_pos (by decide +kernel)]; kernel_rfl) | (rw [if_neg (by decide +kernel)]; exact ⟨rfl, rfl⟩))
    (fun os started H enc _ => lifted os started H enc)

set_option maxRecDepth 100000 in
theorem card : Rows.CivilEpochsCardSaid :=
  Claim7.holds_tied_plain_at .later [] _ true Rows.civilEpochsCard.stood.harness false
    over (fun _ h => by cases h) (by kernel_rfl) (fun _ h => by cases h) civilEpochs_row_tie rfl ⟨rfl, rfl⟩ (by kernel_rfl) rfl
    (fun f fn hf hfn => by
      obtain rfl : f = 7 := Option.some.inj ((show Tryd.prog.funcNamed Rows.civilEpochsRow.func = some 7 by kernel_rfl).symm.trans hf) |>.symm
      obtain rfl : fn = Tryd.f7 := (Option.some.inj (Tryd.func7.symm.trans hfn)).symm
      exact ⟨by kernel_rfl, fun j t ht => by
        rw [Tryd.params7] at ht
        have hm : t ∈ [32] := by first | (simpa using Array.mem_of_getElem? ht) | (have hq := Array.mem_of_getElem? ht; simp at hq ⊢; omega)
        have hall : ([32].all fun u => !Tryd.prog.wantsStandIn u) = true := by kernel_rfl
        exact (show Tryd.prog.wantsStandIn t = false by simpa using List.all_eq_true.1 hall t hm)⟩)
    (by kernel_rfl)

end Go.Proofs.YtfpakabdgnnheaaDoor.civilEpochs
namespace Go.Proofs.YtfpakabdgnnheaaDoor
/-- The statement. -/
theorem civilEpochs_proved : Rows.CivilEpochsCardSaid := civilEpochs.card
end Go.Proofs.YtfpakabdgnnheaaDoor
