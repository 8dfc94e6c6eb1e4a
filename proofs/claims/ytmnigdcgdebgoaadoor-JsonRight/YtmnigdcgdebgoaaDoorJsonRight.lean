/-
  For every row l of items, cracknellaw08.JsonRight(l) returns true, and leaves all memory that was there as it was. Conditions: none beyond the form's own.
-/
import Derived.Test.YtmnigdcgdebgoaaDoorJsonLaws
import Derived.Test.YtmnigdcgdebgoaaDoorUtfLaid
import Derived.Test.YtmnigdcgdebgoaaDoorTie
import Derived.Test.YtmnigdcgdebgoaaDoorCards
import Derived.SevenTiedAt
import Derived.LaidLaws
import Derived.Stop.Joined
import Derived.ProofKit
import Derived.OpenShut
import Derived.ShutString
import Derived.ChangeOld
import Derived.SizedLaws
namespace Go.Proofs.YtmnigdcgdebgoaaDoor.jsonRight
open Go.ChangeShapes Go.WideShapes Go.ChangeAt Go.RowKit
open Go.ChangeMaps (open_string shut_string)
set_option linter.unusedVariables false

theorem own : ownKnob Tryd.prog.godebug = none := by kernel_rfl

set_option maxRecDepth 100000 in
set_option maxHeartbeats 1600000 in
theorem walk (w : World) (a0 : Value) (s0 : List It) (w0 : ItsAt w a0 s0 ∧ s0.length ≤ 9223372036854775807 ∧ ∀ x ∈ s0, ItOk x) (hT : Tabs w) :
    Calls Tryd.prog 3 #[a0] w fun e w' => e = .returned (.bool true) ∧ Below w.heap.size w w' := by
  obtain ⟨hI, hlen, hok⟩ := w0
  have HI := Lib.hid hI
  have HT := Lib.hid hT
  have HOK := Lib.hid hok
  clear hI hT hok
  go_enter Tryd.func3, Tryd.ntmps3
  go_wp2_with fail
  refine (small_any a0 s0 _ HI.out hlen (it_sizes HOK.out)).mono ?_
  rintro _ w1 ⟨b, rfl, hsm, hb1⟩
  have HT1 := Lib.hid (HT.out.keep hb1)
  have HI1 := Lib.hid (HI.out.keep hb1)
  have HB1 := Lib.hid hb1
  have HS := Lib.hid hsm
  clear hb1 hsm HI HT
  cases b with
  | false =>
    go_wp2_with fail
    refine (alive8_any _ HT1.out).mono ?_
    rintro _ w2 ⟨rfl, hb2⟩
    have hb := chain HB1.out hb2
    go_wp2
    go_ret
    exact ⟨rfl, hb⟩
  | true =>
    obtain ⟨q1, q2, q3⟩ := small_of (HS.out rfl) HOK.out
    have HSM := Lib.hid q1
    have hz : s0.length ≤ 100000 := q1.1
    have HLZ := Lib.hid hz
    obtain ⟨R, hR⟩ : ∃ R, rightU s0 = R := ⟨_, rfl⟩
    have HR := Lib.hid hR
    obtain ⟨n, hn⟩ : ∃ n, s0.length = n := ⟨_, rfl⟩
    clear q1 q2 q3 hR HS hz
    go_wp2_with fail
    refine (at_news _ s0 _ HI1.out HLZ.out).mono ?_
    rintro _ w2 ⟨ao2, cap2, rfl, hI2, hb2⟩
    rw [hn] at hI2 ⊢
    have HN2 := Lib.hid hI2
    have HT2 := Lib.hid (HT1.out.keep hb2)
    have HI2 := Lib.hid (HI1.out.keep hb2)
    have HB2 := Lib.hid (chain HB1.out hb2)
    clear hI2 hb2 HT1 HI1 HB1
    go_wp2_with fail
    refine (alive8_any _ HT2.out).mono ?_
    rintro _ w3 ⟨rfl, hb3⟩
    have HN3 := Lib.hid (HN2.out.keep hb3)
    have HT3 := Lib.hid (HT2.out.keep hb3)
    have HI3 := Lib.hid (HI2.out.keep hb3)
    have HB3 := Lib.hid (chain HB2.out hb3)
    clear hb3 HT2 HI2 HB2 HN2
    go_wp2_with fail
    refine (at_right _ s0 R _ HT3.out HN3.out HSM.out HR.out).mono ?_
    rintro _ w4 ⟨rfl, hb4⟩
    have HN4 := Lib.hid (HN3.out.keep hb4)
    have HI4 := Lib.hid (HI3.out.keep hb4)
    have HB4 := Lib.hid (chain HB3.out hb4)
    clear hb4 HT3 HI3 HB3 HN3
    go_wp2_with fail
    refine (rright_any _ s0 _ HI4.out HSM.out R HR.out).mono ?_
    rintro _ w5 ⟨rfl, hb5⟩
    have HN5 := Lib.hid (HN4.out.keep hb5)
    have HI5 := Lib.hid (HI4.out.keep hb5)
    have HB5 := Lib.hid (chain HB4.out hb5)
    clear hb5 HI4 HB4 HN4
    go_wp2_with fail
    refine (at_olds _ s0 _ HN5.out HLZ.out).mono ?_
    rintro _ w6 ⟨ao6, cap6, rfl, hI6, hb6⟩
    rw [hn] at hI6 ⊢
    have HO6 := Lib.hid hI6
    have HI6 := Lib.hid (HI5.out.keep hb6)
    have HB6 := Lib.hid (chain HB5.out hb6)
    clear hI6 hb6 HI5 HB5 HN5
    go_wp2_with fail
    refine (at_same _ _ s0 s0 true _ HO6.out HI6.out HLZ.out HLZ.out (by simp)).mono ?_
    rintro _ w7 ⟨rfl, hb7⟩
    have hb := chain HB6.out hb7
    go_wp2
    go_ret
    exact ⟨rfl, hb⟩

set_option maxRecDepth 100000 in
theorem lifted (os : Os) (started : os.Started) (H : Type) (enc : TypeId × Value → H) :
    ReturnsInHanded {} Tryd.checked os 3 .any (fun w args => (Rows.jsonRightSpec.pre enc Tryd.prog Tryd.f3 [] false w args ∧ laidMetH Tryd.prog listed w) ∧ sizedMet enc Tryd.prog Tryd.f3 (OpenSpec.ofChange Rows.jsonRightSpec) false w args)
      (Rows.jsonRightSpec.post enc Tryd.prog Tryd.f3 false true false false) := by
  refine returnsInHanded_of_change_and (C := Tryd.checked) (X := fun w _ => laidMetH Tryd.prog listed w) (fun _ _ _ hh h => h.of_heap hh) own started (by kernel_rfl) Tryd.func3
    (ChangeSpec.witness_shaped (enc := enc) (C := Tryd.checked) (os := os) (X := fun w _ => laidMetH Tryd.prog listed w) false (laidOver (World.holding Tryd.prog os ⟨#[], #[], []⟩)) #[.slice none 0 0] 8 rfl (World.shaped_of_RefB (by kernel_rfl) (by kernel_rfl)) (by kernel_rfl) (by kernel_rfl) (by kernel_rfl) (laid_over os _)) ?_
  intro W base args ds gs before hval0 hW hcnd hsz0 hL _
  have hT := tabs_listed hL
  have hval : ∀ (j : Nat) t v, Tryd.f3.params[j]? = some t → args[j]? = some v → Value.okWide Tryd.prog W .any base t v := hval0
  have hsz : (DataW.weightsEach Tryd.prog (Tryd.f3.params.toList ++ Rows.jsonRightSpec.plain.varTypes Tryd.prog) (ds ++ gs)).all (· ≤ reachBytes) = true := hsz0
  have hW' := hW
  obtain ⟨p, q, hA0, hV, rfl, hfz, hnd⟩ := hW
  have hA : DataW.TrodAll enc Tryd.prog W 0 (fun _ => true) true Tryd.f3.params.toList args.toList ds p := hA0
  rw [Tryd.params3] at hA hval hsz
  obtain ⟨v0, vs0, d0, ds0, p0, q0, hargs, rfl, rfl, h0, r0⟩ := trodAll_cons hA
  obtain ⟨rfl, rfl, rfl⟩ := trodAll_nil r0
  obtain rfl : args = #[v0] := by cases args; simp_all
  obtain ⟨rfl, rfl⟩ := trodVars_none hV
  have h0k := h0
  have hlt0 : ∀ x ∈ p0, x.block < W.heap.size := fun x hx => by simpa using hW'.lt x (by simp [hx])
  obtain ⟨s0, w0⟩ := items_opened h0 (okWide_slice Tryd.underlying22 (hval 0 22 v0 rfl rfl))
  clear hA0 hval0 hsz hsz0
  refine (walk W v0 s0 w0 hT).mono fun e W' ⟨he, bel⟩ => ?_
  subst he
  exact ⟨_, rfl, _, _, _, [], _, [], hW', trodAll_mk1 (shut_bool Tryd.underlying4 _), (trodAll_cons_mk (Below.trod Tryd.laidOutR (by kernel_rfl) (of_decide_eq_true (by kernel_rfl)) h0k bel hlt0) trodAll_mk0), rfl, bel.frame _, fun h => by cases h⟩

theorem over : Rows.jsonRightRow.holds Tryd.pinned (OpenSpec.ofChange Rows.jsonRightSpec) :=
  OpenClaim.holds_of_wide 3 Tryd.f3 rfl rfl rfl rfl rfl rfl rfl ⟨rfl, rfl, rfl, rfl, rfl⟩ rfl rfl rfl rfl rfl (by kernel_rfl) Tryd.func3 (by kernel_rfl)
    (of_decide_eq_true (by kernel_rfl)) (by unfold Func.isWrapper; first | (rw [if_pos (by decide +kernel)]; kernel_rfl) | (rw [if_neg (by decide +kernel)]; exact ⟨rfl, rfl⟩))
    (fun os started H enc _ => lifted os started H enc)

set_option maxRecDepth 100000 in
theorem card : Rows.JsonRightCardSaid :=
  Claim7.holds_tied_plain_at .later [] [.data, .pinned] true Rows.jsonRightCard.stood.harness false
    over (fun _ h => by cases h) (by kernel_rfl) (fun _ h => by cases h) jsonRight_row_tie rfl ⟨rfl, rfl⟩ (by kernel_rfl) rfl
    (fun f fn hf hfn => by
      obtain rfl : f = 3 := Option.some.inj ((show Tryd.prog.funcNamed Rows.jsonRightRow.func = some 3 by kernel_rfl).symm.trans hf) |>.symm
      obtain rfl : fn = Tryd.f3 := (Option.some.inj (Tryd.func3.symm.trans hfn)).symm
      exact ⟨by kernel_rfl, fun j t ht => by
        rw [Tryd.params3] at ht
        have hm : t ∈ [22] := by first | (simpa using Array.mem_of_getElem? ht) | (have hq := Array.mem_of_getElem? ht; simp at hq ⊢; omega)
        have hall : ([22].all fun u => !Tryd.prog.wantsStandIn u) = true := by kernel_rfl
        exact (show Tryd.prog.wantsStandIn t = false by simpa using List.all_eq_true.1 hall t hm)⟩)
    (by kernel_rfl)

end Go.Proofs.YtmnigdcgdebgoaaDoor.jsonRight
namespace Go.Proofs.YtmnigdcgdebgoaaDoor
/-- The statement. -/
theorem jsonRight_proved : Rows.JsonRightCardSaid := jsonRight.card
end Go.Proofs.YtmnigdcgdebgoaaDoor
