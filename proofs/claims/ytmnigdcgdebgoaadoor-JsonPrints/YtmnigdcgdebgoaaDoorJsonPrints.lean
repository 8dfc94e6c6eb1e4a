/-
  For every row l of items, cracknellaw08.JsonPrints(l) returns true, and leaves all memory that was there as it was. Conditions: none beyond the form's own.
-/
import Derived.Test.YtmnigdcgdebgoaaDoorJsonRefP
import Derived.Test.YtmnigdcgdebgoaaDoorUtfLaid
import Derived.Test.YtmnigdcgdebgoaaDoorTie
import Derived.Test.YtmnigdcgdebgoaaDoorCards
import Derived.SevenTiedAt
import Derived.LaidLaws
import Derived.Stop.Joined
import Derived.ProofKit
import Derived.OpenShut
import Derived.ShutString
import Derived.ChangeOld
import Derived.SizedLaws
namespace Go.Proofs.YtmnigdcgdebgoaaDoor.jsonPrints
open Go.ChangeShapes Go.WideShapes Go.ChangeAt Go.RowKit
open Go.ChangeMaps (open_string shut_string)
set_option linter.unusedVariables false

theorem own : ownKnob Tryd.prog.godebug = none := by kernel_rfl

theorem parse_empty : parseL readD ByteArray.empty.data.toList = (80, []) := by decide +kernel
set_option maxRecDepth 100000 in
set_option maxHeartbeats 1600000 in
theorem walk (w : World) (a0 : Value) (s0 : List It) (w0 : ItsAt w a0 s0 ∧ s0.length ≤ 9223372036854775807 ∧ ∀ x ∈ s0, ItOk x) (hT : Tabs w) :
    Calls Tryd.prog 4 #[a0] w fun e w' => e = .returned (.bool true) ∧ Below w.heap.size w w' := by
  obtain ⟨hI, hlen, hok⟩ := w0
  have HI := Lib.hid hI
  have HT := Lib.hid hT
  have HOK := Lib.hid hok
  clear hI hT hok
  go_enter Tryd.func4, Tryd.ntmps4
  go_wp2_with fail
  refine (small_any a0 s0 _ HI.out hlen (it_sizes HOK.out)).mono ?_
  rintro _ w1 ⟨b, rfl, hsm, hb1⟩
  have HT1 := Lib.hid (HT.out.keep hb1)
  have HI1 := Lib.hid (HI.out.keep hb1)
  have HB1 := Lib.hid hb1
  have HS := Lib.hid hsm
  clear hb1 hsm HI HT
  cases b with
  | false =>
    go_wp2_with fail
    refine (alive8_any _ HT1.out).mono ?_
    rintro _ w2 ⟨rfl, hb2⟩
    have hb := chain HB1.out hb2
    go_wp2
    go_ret
    exact ⟨rfl, hb⟩
  | true =>
    obtain ⟨q1, q2, q3⟩ := small_of (HS.out rfl) HOK.out
    have hpz := print_small q3 q2
    have hpz2 : (printU s0).length ≤ 100000000000 := by omega
    have HSM := Lib.hid q1
    have HIN := Lib.hid q2
    have HWT := Lib.hid q3
    have HPZ := Lib.hid hpz2
    have hz : s0.length ≤ 100000 := q1.1
    have HLZ := Lib.hid hz
    obtain ⟨P, hP⟩ : ∃ P, bytesOf (printU s0) = P := ⟨_, rfl⟩
    have HP := Lib.hid hP
    have hPe : (P.toList == P.toList) = true := by simp
    have hPn : (P.toList != P.toList) = false := by simp
    obtain ⟨n, hn⟩ : ∃ n, s0.length = n := ⟨_, rfl⟩
    clear q1 q2 q3 HS hz hpz hpz2 hP
    go_wp2_with fail
    refine (at_news _ s0 _ HI1.out HLZ.out).mono ?_
    rintro _ w2 ⟨ao2, cap2, rfl, hI2, hb2⟩
    rw [hn] at hI2 ⊢
    have HN2 := Lib.hid hI2
    have HT2 := Lib.hid (HT1.out.keep hb2)
    have HI2 := Lib.hid (HI1.out.keep hb2)
    have HB2 := Lib.hid (chain HB1.out hb2)
    clear hI2 hb2 HT1 HI1 HB1
    go_wp2_with fail
    refine (jprint_any _ s0 _ HT2.out HN2.out HSM.out P HP.out HPZ.out).mono ?_
    rintro _ w3 ⟨rfl, hb3⟩
    have HT3 := Lib.hid (HT2.out.keep hb3)
    have HI3 := Lib.hid (HI2.out.keep hb3)
    have HB3 := Lib.hid (chain HB2.out hb3)
    clear hb3 HT2 HI2 HB2 HN2
    go_wp2_with fail
    refine (rprint8_any _ s0 _ HI3.out HSM.out HIN.out HWT.out P HP.out).mono ?_
    rintro _ w4 ⟨rfl, hb4⟩
    have HT4 := Lib.hid (HT3.out.keep hb4)
    have HI4 := Lib.hid (HI3.out.keep hb4)
    have HB4 := Lib.hid (chain HB3.out hb4)
    clear hb4 HT3 HI3 HB3
    cases hR : rightU s0 with
    | false =>
      have hPE : P = ByteArray.empty := by
        rw [← HP.out]
        unfold printU
        rw [hR]
        rfl
      have HR := Lib.hid hR
      subst hPE
      clear hR
      go_wp2_with fail
      refine (at_parse ByteArray.empty 80 [] _ HT4.out (by decide) parse_empty).mono ?_
      rintro _ w5 ⟨ao5, cap5, rfl, _, hb5⟩
      have HT5 := Lib.hid (HT4.out.keep hb5)
      have HI5 := Lib.hid (HI4.out.keep hb5)
      have HB5 := Lib.hid (chain HB4.out hb5)
      rw [List.length_nil]
      clear hb5 HT4 HI4 HB4
      go_wp2_with fail
      refine (alive8_any _ HT5.out).mono ?_
      rintro _ w6 ⟨rfl, hb6⟩
      have HI6 := Lib.hid (HI5.out.keep hb6)
      have HB6 := Lib.hid (chain HB5.out hb6)
      clear hb6 HT5 HI5 HB5
      go_wp2_with fail
      refine (rright_any _ s0 _ HI6.out HSM.out false HR.out).mono ?_
      rintro _ w7 ⟨rfl, hb7⟩
      have hb := chain HB6.out hb7
      go_wp2
      go_ret
      exact ⟨rfl, hb⟩
    | true =>
      obtain ⟨j, hj, hl⟩ := right_tree s0 hR HIN.out
      have hpt : parseL readD P.data.toList = (0, s0) := by
        rw [← HP.out, list_bytesOf, hl, j.printed hj]
        exact parse_text j hj
      have hPz : P.size ≤ 1000000 := by
        rw [← HP.out, bytesOf_size]
        have := print_small HWT.out HIN.out
        omega
      have HR := Lib.hid hR
      have HPT := Lib.hid hpt
      clear hR hpt hl hj
      go_wp2_with fail
      refine (at_parse P 0 s0 _ HT4.out hPz HPT.out).mono ?_
      rintro _ w5 ⟨ao5, cap5, rfl, hM5, hb5⟩
      rw [hn] at hM5 ⊢
      have HM5 := Lib.hid hM5
      have HT5 := Lib.hid (HT4.out.keep hb5)
      have HI5 := Lib.hid (HI4.out.keep hb5)
      have HB5 := Lib.hid (chain HB4.out hb5)
      clear hM5 hb5 HT4 HI4 HB4
      go_wp2_with fail
      refine (alive8_any _ HT5.out).mono ?_
      rintro _ w6 ⟨rfl, hb6⟩
      have HM6 := Lib.hid (HM5.out.keep hb6)
      have HI6 := Lib.hid (HI5.out.keep hb6)
      have HB6 := Lib.hid (chain HB5.out hb6)
      clear hb6 HT5 HI5 HB5 HM5
      go_wp2_with fail
      refine (rright_any _ s0 _ HI6.out HSM.out true HR.out).mono ?_
      rintro _ w7 ⟨rfl, hb7⟩
      have HM7 := Lib.hid (HM6.out.keep hb7)
      have HI7 := Lib.hid (HI6.out.keep hb7)
      have HB7 := Lib.hid (chain HB6.out hb7)
      clear hb7 HI6 HB6 HM6
      go_wp2_with fail
      refine (at_olds _ s0 _ HM7.out HLZ.out).mono ?_
      rintro _ w8 ⟨ao8, cap8, rfl, hO8, hb8⟩
      rw [hn] at hO8 ⊢
      have HO8 := Lib.hid hO8
      have HI8 := Lib.hid (HI7.out.keep hb8)
      have HB8 := Lib.hid (chain HB7.out hb8)
      clear hO8 hb8 HI7 HB7 HM7
      go_wp2_with fail
      refine (at_same _ _ s0 s0 true _ HO8.out HI8.out HLZ.out HLZ.out (by simp)).mono ?_
      rintro _ w9 ⟨rfl, hb9⟩
      have hb := chain HB8.out hb9
      go_wp2
      go_ret
      exact ⟨rfl, hb⟩

set_option maxRecDepth 100000 in
theorem lifted (os : Os) (started : os.Started) (H : Type) (enc : TypeId × Value → H) :
    ReturnsInHanded {} Tryd.checked os 4 .any (fun w args => (Rows.jsonPrintsSpec.pre enc Tryd.prog Tryd.f4 [] false w args ∧ laidMetH Tryd.prog listed w) ∧ sizedMet enc Tryd.prog Tryd.f4 (OpenSpec.ofChange Rows.jsonPrintsSpec) false w args)
      (Rows.jsonPrintsSpec.post enc Tryd.prog Tryd.f4 false true false false) := by
  refine returnsInHanded_of_change_and (C := Tryd.checked) (X := fun w _ => laidMetH Tryd.prog listed w) (fun _ _ _ hh h => h.of_heap hh) own started (by kernel_rfl) Tryd.func4
    (ChangeSpec.witness_shaped (enc := enc) (C := Tryd.checked) (os := os) (X := fun w _ => laidMetH Tryd.prog listed w) false (laidOver (World.holding Tryd.prog os ⟨#[], #[], []⟩)) #[.slice none 0 0] 8 rfl (World.shaped_of_RefB (by kernel_rfl) (by kernel_rfl)) (by kernel_rfl) (by kernel_rfl) (by kernel_rfl) (laid_over os _)) ?_
  intro W base args ds gs before hval0 hW hcnd hsz0 hL _
  have hT := tabs_listed hL
  have hval : ∀ (j : Nat) t v, Tryd.f4.params[j]? = some t → args[j]? = some v → Value.okWide Tryd.prog W .any base t v := hval0
  have hsz : (DataW.weightsEach Tryd.prog (Tryd.f4.params.toList ++ Rows.jsonPrintsSpec.plain.varTypes Tryd.prog) (ds ++ gs)).all (· ≤ reachBytes) = true := hsz0
  have hW' := hW
  obtain ⟨p, q, hA0, hV, rfl, hfz, hnd⟩ := hW
  have hA : DataW.TrodAll enc Tryd.prog W 0 (fun _ => true) true Tryd.f4.params.toList args.toList ds p := hA0
  rw [Tryd.params4] at hA hval hsz
  obtain ⟨v0, vs0, d0, ds0, p0, q0, hargs, rfl, rfl, h0, r0⟩ := trodAll_cons hA
  obtain ⟨rfl, rfl, rfl⟩ := trodAll_nil r0
  obtain rfl : args = #[v0] := by cases args; simp_all
  obtain ⟨rfl, rfl⟩ := trodVars_none hV
  have h0k := h0
  have hlt0 : ∀ x ∈ p0, x.block < W.heap.size := fun x hx => by simpa using hW'.lt x (by simp [hx])
  obtain ⟨s0, w0⟩ := items_opened h0 (okWide_slice Tryd.underlying22 (hval 0 22 v0 rfl rfl))
  clear hA0 hval0 hsz hsz0
  refine (walk W v0 s0 w0 hT).mono fun e W' ⟨he, bel⟩ => ?_
  subst he
  exact ⟨_, rfl, _, _, _, [], _, [], hW', trodAll_mk1 (shut_bool Tryd.underlying4 _), (trodAll_cons_mk (Below.trod Tryd.laidOutR (by kernel_rfl) (of_decide_eq_true (by kernel_rfl)) h0k bel hlt0) trodAll_mk0), rfl, bel.frame _, fun h => by cases h⟩

theorem over : Rows.jsonPrintsRow.holds Tryd.pinned (OpenSpec.ofChange Rows.jsonPrintsSpec) :=
  OpenClaim.holds_of_wide 4 Tryd.f4 rfl rfl rfl rfl rfl rfl rfl ⟨rfl, rfl, rfl, rfl, rfl⟩ rfl rfl rfl rfl rfl (by kernel_rfl) Tryd.func4 (by kernel_rfl)
    (of_decide_eq_true (by kernel_rfl)) (by unfold Func.isWrapper; first | (rw [if_pos (by decide +kernel)]; kernel_rfl) | (rw [if_neg (by decide +kernel)]; exact ⟨rfl, rfl⟩))
    (fun os started H enc _ => lifted os started H enc)

set_option maxRecDepth 100000 in
theorem card : Rows.JsonPrintsCardSaid :=
  Claim7.holds_tied_plain_at .later [] [.data, .pinned] true Rows.jsonPrintsCard.stood.harness false
    over (fun _ h => by cases h) (by kernel_rfl) (fun _ h => by cases h) jsonPrints_row_tie rfl ⟨rfl, rfl⟩ (by kernel_rfl) rfl
    (fun f fn hf hfn => by
      obtain rfl : f = 4 := Option.some.inj ((show Tryd.prog.funcNamed Rows.jsonPrintsRow.func = some 4 by kernel_rfl).symm.trans hf) |>.symm
      obtain rfl : fn = Tryd.f4 := (Option.some.inj (Tryd.func4.symm.trans hfn)).symm
      exact ⟨by kernel_rfl, fun j t ht => by
        rw [Tryd.params4] at ht
        have hm : t ∈ [22] := by first | (simpa using Array.mem_of_getElem? ht) | (have hq := Array.mem_of_getElem? ht; simp at hq ⊢; omega)
        have hall : ([22].all fun u => !Tryd.prog.wantsStandIn u) = true := by kernel_rfl
        exact (show Tryd.prog.wantsStandIn t = false by simpa using List.all_eq_true.1 hall t hm)⟩)
    (by kernel_rfl)

end Go.Proofs.YtmnigdcgdebgoaaDoor.jsonPrints
namespace Go.Proofs.YtmnigdcgdebgoaaDoor
/-- The statement. -/
theorem jsonPrints_proved : Rows.JsonPrintsCardSaid := jsonPrints.card
end Go.Proofs.YtmnigdcgdebgoaaDoor
