/-
  For all rows l and m of items, cracknellaw08.JsonApart(l, m) returns true, and leaves all memory that was there as it was. Conditions: none beyond the form's own.
-/
import Derived.Test.YtmnigdcgdebgoaaDoorJsonLaws
import Derived.Test.YtmnigdcgdebgoaaDoorUtfLaid
import Derived.Test.YtmnigdcgdebgoaaDoorTie
import Derived.Test.YtmnigdcgdebgoaaDoorCards
import Derived.SevenTiedAt
import Derived.LaidLaws
import Derived.Stop.Joined
import Derived.ProofKit
import Derived.OpenShut
import Derived.ShutString
import Derived.ChangeOld
import Derived.SizedLaws
namespace Go.Proofs.YtmnigdcgdebgoaaDoor.jsonApart
open Go.ChangeShapes Go.WideShapes Go.ChangeAt Go.RowKit
open Go.ChangeMaps (open_string shut_string)
set_option linter.unusedVariables false

theorem own : ownKnob Tryd.prog.godebug = none := by kernel_rfl

set_option maxRecDepth 100000 in
set_option maxHeartbeats 1600000 in
theorem walk (w : World) (a0 : Value) (s0 : List It) (a1 : Value) (s1 : List It) (w0 : ItsAt w a0 s0 ∧ s0.length ≤ 9223372036854775807 ∧ ∀ x ∈ s0, ItOk x) (w1 : ItsAt w a1 s1 ∧ s1.length ≤ 9223372036854775807 ∧ ∀ x ∈ s1, ItOk x) (hT : Tabs w) :
    Calls Tryd.prog 10 #[a0, a1] w fun e w' => e = .returned (.bool true) ∧ Below w.heap.size w w' := by
  obtain ⟨hI, hlen, hok⟩ := w0
  obtain ⟨hJ, hlenJ, hokJ⟩ := w1
  have HI := Lib.hid hI
  have HJ := Lib.hid hJ
  have HT := Lib.hid hT
  have HOK := Lib.hid hok
  have HOJ := Lib.hid hokJ
  clear hI hJ hT hok hokJ
  go_enter Tryd.func10, Tryd.ntmps10
  go_wp2_with fail
  refine (small_any a0 s0 _ HI.out hlen (it_sizes HOK.out)).mono ?_
  rintro _ w1 ⟨b, rfl, hsm, hb1⟩
  have HT1 := Lib.hid (HT.out.keep hb1)
  have HI1 := Lib.hid (HI.out.keep hb1)
  have HJ1 := Lib.hid (HJ.out.keep hb1)
  have HB1 := Lib.hid hb1
  have HS := Lib.hid hsm
  clear hb1 hsm HI HT HJ
  cases b with
  | false =>
    go_wp2_with fail
    refine (alive8_any _ HT1.out).mono ?_
    rintro _ w2 ⟨rfl, hb2⟩
    have hb := chain HB1.out hb2
    go_wp2
    go_ret
    exact ⟨rfl, hb⟩
  | true =>
    obtain ⟨q1, q2, q3⟩ := small_of (HS.out rfl) HOK.out
    have HSM := Lib.hid q1
    have HIN := Lib.hid q2
    have HWT := Lib.hid q3
    have hz : s0.length ≤ 100000 := q1.1
    have HLZ := Lib.hid hz
    clear q1 q2 q3 HS hz
    go_wp2_with fail
    refine (small_any a1 s1 _ HJ1.out hlenJ (it_sizes HOJ.out)).mono ?_
    rintro _ w2 ⟨b, rfl, hsm, hb2⟩
    have HT2 := Lib.hid (HT1.out.keep hb2)
    have HI2 := Lib.hid (HI1.out.keep hb2)
    have HJ2 := Lib.hid (HJ1.out.keep hb2)
    have HB2 := Lib.hid (chain HB1.out hb2)
    have HS := Lib.hid hsm
    clear hb2 hsm HI1 HT1 HJ1 HB1
    cases b with
    | false =>
      go_wp2_with fail
      refine (alive8_any _ HT2.out).mono ?_
      rintro _ w3 ⟨rfl, hb3⟩
      have hb := chain HB2.out hb3
      go_wp2
      go_ret
      exact ⟨rfl, hb⟩
    | true =>
      obtain ⟨q1, q2, q3⟩ := small_of (HS.out rfl) HOJ.out
      have HSMJ := Lib.hid q1
      have HINJ := Lib.hid q2
      have HWTJ := Lib.hid q3
      have hz : s1.length ≤ 100000 := q1.1
      have HLZJ := Lib.hid hz
      clear q1 q2 q3 HS hz
      cases hR : rightU s0 with
      | false =>
        have HR := Lib.hid hR
        clear hR
        go_wp2_with fail
        refine (rright_any _ s0 _ HI2.out HSM.out false HR.out).mono ?_
        rintro _ w3 ⟨rfl, hb3⟩
        have HT3 := Lib.hid (HT2.out.keep hb3)
        have HB3 := Lib.hid (chain HB2.out hb3)
        clear hb3
        go_wp2_with fail
        refine (alive8_any _ HT3.out).mono ?_
        rintro _ w4 ⟨rfl, hb4⟩
        have hb := chain HB3.out hb4
        go_wp2
        go_ret
        exact ⟨rfl, hb⟩
      | true =>
        have HR := Lib.hid hR
        clear hR
        go_wp2_with fail
        refine (rright_any _ s0 _ HI2.out HSM.out true HR.out).mono ?_
        rintro _ w3 ⟨rfl, hb3⟩
        have HT3 := Lib.hid (HT2.out.keep hb3)
        have HI3 := Lib.hid (HI2.out.keep hb3)
        have HJ3 := Lib.hid (HJ2.out.keep hb3)
        have HB3 := Lib.hid (chain HB2.out hb3)
        clear hb3 HT2 HI2 HJ2 HB2
        cases hR2 : rightU s1 with
        | false =>
          have HR2 := Lib.hid hR2
          clear hR2
          go_wp2_with fail
          refine (rright_any _ s1 _ HJ3.out HSMJ.out false HR2.out).mono ?_
          rintro _ w4 ⟨rfl, hb4⟩
          have HT4 := Lib.hid (HT3.out.keep hb4)
          have HB4 := Lib.hid (chain HB3.out hb4)
          clear hb4
          go_wp2_with fail
          refine (alive8_any _ HT4.out).mono ?_
          rintro _ w5 ⟨rfl, hb5⟩
          have hb := chain HB4.out hb5
          go_wp2
          go_ret
          exact ⟨rfl, hb⟩
        | true =>
          have HR2 := Lib.hid hR2
          clear hR2
          obtain ⟨P, hP⟩ : ∃ P, bytesOf (printU s0) = P := ⟨_, rfl⟩
          obtain ⟨Q, hQ⟩ : ∃ Q, bytesOf (printU s1) = Q := ⟨_, rfl⟩
          obtain ⟨r, hr⟩ : ∃ r, decide (s0 = s1) = r := ⟨_, rfl⟩
          have hPQ : (P.toList == Q.toList) = r := by
            rw [← hr, ByteArray.toList_eq, ByteArray.toList_eq, ← hP, ← hQ, list_bytesOf, list_bytesOf, Bool.eq_iff_iff, beq_iff_eq, decide_eq_true_eq]
            exact print_inj HR.out HR2.out HIN.out HINJ.out
          have hz1 : (printU s0).length ≤ 100000000000 := by have := print_small HWT.out HIN.out; omega
          have hz2 : (printU s1).length ≤ 100000000000 := by have := print_small HWTJ.out HINJ.out; omega
          have HP := Lib.hid hP
          have HQ := Lib.hid hQ
          have HRR := Lib.hid hr
          have HZ1 := Lib.hid hz1
          have HZ2 := Lib.hid hz2
          obtain ⟨n, hn⟩ : ∃ n, s0.length = n := ⟨_, rfl⟩
          obtain ⟨m, hm⟩ : ∃ m, s1.length = m := ⟨_, rfl⟩
          clear hP hQ hr hz1 hz2
          go_wp2_with fail
          refine (rright_any _ s1 _ HJ3.out HSMJ.out true HR2.out).mono ?_
          rintro _ w4 ⟨rfl, hb4⟩
          have HT4 := Lib.hid (HT3.out.keep hb4)
          have HI4 := Lib.hid (HI3.out.keep hb4)
          have HJ4 := Lib.hid (HJ3.out.keep hb4)
          have HB4 := Lib.hid (chain HB3.out hb4)
          clear hb4 HT3 HI3 HJ3 HB3
          go_wp2_with fail
          refine (alive8_any _ HT4.out).mono ?_
          rintro _ w5 ⟨rfl, hb5⟩
          have HT5 := Lib.hid (HT4.out.keep hb5)
          have HI5 := Lib.hid (HI4.out.keep hb5)
          have HJ5 := Lib.hid (HJ4.out.keep hb5)
          have HB5 := Lib.hid (chain HB4.out hb5)
          clear hb5 HT4 HI4 HJ4 HB4
          go_wp2_with fail
          refine (at_news _ s0 _ HI5.out HLZ.out).mono ?_
          rintro _ w6 ⟨ao6, cap6, rfl, hI6, hb6⟩
          rw [hn] at hI6 ⊢
          have HN6 := Lib.hid hI6
          have HT6 := Lib.hid (HT5.out.keep hb6)
          have HI6 := Lib.hid (HI5.out.keep hb6)
          have HJ6 := Lib.hid (HJ5.out.keep hb6)
          have HB6 := Lib.hid (chain HB5.out hb6)
          clear hI6 hb6 HT5 HI5 HJ5 HB5
          go_wp2_with fail
          refine (jprint_any _ s0 _ HT6.out HN6.out HSM.out P HP.out HZ1.out).mono ?_
          rintro _ w7 ⟨rfl, hb7⟩
          have HT7 := Lib.hid (HT6.out.keep hb7)
          have HI7 := Lib.hid (HI6.out.keep hb7)
          have HJ7 := Lib.hid (HJ6.out.keep hb7)
          have HB7 := Lib.hid (chain HB6.out hb7)
          clear hb7 HT6 HI6 HJ6 HB6 HN6
          go_wp2_with fail
          refine (at_news _ s1 _ HJ7.out HLZJ.out).mono ?_
          rintro _ w8 ⟨ao8, cap8, rfl, hI8, hb8⟩
          rw [hm] at hI8 ⊢
          have HN8 := Lib.hid hI8
          have HT8 := Lib.hid (HT7.out.keep hb8)
          have HI8 := Lib.hid (HI7.out.keep hb8)
          have HJ8 := Lib.hid (HJ7.out.keep hb8)
          have HB8 := Lib.hid (chain HB7.out hb8)
          clear hI8 hb8 HT7 HI7 HJ7 HB7
          go_wp2_with fail
          refine (jprint_any _ s1 _ HT8.out HN8.out HSMJ.out Q HQ.out HZ2.out).mono ?_
          rintro _ w9 ⟨rfl, hb9⟩
          have HI9 := Lib.hid (HI8.out.keep hb9)
          have HJ9 := Lib.hid (HJ8.out.keep hb9)
          have HB9 := Lib.hid (chain HB8.out hb9)
          clear hb9 HT8 HI8 HJ8 HB8 HN8
          cases r with
          | true =>
            go_wp2_with fail
            refine (at_same _ _ s0 s1 true _ HI9.out HJ9.out HLZ.out HLZJ.out HRR.out).mono ?_
            rintro _ w10 ⟨rfl, hb10⟩
            have hb := chain HB9.out hb10
            go_wp2
            go_ret
            exact ⟨rfl, hb⟩
          | false =>
            go_wp2_with fail
            refine (at_same _ _ s0 s1 false _ HI9.out HJ9.out HLZ.out HLZJ.out HRR.out).mono ?_
            rintro _ w10 ⟨rfl, hb10⟩
            have hb := chain HB9.out hb10
            go_wp2
            go_ret
            exact ⟨rfl, hb⟩

set_option maxRecDepth 100000 in
theorem lifted (os : Os) (started : os.Started) (H : Type) (enc : TypeId × Value → H) :
    ReturnsInHanded {} Tryd.checked os 10 .any (fun w args => (Rows.jsonApartSpec.pre enc Tryd.prog Tryd.f10 [] false w args ∧ laidMetH Tryd.prog listed w) ∧ sizedMet enc Tryd.prog Tryd.f10 (OpenSpec.ofChange Rows.jsonApartSpec) false w args)
      (Rows.jsonApartSpec.post enc Tryd.prog Tryd.f10 false true false false) := by
  refine returnsInHanded_of_change_and (C := Tryd.checked) (X := fun w _ => laidMetH Tryd.prog listed w) (fun _ _ _ hh h => h.of_heap hh) own started (by kernel_rfl) Tryd.func10
    (ChangeSpec.witness_shaped (enc := enc) (C := Tryd.checked) (os := os) (X := fun w _ => laidMetH Tryd.prog listed w) false (laidOver (World.holding Tryd.prog os ⟨#[], #[], []⟩)) #[.slice none 0 0, .slice none 0 0] 8 rfl (World.shaped_of_RefB (by kernel_rfl) (by kernel_rfl)) (by kernel_rfl) (by kernel_rfl) (by kernel_rfl) (laid_over os _)) ?_
  intro W base args ds gs before hval0 hW hcnd hsz0 hL _
  have hT := tabs_listed hL
  have hval : ∀ (j : Nat) t v, Tryd.f10.params[j]? = some t → args[j]? = some v → Value.okWide Tryd.prog W .any base t v := hval0
  have hsz : (DataW.weightsEach Tryd.prog (Tryd.f10.params.toList ++ Rows.jsonApartSpec.plain.varTypes Tryd.prog) (ds ++ gs)).all (· ≤ reachBytes) = true := hsz0
  have hW' := hW
  obtain ⟨p, q, hA0, hV, rfl, hfz, hnd⟩ := hW
  have hA : DataW.TrodAll enc Tryd.prog W 0 (fun _ => true) true Tryd.f10.params.toList args.toList ds p := hA0
  rw [Tryd.params10] at hA hval hsz
  obtain ⟨v0, vs0, d0, ds0, p0, q0, hargs, rfl, rfl, h0, r0⟩ := trodAll_cons hA
  obtain ⟨v1, vs1, d1, ds1, p1, q1, rfl, rfl, rfl, h1, r1⟩ := trodAll_cons r0
  obtain ⟨rfl, rfl, rfl⟩ := trodAll_nil r1
  obtain rfl : args = #[v0, v1] := by cases args; simp_all
  obtain ⟨rfl, rfl⟩ := trodVars_none hV
  have h0k := h0
  have hlt0 : ∀ x ∈ p0, x.block < W.heap.size := fun x hx => by simpa using hW'.lt x (by simp [hx])
  obtain ⟨s0, w0⟩ := items_opened h0 (okWide_slice Tryd.underlying22 (hval 0 22 v0 rfl rfl))
  have h1k := h1
  have hlt1 : ∀ x ∈ p1, x.block < W.heap.size := fun x hx => by simpa using hW'.lt x (by simp [hx])
  obtain ⟨s1, w1⟩ := items_opened h1 (okWide_slice Tryd.underlying22 (hval 1 22 v1 rfl rfl))
  clear hA0 hval0 hsz hsz0
  refine (walk W v0 s0 v1 s1 w0 w1 hT).mono fun e W' ⟨he, bel⟩ => ?_
  subst he
  exact ⟨_, rfl, _, _, _, [], _, [], hW', trodAll_mk1 (shut_bool Tryd.underlying4 _), (trodAll_cons_mk (Below.trod Tryd.laidOutR (by kernel_rfl) (of_decide_eq_true (by kernel_rfl)) h0k bel hlt0) (trodAll_cons_mk (Below.trod Tryd.laidOutR (by kernel_rfl) (of_decide_eq_true (by kernel_rfl)) h1k bel hlt1) trodAll_mk0)), rfl, bel.frame _, fun h => by cases h⟩

theorem over : Rows.jsonApartRow.holds Tryd.pinned (OpenSpec.ofChange Rows.jsonApartSpec) :=
  OpenClaim.holds_of_wide 10 Tryd.f10 rfl rfl rfl rfl rfl rfl rfl ⟨rfl, rfl, rfl, rfl, rfl⟩ rfl rfl rfl rfl rfl (by kernel_rfl) Tryd.func10 (by kernel_rfl)
    (of_decide_eq_true (by kernel_rfl)) (by unfold Func.isWrapper; first | (rw [if_pos (by decide +kernel)]; kernel_rfl) | (rw [if_neg (by decide +kernel)]; exact ⟨rfl, rfl⟩))
    (fun os started H enc _ => lifted os started H enc)

set_option maxRecDepth 100000 in
theorem card : Rows.JsonApartCardSaid :=
  Claim7.holds_tied_plain_at .later [] [.data, .pinned] true Rows.jsonApartCard.stood.harness false
    over (fun _ h => by cases h) (by kernel_rfl) (fun _ h => by cases h) jsonApart_row_tie rfl ⟨rfl, rfl⟩ (by kernel_rfl) rfl
    (fun f fn hf hfn => by
      obtain rfl : f = 10 := Option.some.inj ((show Tryd.prog.funcNamed Rows.jsonApartRow.func = some 10 by kernel_rfl).symm.trans hf) |>.symm
      obtain rfl : fn = Tryd.f10 := (Option.some.inj (Tryd.func10.symm.trans hfn)).symm
      exact ⟨by kernel_rfl, fun j t ht => by
        rw [Tryd.params10] at ht
        have hm : t ∈ [22] := by first | (simpa using Array.mem_of_getElem? ht) | (have hq := Array.mem_of_getElem? ht; simp at hq ⊢; omega)
        have hall : ([22].all fun u => !Tryd.prog.wantsStandIn u) = true := by kernel_rfl
        exact (show Tryd.prog.wantsStandIn t = false by simpa using List.all_eq_true.1 hall t hm)⟩)
    (by kernel_rfl)

end Go.Proofs.YtmnigdcgdebgoaaDoor.jsonApart
namespace Go.Proofs.YtmnigdcgdebgoaaDoor
/-- The statement. -/
theorem jsonApart_proved : Rows.JsonApartCardSaid := jsonApart.card
end Go.Proofs.YtmnigdcgdebgoaaDoor
