/-
  For every number n and either kind, cracknellaw08.JsonDepth(n, objects) returns true. Conditions: none beyond the form's own.
-/
import Derived.Test.YtmnigdcgdebgoaaDoorJsG
import Derived.Test.YtmnigdcgdebgoaaDoorUtfLaid
import Derived.Test.YtmnigdcgdebgoaaDoorTie
import Derived.Test.YtmnigdcgdebgoaaDoorCards
import Derived.SevenTiedAt
import Derived.LaidLaws
import Derived.Stop.Joined
import Derived.ProofKit
import Derived.OpenShut
import Derived.ShutString
import Derived.ChangeOld
import Derived.SizedLaws
namespace Go.Proofs.YtmnigdcgdebgoaaDoor.jsonDepth
open Go.ChangeShapes Go.WideShapes Go.ChangeAt Go.RowKit
open Go.ChangeMaps (open_string shut_string)
set_option linter.unusedVariables false

theorem own : ownKnob Tryd.prog.godebug = none := by kernel_rfl


set_option maxRecDepth 100000 in
set_option maxHeartbeats 1600000 in
theorem walk (a0 : Int) (a1 : Bool) (w0 : (Lit.int .i64 a0).wf = true) (w : World) (hT : Tabs w) :
    Calls Tryd.prog 8 #[.int .i64 a0, .bool a1] w fun e w' => e = .returned (.bool true) ∧ Below w.heap.size w w' := by
  have HT := Lib.hid hT
  clear hT
  by_cases hlo : a0 < 1
  · go_enter Tryd.func8, Tryd.ntmps8
    go_wp2_with fail
    refine (alive8_any _ HT.out).mono ?_
    rintro _ w1 ⟨rfl, hb1⟩
    go_wp2
    go_ret
    exact ⟨rfl, hb1⟩
  · by_cases hhi : 200 < a0
    · go_enter Tryd.func8, Tryd.ntmps8
      go_wp2_with fail
      refine (alive8_any _ HT.out).mono ?_
      rintro _ w1 ⟨rfl, hb1⟩
      go_wp2
      go_ret
      exact ⟨rfl, hb1⟩
    · obtain ⟨m, hm⟩ : ∃ m : Nat, a0 = (m : Int) + 1 := ⟨(a0 - 1).toNat, by omega⟩
      subst hm
      have hm2 : m < 200 := by omega
      have hm0 : (0 : Int) ≤ (m : Int) := by omega
      have hm1 : (m : Int) < 200 := by omega
      clear hlo hhi w0
      obtain ⟨L, hL⟩ : ∃ t, (⟨(Lib.repeatL [91] (m + 1)).toArray⟩ : ByteArray) = t := ⟨_, rfl⟩
      obtain ⟨R, hR⟩ : ∃ t, (⟨(Lib.repeatL [93] (m + 1)).toArray⟩ : ByteArray) = t := ⟨_, rfl⟩
      obtain ⟨OL, hOL⟩ : ∃ t, (⟨(Lib.repeatL [123, 34, 34, 58] m).toArray⟩ : ByteArray) = t := ⟨_, rfl⟩
      obtain ⟨OR, hOR⟩ : ∃ t, (⟨(Lib.repeatL [125] m).toArray⟩ : ByteArray) = t := ⟨_, rfl⟩
      have zL : L.size ≤ 1000 := by rw [← hL, ← list_len]; simp [Lib.repeatL_length]; omega
      have zR : R.size ≤ 1000 := by rw [← hR, ← list_len]; simp [Lib.repeatL_length]; omega
      have zOL : OL.size ≤ 1000 := by rw [← hOL, ← list_len]; simp [Lib.repeatL_length]; omega
      have zOR : OR.size ≤ 1000 := by rw [← hOR, ← list_len]; simp [Lib.repeatL_length]; omega
      obtain ⟨t, ht⟩ : ∃ t, (if a1 then OL ++ (⟨#[123, 125]⟩ : ByteArray) ++ OR else L ++ R) = t := ⟨_, rfl⟩
      have htl : t.data.toList = deepT a1 m := by
        rw [← ht]
        unfold deepT deepO deepA
        cases a1
        · show (L ++ R).data.toList = _
          rw [app_list, ← hL, ← hR]
          simp
        · show (OL ++ (⟨#[123, 125]⟩ : ByteArray) ++ OR).data.toList = _
          rw [app_list, app_list, ← hOL, ← hOR]
          simp
      have htz : t.size ≤ 2000 := by
        rw [← list_len, htl]
        exact deep_len a1 m hm2
      have HL := Lib.hid hL
      have HR := Lib.hid hR
      have HOL := Lib.hid hOL
      have HOR := Lib.hid hOR
      have HTT := Lib.hid ht
      have HTL := Lib.hid htl
      clear hL hR hOL hOR ht htl
      have z2 : (⟨#[123, 125]⟩ : ByteArray).size = 2 := rfl
      have s1 : L.size + R.size ≤ 9223372036854775807 := by omega
      have s2 : OL.size + 2 ≤ 9223372036854775807 := by omega
      have s3 : OL.size + 2 + OR.size ≤ 9223372036854775807 := by omega
      have heq : (t.toList == t.toList) = true := by simp
      by_cases hfar : 64 ≤ m
      · have HP : Hid (parseL readD t.data.toList = (81, [])) := by show _ = _; rw [HTL.out]; exact deep_far a1 m hm2 hfar
        have hf2 : (64 : Int) < (m : Int) + 1 := by omega
        cases a1
        · have HT2 : Hid (L ++ R = t) := HTT.out
          clear HTT
          go_enter Tryd.func8, Tryd.ntmps8
          go_wp2_with fail
          refine (repeat_at ⟨#[91]⟩ L (m + 1) _ _ (by omega) (by decide) (by omega) HL.out).mono ?_
          rintro _ w1 ⟨rfl, hb1⟩
          go_wp2_with fail
          refine (repeat_at ⟨#[93]⟩ R (m + 1) _ _ (by omega) (by decide) (by omega) HR.out).mono ?_
          rintro _ w2 ⟨rfl, hb⟩
          have hb2 := chain hb1 hb
          clear hb hb1
          go_wp2_with fail
          rw [HT2.out]
          refine (at_parse t 81 [] _ (HT.out.keep hb2) (by omega) HP.out).mono ?_
          rintro _ w3 ⟨ao, cap, rfl, hI, hb⟩
          have hb3 := chain hb2 hb
          clear hb hb2 hI
          rw [List.length_nil]
          go_wp2_with fail
          refine (alive8_any _ (HT.out.keep hb3)).mono ?_
          rintro _ w4 ⟨rfl, hb⟩
          have hb4 := chain hb3 hb
          clear hb hb3
          go_wp2
          go_ret
          exact ⟨rfl, hb4⟩
        · have HT2 : Hid (OL ++ (⟨#[123, 125]⟩ : ByteArray) ++ OR = t) := HTT.out
          clear HTT
          go_enter Tryd.func8, Tryd.ntmps8
          go_wp2_with fail
          refine (repeat_at ⟨#[91]⟩ L (m + 1) _ _ (by omega) (by decide) (by omega) HL.out).mono ?_
          rintro _ w1 ⟨rfl, hb1⟩
          go_wp2_with fail
          refine (repeat_at ⟨#[93]⟩ R (m + 1) _ _ (by omega) (by decide) (by omega) HR.out).mono ?_
          rintro _ w2 ⟨rfl, hb⟩
          have hb2 := chain hb1 hb
          clear hb hb1
          go_wp2_with fail
          refine (repeat_at ⟨#[123, 34, 34, 58]⟩ OL m _ _ (by omega) (by decide) (by omega) HOL.out).mono ?_
          rintro _ w22 ⟨rfl, hb⟩
          have hb22 := chain hb2 hb
          clear hb hb2
          go_wp2_with fail
          refine (repeat_at ⟨#[125]⟩ OR m _ _ (by omega) (by decide) (by omega) HOR.out).mono ?_
          rintro _ w23 ⟨rfl, hb⟩
          have hb23 := chain hb22 hb
          clear hb hb22
          go_wp2_with fail
          rw [HT2.out]
          refine (at_parse t 81 [] _ (HT.out.keep hb23) (by omega) HP.out).mono ?_
          rintro _ w3 ⟨ao, cap, rfl, hI, hb⟩
          have hb3 := chain hb23 hb
          clear hb hb23 hI
          rw [List.length_nil]
          go_wp2_with fail
          refine (alive8_any _ (HT.out.keep hb3)).mono ?_
          rintro _ w4 ⟨rfl, hb⟩
          have hb4 := chain hb3 hb
          clear hb hb3
          go_wp2
          go_ret
          exact ⟨rfl, hb4⟩
      · obtain ⟨l, hp, hlen, hdep, hpr⟩ := deep_near a1 m hfar
        have HP : Hid (parseL readD t.data.toList = (0, l)) := by show _ = _; rw [HTL.out]; exact hp
        obtain ⟨j, hj, hlr, hw⟩ := parse_good _ _ HP.out
        rw [list_len] at hw
        have hsm := small_rows j hj 2000 (by rw [← hlr]; omega) (by omega)
        rw [← hlr] at hsm
        have HSM := Lib.hid hsm
        have HPU : Hid (bytesOf (printU l) = t) := by show _ = _; rw [hpr, ← HTL.out, bytesOf_list]
        have HPZ : Hid ((printU l).length ≤ 100000000000) := by show _ ≤ _; rw [hpr, ← HTL.out, list_len]; omega
        have hml : m < l.length := by omega
        have hdm : l[m].depth = (m : Int) := by
          rw [List.getElem?_eq_getElem hml] at hdep
          simpa using hdep
        have HDM := Lib.hid hdm
        have hf2 : ¬ (64 : Int) < (m : Int) + 1 := by omega
        have HLEN := Lib.hid hlen
        clear hp hlr hw hsm hpr hdep hdm hj hlen
        cases a1
        · have HT2 : Hid (L ++ R = t) := HTT.out
          clear HTT
          go_enter Tryd.func8, Tryd.ntmps8
          go_wp2_with fail
          refine (repeat_at ⟨#[91]⟩ L (m + 1) _ _ (by omega) (by decide) (by omega) HL.out).mono ?_
          rintro _ w1 ⟨rfl, hb1⟩
          go_wp2_with fail
          refine (repeat_at ⟨#[93]⟩ R (m + 1) _ _ (by omega) (by decide) (by omega) HR.out).mono ?_
          rintro _ w2 ⟨rfl, hb⟩
          have hb2 := chain hb1 hb
          clear hb hb1
          go_wp2_with fail
          rw [HT2.out]
          refine (at_parse t 0 l _ (HT.out.keep hb2) (by omega) HP.out).mono ?_
          rintro _ w3 ⟨ao, cap, rfl, hI, hb⟩
          have hb3 := chain hb2 hb
          clear hb hb2
          have HI := Lib.hid hI
          clear hI
          rw [HLEN.out] at HI ⊢
          go_wp2_with fail
          refine (alive8_any _ (HT.out.keep hb3)).mono ?_
          rintro _ w4 ⟨rfl, hb⟩
          have hI4 := HI.out.keep hb
          have hb4 := chain hb3 hb
          clear hb hb3
          obtain ⟨ad, rfl, hcl⟩ : ∃ ad, ao = some ad ∧ ∀ j u, (itsV l)[j]? = some u → w4.cell? (ad.add j) = some u := by
            rcases hI4 with ⟨h1, h2⟩ | ⟨ad, c2, h1, _, h3⟩
            · rw [h2] at hml
              cases hml
            · injection h1 with e1 e2 e3
              exact ⟨ad, e1, h3⟩
          have hq := (its_cells hcl m hml _ _ rfl rfl).1
          rw [HDM.out] at hq
          have HI4 := Lib.hid hI4
          clear hI4 hcl
          go_wp2_with fail
          refine (jprint_any _ l _ (HT.out.keep hb4) HI4.out HSM.out t HPU.out HPZ.out).mono ?_
          rintro _ w5 ⟨rfl, hb⟩
          have hb5 := chain hb4 hb
          clear hb hb4
          have HE : Hid (L ++ R = t) := HT2
          go_wp2
          go_ret
          exact ⟨rfl, hb5⟩
        · have HT2 : Hid (OL ++ (⟨#[123, 125]⟩ : ByteArray) ++ OR = t) := HTT.out
          clear HTT
          go_enter Tryd.func8, Tryd.ntmps8
          go_wp2_with fail
          refine (repeat_at ⟨#[91]⟩ L (m + 1) _ _ (by omega) (by decide) (by omega) HL.out).mono ?_
          rintro _ w1 ⟨rfl, hb1⟩
          go_wp2_with fail
          refine (repeat_at ⟨#[93]⟩ R (m + 1) _ _ (by omega) (by decide) (by omega) HR.out).mono ?_
          rintro _ w2 ⟨rfl, hb⟩
          have hb2 := chain hb1 hb
          clear hb hb1
          go_wp2_with fail
          refine (repeat_at ⟨#[123, 34, 34, 58]⟩ OL m _ _ (by omega) (by decide) (by omega) HOL.out).mono ?_
          rintro _ w22 ⟨rfl, hb⟩
          have hb22 := chain hb2 hb
          clear hb hb2
          go_wp2_with fail
          refine (repeat_at ⟨#[125]⟩ OR m _ _ (by omega) (by decide) (by omega) HOR.out).mono ?_
          rintro _ w23 ⟨rfl, hb⟩
          have hb23 := chain hb22 hb
          clear hb hb22
          go_wp2_with fail
          rw [HT2.out]
          refine (at_parse t 0 l _ (HT.out.keep hb23) (by omega) HP.out).mono ?_
          rintro _ w3 ⟨ao, cap, rfl, hI, hb⟩
          have hb3 := chain hb23 hb
          clear hb hb23
          have HI := Lib.hid hI
          clear hI
          rw [HLEN.out] at HI ⊢
          go_wp2_with fail
          refine (alive8_any _ (HT.out.keep hb3)).mono ?_
          rintro _ w4 ⟨rfl, hb⟩
          have hI4 := HI.out.keep hb
          have hb4 := chain hb3 hb
          clear hb hb3
          obtain ⟨ad, rfl, hcl⟩ : ∃ ad, ao = some ad ∧ ∀ j u, (itsV l)[j]? = some u → w4.cell? (ad.add j) = some u := by
            rcases hI4 with ⟨h1, h2⟩ | ⟨ad, c2, h1, _, h3⟩
            · rw [h2] at hml
              cases hml
            · injection h1 with e1 e2 e3
              exact ⟨ad, e1, h3⟩
          have hq := (its_cells hcl m hml _ _ rfl rfl).1
          rw [HDM.out] at hq
          have HI4 := Lib.hid hI4
          clear hI4 hcl
          go_wp2_with fail
          refine (jprint_any _ l _ (HT.out.keep hb4) HI4.out HSM.out t HPU.out HPZ.out).mono ?_
          rintro _ w5 ⟨rfl, hb⟩
          have hb5 := chain hb4 hb
          clear hb hb4
          go_wp2
          go_ret
          exact ⟨rfl, hb5⟩

set_option maxRecDepth 100000 in
theorem lifted (os : Os) (started : os.Started) (H : Type) (enc : TypeId × Value → H) :
    ReturnsInHanded {} Tryd.checked os 8 .any (fun w args => (Rows.jsonDepthSpec.pre enc Tryd.prog Tryd.f8 [] false w args ∧ laidMetH Tryd.prog listed w) ∧ sizedMet enc Tryd.prog Tryd.f8 (OpenSpec.ofChange Rows.jsonDepthSpec) false w args)
      (Rows.jsonDepthSpec.post enc Tryd.prog Tryd.f8 false true false false) := by
  refine returnsInHanded_of_change_and (C := Tryd.checked) (X := fun w _ => laidMetH Tryd.prog listed w) (fun _ _ _ hh h => h.of_heap hh) own started (by kernel_rfl) Tryd.func8
    (ChangeSpec.witness_shaped (enc := enc) (C := Tryd.checked) (os := os) (X := fun w _ => laidMetH Tryd.prog listed w) false (laidOver (World.holding Tryd.prog os ⟨#[], #[], []⟩)) #[.int .i64 0, .bool false] 8 rfl (World.shaped_of_RefB (by kernel_rfl) (by kernel_rfl)) (by kernel_rfl) (by kernel_rfl) (by kernel_rfl) (laid_over os _)) ?_
  intro W base args ds gs before hval0 hW hcnd hsz0 hL _
  have hT := tabs_listed hL
  have hval : ∀ (j : Nat) t v, Tryd.f8.params[j]? = some t → args[j]? = some v → Value.okWide Tryd.prog W .any base t v := hval0
  have hsz : (DataW.weightsEach Tryd.prog (Tryd.f8.params.toList ++ Rows.jsonDepthSpec.plain.varTypes Tryd.prog) (ds ++ gs)).all (· ≤ reachBytes) = true := hsz0
  have hW' := hW
  obtain ⟨p, q, hA0, hV, rfl, hfz, hnd⟩ := hW
  have hA : DataW.TrodAll enc Tryd.prog W 0 (fun _ => true) true Tryd.f8.params.toList args.toList ds p := hA0
  rw [Tryd.params8] at hA hval hsz
  obtain ⟨v0, vs0, d0, ds0, p0, q0, hargs, rfl, rfl, h0, r0⟩ := trodAll_cons hA
  obtain ⟨v1, vs1, d1, ds1, p1, q1, rfl, rfl, rfl, h1, r1⟩ := trodAll_cons r0
  obtain ⟨rfl, rfl, rfl⟩ := trodAll_nil r1
  obtain rfl : args = #[v0, v1] := by cases args; simp_all
  obtain ⟨rfl, rfl⟩ := trodVars_none hV
  obtain ⟨a0, rfl, rfl, rfl, w0⟩ := open_int Tryd.underlying3 (hval 0 3 v0 rfl rfl) h0
  obtain ⟨a1, rfl, rfl, rfl⟩ := open_bool Tryd.underlying4 (hval 1 4 v1 rfl rfl) h1
  clear hA0 hval0 hsz hsz0
  refine (walk a0 a1 w0 W hT).mono fun e W' ⟨he, bel⟩ => ?_
  subst he
  exact ⟨_, rfl, _, _, _, [], _, [], hW', trodAll_mk1 (shut_bool Tryd.underlying4 _), (trodAll_cons_mk (shut_int Tryd.underlying3 w0) (trodAll_cons_mk (shut_bool Tryd.underlying4 _) trodAll_mk0)), rfl, bel.frame _, fun h => by cases h⟩

theorem over : Rows.jsonDepthRow.holds Tryd.pinned (OpenSpec.ofChange Rows.jsonDepthSpec) :=
  OpenClaim.holds_of_wide 8 Tryd.f8 rfl rfl rfl rfl rfl rfl rfl ⟨rfl, rfl, rfl, rfl, rfl⟩ rfl rfl rfl rfl rfl (by kernel_rfl) Tryd.func8 (by kernel_rfl)
    (of_decide_eq_true (by kernel_rfl)) (by unfold Func.isWrapper; first | (rw [if_pos (by decide +kernel)]; kernel_rfl) | (rw [if_neg (by decide +kernel)]; exact ⟨rfl, rfl⟩))
    (fun os started H enc _ => lifted os started H enc)

set_option maxRecDepth 100000 in
theorem card : Rows.JsonDepthCardSaid :=
  Claim7.holds_tied_plain_at .later [] [.data, .pinned] true Rows.jsonDepthCard.stood.harness false
    over (fun _ h => by cases h) (by kernel_rfl) (fun _ h => by cases h) jsonDepth_row_tie rfl ⟨rfl, rfl⟩ (by kernel_rfl) rfl
    (fun f fn hf hfn => by
      obtain rfl : f = 8 := Option.some.inj ((show Tryd.prog.funcNamed Rows.jsonDepthRow.func = some 8 by kernel_rfl).symm.trans hf) |>.symm
      obtain rfl : fn = Tryd.f8 := (Option.some.inj (Tryd.func8.symm.trans hfn)).symm
      exact ⟨by kernel_rfl, fun j t ht => by
        rw [Tryd.params8] at ht
        have hm : t ∈ [3, 4] := by first | (simpa using Array.mem_of_getElem? ht) | (have hq := Array.mem_of_getElem? ht; simp at hq ⊢; omega)
        have hall : ([3, 4].all fun u => !Tryd.prog.wantsStandIn u) = true := by kernel_rfl
        exact (show Tryd.prog.wantsStandIn t = false by simpa using List.all_eq_true.1 hall t hm)⟩)
    (by kernel_rfl)

end Go.Proofs.YtmnigdcgdebgoaaDoor.jsonDepth
namespace Go.Proofs.YtmnigdcgdebgoaaDoor
/-- The statement. -/
theorem jsonDepth_proved : Rows.JsonDepthCardSaid := jsonDepth.card
end Go.Proofs.YtmnigdcgdebgoaaDoor
