/-
  For every text s, cracknellaw08.JsonParses(s) returns true, and leaves all memory that was there as it was. Conditions: none beyond the form's own (a string that is read takes at most 2^47 - 4096 bytes).
-/
import Derived.Test.YtmnigdcgdebgoaaDoorJsonRefQ
import Derived.Test.YtmnigdcgdebgoaaDoorUtfLaid
import Derived.Test.YtmnigdcgdebgoaaDoorTie
import Derived.Test.YtmnigdcgdebgoaaDoorCards
import Derived.SevenTiedAt
import Derived.LaidLaws
import Derived.Stop.Joined
import Derived.ProofKit
import Derived.OpenShut
import Derived.ShutString
import Derived.ChangeOld
import Derived.SizedLaws
namespace Go.Proofs.YtmnigdcgdebgoaaDoor.jsonParses
open Go.ChangeShapes Go.WideShapes Go.ChangeAt Go.RowKit
open Go.ChangeMaps (open_string shut_string)
set_option linter.unusedVariables false

theorem own : ownKnob Tryd.prog.godebug = none := by kernel_rfl

theorem at_rparse (s : ByteArray) (E : Nat) (l : List It) (w : World) (hs : s.size ≤ 1000000) (h : parseL readD s.data.toList = (E, l)) :
    Calls Tryd.prog 21 #[.string s] w fun e w' => ∃ ao cap, e = .returned (.tuple #[.slice ao l.length cap, .int .i64 (E : Int)]) ∧ ItsAt w' (.slice ao l.length cap) l ∧ Below w.heap.size w w' := by
  refine (rparse_any s w hs).mono ?_
  rw [h]
  rintro e w' ⟨v, rfl, hI, hb⟩
  obtain ⟨ao, cap, rfl⟩ := hI.shape
  exact ⟨ao, cap, rfl, hI, hb⟩

set_option maxRecDepth 100000 in
set_option maxHeartbeats 1600000 in
theorem walk (a0 : ByteArray) (w0 : a0.size ≤ 140737488351232) (w : World) (hT : Tabs w) :
    Calls Tryd.prog 5 #[.string a0] w fun e w' => e = .returned (.bool true) ∧ Below w.heap.size w w' := by
  have HT := Lib.hid hT
  clear hT
  by_cases hbig : 500 < a0.size
  · have z1 : (500 : Int) < (a0.size : Int) := by omega
    go_enter Tryd.func5, Tryd.ntmps5
    go_wp2_with fail
    refine (alive8_any _ HT.out).mono ?_
    rintro _ w1 ⟨rfl, hb1⟩
    go_wp2
    go_ret
    exact ⟨rfl, hb1⟩
  · have z1 : ¬ (500 : Int) < (a0.size : Int) := by omega
    obtain ⟨E, l, hp⟩ : ∃ E l, parseL readD a0.data.toList = (E, l) := ⟨_, _, rfl⟩
    have HP := Lib.hid hp
    have hmath : l.length ≤ 100000 ∧ Small l ∧ (rightU l = decide (E = 0)) := by
      by_cases hE : E = 0
      · subst hE
        obtain ⟨j, hj, hl, hw⟩ := parse_good _ _ hp
        rw [list_len] at hw
        have hsm := small_rows j hj 500 (by rw [← hl]; omega) (by omega)
        rw [← hl] at hsm
        exact ⟨hsm.1, hsm, by rw [hl, j.right hj]; rfl⟩
      · have hl : l = [] := by
          have := parse_err a0.data.toList (by rw [hp]; exact hE)
          rw [hp] at this
          exact this
        subst hl
        refine ⟨Nat.zero_le _, ⟨Nat.zero_le _, fun x hx => by cases hx⟩, ?_⟩
        rw [decide_eq_false hE]
        rfl
    obtain ⟨hlz, hsm, hru⟩ := hmath
    obtain ⟨R, hR⟩ : ∃ R, rightU l = R := ⟨_, rfl⟩
    have hER : ((E : Int) == 0) = R := by
      rw [← hR, hru, Bool.eq_iff_iff, beq_iff_eq, decide_eq_true_eq]
      omega
    have hEE : ((E : Int) == (E : Int)) = true := by simp
    have HLZ := Lib.hid hlz
    have HSM := Lib.hid hsm
    have HR := Lib.hid hR
    obtain ⟨n, hn⟩ : ∃ n, l.length = n := ⟨_, rfl⟩
    clear hp hlz hsm hru hR
    go_enter Tryd.func5, Tryd.ntmps5
    go_wp2_with fail
    refine (at_parse a0 E l _ HT.out (by omega) HP.out).mono ?_
    rintro _ w1 ⟨ao1, cap1, rfl, hI1, hb1⟩
    rw [hn] at hI1 ⊢
    have HI1 := Lib.hid hI1
    have HT1 := Lib.hid (HT.out.keep hb1)
    have HB1 := Lib.hid hb1
    clear hI1 hb1 HT
    go_wp2_with fail
    refine (at_rparse a0 E l _ (by omega) HP.out).mono ?_
    rintro _ w2 ⟨ao2, cap2, rfl, hI2, hb2⟩
    rw [hn] at hI2 ⊢
    have HM2 := Lib.hid hI2
    have HI2 := Lib.hid (HI1.out.keep hb2)
    have HT2 := Lib.hid (HT1.out.keep hb2)
    have HB2 := Lib.hid (chain HB1.out hb2)
    clear hI2 hb2 HT1 HI1 HB1
    go_wp2_with fail
    refine (alive8_any _ HT2.out).mono ?_
    rintro _ w3 ⟨rfl, hb3⟩
    have HM3 := Lib.hid (HM2.out.keep hb3)
    have HI3 := Lib.hid (HI2.out.keep hb3)
    have HT3 := Lib.hid (HT2.out.keep hb3)
    have HB3 := Lib.hid (chain HB2.out hb3)
    clear hb3 HT2 HI2 HB2 HM2
    go_wp2_with fail
    refine (at_olds _ l _ HI3.out HLZ.out).mono ?_
    rintro _ w4 ⟨ao4, cap4, rfl, hI4, hb4⟩
    rw [hn] at hI4 ⊢
    have HO4 := Lib.hid hI4
    have HM4 := Lib.hid (HM3.out.keep hb4)
    have HI4 := Lib.hid (HI3.out.keep hb4)
    have HT4 := Lib.hid (HT3.out.keep hb4)
    have HB4 := Lib.hid (chain HB3.out hb4)
    clear hI4 hb4 HT3 HI3 HB3 HM3
    go_wp2_with fail
    refine (at_same _ _ l l true _ HO4.out HM4.out HLZ.out HLZ.out (by simp)).mono ?_
    rintro _ w5 ⟨rfl, hb5⟩
    have HI5 := Lib.hid (HI4.out.keep hb5)
    have HT5 := Lib.hid (HT4.out.keep hb5)
    have HB5 := Lib.hid (chain HB4.out hb5)
    clear hb5 HT4 HI4 HB4 HM4 HO4
    cases R with
    | true =>
      go_wp2_with fail
      refine (at_right _ l true _ HT5.out HI5.out HSM.out HR.out).mono ?_
      rintro _ w6 ⟨rfl, hb6⟩
      have hb := chain HB5.out hb6
      go_wp2
      go_ret
      exact ⟨rfl, hb⟩
    | false =>
      go_wp2_with fail
      refine (at_right _ l false _ HT5.out HI5.out HSM.out HR.out).mono ?_
      rintro _ w6 ⟨rfl, hb6⟩
      have hb := chain HB5.out hb6
      go_wp2
      go_ret
      exact ⟨rfl, hb⟩

set_option maxRecDepth 100000 in
theorem lifted (os : Os) (started : os.Started) (H : Type) (enc : TypeId × Value → H) :
    ReturnsInHanded {} Tryd.checked os 5 .any (fun w args => (Rows.jsonParsesSpec.pre enc Tryd.prog Tryd.f5 [] false w args ∧ laidMetH Tryd.prog listed w) ∧ sizedMet enc Tryd.prog Tryd.f5 (OpenSpec.ofChange Rows.jsonParsesSpec) false w args)
      (Rows.jsonParsesSpec.post enc Tryd.prog Tryd.f5 false true false false) := by
  refine returnsInHanded_of_change_and (C := Tryd.checked) (X := fun w _ => laidMetH Tryd.prog listed w) (fun _ _ _ hh h => h.of_heap hh) own started (by kernel_rfl) Tryd.func5
    (ChangeSpec.witness_shaped (enc := enc) (C := Tryd.checked) (os := os) (X := fun w _ => laidMetH Tryd.prog listed w) false (laidOver (World.holding Tryd.prog os ⟨#[], #[], []⟩)) #[.string ByteArray.empty] 8 rfl (World.shaped_of_RefB (by kernel_rfl) (by kernel_rfl)) (by kernel_rfl) (by kernel_rfl) (by kernel_rfl) (laid_over os _)) ?_
  intro W base args ds gs before hval0 hW hcnd hsz0 hL _
  have hT := tabs_listed hL
  have hval : ∀ (j : Nat) t v, Tryd.f5.params[j]? = some t → args[j]? = some v → Value.okWide Tryd.prog W .any base t v := hval0
  have hsz : (DataW.weightsEach Tryd.prog (Tryd.f5.params.toList ++ Rows.jsonParsesSpec.plain.varTypes Tryd.prog) (ds ++ gs)).all (· ≤ reachBytes) = true := hsz0
  have hW' := hW
  obtain ⟨p, q, hA0, hV, rfl, hfz, hnd⟩ := hW
  have hA : DataW.TrodAll enc Tryd.prog W 0 (fun _ => true) true Tryd.f5.params.toList args.toList ds p := hA0
  rw [Tryd.params5] at hA hval hsz
  obtain ⟨v0, vs0, d0, ds0, p0, q0, hargs, rfl, rfl, h0, r0⟩ := trodAll_cons hA
  obtain ⟨rfl, rfl, rfl⟩ := trodAll_nil r0
  obtain rfl : args = #[v0] := by cases args; simp_all
  obtain ⟨rfl, rfl⟩ := trodVars_none hV
  obtain ⟨a0, rfl, rfl, rfl, m0⟩ := open_string Tryd.underlying9 (hval 0 9 v0 rfl rfl) h0
  have w0 : a0.size ≤ 140737488351232 := by
    have h := sized_string hsz (j := 0) (t := 9) rfl rfl
    have e : a0.data.toList.length = a0.size := by simp
    unfold reachBytes at h
    omega
  clear hA0 hval0 hsz hsz0
  refine (walk a0 w0 W hT).mono fun e W' ⟨he, bel⟩ => ?_
  subst he
  exact ⟨_, rfl, _, _, _, [], _, [], hW', trodAll_mk1 (shut_bool Tryd.underlying4 _), (trodAll_cons_mk (shut_string Tryd.underlying9 m0) trodAll_mk0), rfl, bel.frame _, fun h => by cases h⟩

theorem over : Rows.jsonParsesRow.holds Tryd.pinned (OpenSpec.ofChange Rows.jsonParsesSpec) :=
  OpenClaim.holds_of_wide 5 Tryd.f5 rfl rfl rfl rfl rfl rfl rfl ⟨rfl, rfl, rfl, rfl, rfl⟩ rfl rfl rfl rfl rfl (by kernel_rfl) Tryd.func5 (by kernel_rfl)
    (of_decide_eq_true (by kernel_rfl)) (by unfold Func.isWrapper; first | (rw [if_pos (by decide +kernel)]; kernel_rfl) | (rw [if_neg (by decide +kernel)]; exact ⟨rfl, rfl⟩))
    (fun os started H enc _ => lifted os started H enc)

set_option maxRecDepth 100000 in
theorem card : Rows.JsonParsesCardSaid :=
  Claim7.holds_tied_plain_at .later [] [.data, .pinned] true Rows.jsonParsesCard.stood.harness false
    over (fun _ h => by cases h) (by kernel_rfl) (fun _ h => by cases h) jsonParses_row_tie rfl ⟨rfl, rfl⟩ (by kernel_rfl) rfl
    (fun f fn hf hfn => by
      obtain rfl : f = 5 := Option.some.inj ((show Tryd.prog.funcNamed Rows.jsonParsesRow.func = some 5 by kernel_rfl).symm.trans hf) |>.symm
      obtain rfl : fn = Tryd.f5 := (Option.some.inj (Tryd.func5.symm.trans hfn)).symm
      exact ⟨by kernel_rfl, fun j t ht => by
        rw [Tryd.params5] at ht
        have hm : t ∈ [9] := by first | (simpa using Array.mem_of_getElem? ht) | (have hq := Array.mem_of_getElem? ht; simp at hq ⊢; omega)
        have hall : ([9].all fun u => !Tryd.prog.wantsStandIn u) = true := by kernel_rfl
        exact (show Tryd.prog.wantsStandIn t = false by simpa using List.all_eq_true.1 hall t hm)⟩)
    (by kernel_rfl)

end Go.Proofs.YtmnigdcgdebgoaaDoor.jsonParses
namespace Go.Proofs.YtmnigdcgdebgoaaDoor
/-- The statement. -/
theorem jsonParses_proved : Rows.JsonParsesCardSaid := jsonParses.card
end Go.Proofs.YtmnigdcgdebgoaaDoor
