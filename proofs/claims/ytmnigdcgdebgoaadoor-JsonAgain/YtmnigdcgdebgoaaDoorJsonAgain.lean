/-
  For every text s, cracknellaw08.JsonAgain(s) returns true and leaves it as it was. Conditions: none beyond the form's own (a string that is read takes at most 2^47 - 4096 bytes).
-/
import Derived.Test.YtmnigdcgdebgoaaDoorJsF
import Derived.Test.YtmnigdcgdebgoaaDoorUtfLaid
import Derived.Test.YtmnigdcgdebgoaaDoorTie
import Derived.Test.YtmnigdcgdebgoaaDoorCards
import Derived.SevenTiedAt
import Derived.LaidLaws
import Derived.Stop.Joined
import Derived.ProofKit
import Derived.OpenShut
import Derived.ShutString
import Derived.ChangeOld
import Derived.SizedLaws
namespace Go.Proofs.YtmnigdcgdebgoaaDoor.jsonAgain
open Go.ChangeShapes Go.WideShapes Go.ChangeAt Go.RowKit
open Go.ChangeMaps (open_string shut_string)
set_option linter.unusedVariables false

theorem own : ownKnob Tryd.prog.godebug = none := by kernel_rfl

theorem text_head_ne (j : J) (h : j.good 0) : j.text printL ≠ [] := by
  obtain ⟨c, t, e, _⟩ := J.text_head numFair 0 j h
  rw [e]
  simp

set_option maxRecDepth 100000 in
set_option maxHeartbeats 1600000 in
theorem walk (a0 : ByteArray) (w0 : a0.size ≤ 140737488351232) (w : World) (hT : Tabs w) :
    Calls Tryd.prog 6 #[.string a0] w fun e w' => e = .returned (.bool true) ∧ Below w.heap.size w w' := by
  have HT := Lib.hid hT
  clear hT
  by_cases hbig : 500 < a0.size
  · have z1 : (500 : Int) < (a0.size : Int) := by omega
    go_enter Tryd.func6, Tryd.ntmps6
    go_wp2_with fail
    refine (alive8_any _ HT.out).mono ?_
    rintro _ w1 ⟨rfl, hb1⟩
    go_wp2
    go_ret
    exact ⟨rfl, hb1⟩
  · have z1 : ¬ (500 : Int) < (a0.size : Int) := by omega
    obtain ⟨E, l, hp⟩ : ∃ E l, parseL readD a0.data.toList = (E, l) := ⟨_, _, rfl⟩
    have HP := Lib.hid hp
    by_cases hE : E = 0
    · subst hE
      obtain ⟨j, hj, hl, hw⟩ := parse_good _ _ hp
      rw [list_len] at hw
      have hsm := small_rows j hj 500 (by rw [← hl]; omega) (by omega)
      have htl := j.text_len 0 [] hj
      rw [← hl] at hsm htl
      have hlz : l.length ≤ 100000 := hsm.1
      have hpu : printU l = j.text printL := by rw [hl]; exact j.printed hj
      have hpt : parseL readD (j.text printL) = (0, l) := by rw [hl]; exact parse_text j hj
      obtain ⟨t, ht⟩ : ∃ t, bytesOf (j.text printL) = t := ⟨_, rfl⟩
      have htz : t.size ≤ 1000000 := by
        rw [← ht, bytesOf_size]
        omega
      have HPU : Hid (bytesOf (printU l) = t) := by show _ = _; rw [hpu]; exact ht
      have HPZ : Hid ((printU l).length ≤ 100000000000) := by show _ ≤ _; rw [hpu]; omega
      have HPT : Hid (parseL readD t.data.toList = (0, l)) := by show _ = _; rw [← ht, list_bytesOf]; exact hpt
      have HSM := Lib.hid hsm
      have hne : t.toList ≠ [] := by
        rw [ByteArray.toList_eq, ← ht, list_bytesOf]
        exact text_head_ne j hj
      have hem : t.toList.isEmpty = false := by
        cases h : t.toList with
        | nil => exact absurd h hne
        | cons c r => rfl
      have heq : (t.toList == t.toList) = true := by simp
      obtain ⟨n, hn⟩ : ∃ n, l.length = n := ⟨_, rfl⟩
      have HLZ := Lib.hid hlz
      clear hp hl hw hsm htl hpu hpt ht hj hlz
      go_enter Tryd.func6, Tryd.ntmps6
      go_wp2_with fail
      refine (at_parse a0 0 l _ HT.out (by omega) HP.out).mono ?_
      rintro _ w1 ⟨ao, cap, rfl, hI1, hb1⟩
      rw [hn] at hI1
      have HI1 := Lib.hid hI1
      have HT1 := Lib.hid (HT.out.keep hb1)
      have HB1 := Lib.hid hb1
      clear hI1 hb1
      rw [hn]
      go_wp2_with fail
      refine (jprint_any _ l _ HT1.out HI1.out HSM.out t HPU.out HPZ.out).mono ?_
      rintro _ w2 ⟨rfl, hb2⟩
      have HI2 := Lib.hid (HI1.out.keep hb2)
      have HT2 := Lib.hid (HT1.out.keep hb2)
      have HB2 := Lib.hid (chain HB1.out hb2)
      clear hb2 HI1 HT1 HB1
      go_wp2_with fail
      refine (at_parse t 0 l _ HT2.out htz HPT.out).mono ?_
      rintro _ w3 ⟨ao3, cap3, rfl, hI3, hb3⟩
      rw [hn] at hI3 ⊢
      have HJ3 := Lib.hid hI3
      have HI3 := Lib.hid (HI2.out.keep hb3)
      have HT3 := Lib.hid (HT2.out.keep hb3)
      have HB3 := Lib.hid (chain HB2.out hb3)
      clear hI3 hb3 HI2 HT2 HB2
      go_wp2_with fail
      refine (alive8_any _ HT3.out).mono ?_
      rintro _ w4 ⟨rfl, hb4⟩
      have HJ4 := Lib.hid (HJ3.out.keep hb4)
      have HI4 := Lib.hid (HI3.out.keep hb4)
      have HT4 := Lib.hid (HT3.out.keep hb4)
      have HB4 := Lib.hid (chain HB3.out hb4)
      clear hb4 HJ3 HI3 HT3 HB3
      go_wp2_with fail
      refine (at_olds _ l _ HJ4.out HLZ.out).mono ?_
      rintro _ w5 ⟨ao5, cap5, rfl, hI5, hb5⟩
      rw [hn] at hI5 ⊢
      have HK5 := Lib.hid hI5
      have HJ5 := Lib.hid (HJ4.out.keep hb5)
      have HI5 := Lib.hid (HI4.out.keep hb5)
      have HT5 := Lib.hid (HT4.out.keep hb5)
      have HB5 := Lib.hid (chain HB4.out hb5)
      clear hI5 hb5 HJ4 HI4 HT4 HB4
      go_wp2_with fail
      refine (at_olds _ l _ HI5.out HLZ.out).mono ?_
      rintro _ w6 ⟨ao6, cap6, rfl, hI6, hb6⟩
      rw [hn] at hI6 ⊢
      have HL6 := Lib.hid hI6
      have HK6 := Lib.hid (HK5.out.keep hb6)
      have HJ6 := Lib.hid (HJ5.out.keep hb6)
      have HT6 := Lib.hid (HT5.out.keep hb6)
      have HB6 := Lib.hid (chain HB5.out hb6)
      clear hI6 hb6 HJ5 HK5 HI5 HT5 HB5
      go_wp2_with fail
      refine (at_same _ _ l l true _ HK6.out HL6.out HLZ.out HLZ.out (by simp)).mono ?_
      rintro _ w7 ⟨rfl, hb7⟩
      have HJ7 := Lib.hid (HJ6.out.keep hb7)
      have HT7 := Lib.hid (HT6.out.keep hb7)
      have HB7 := Lib.hid (chain HB6.out hb7)
      clear hb7 HJ6 HK6 HL6 HT6 HB6
      go_wp2_with fail
      refine (jprint_any _ l _ HT7.out HJ7.out HSM.out t HPU.out HPZ.out).mono ?_
      rintro _ w8 ⟨rfl, hb8⟩
      have hb9 := chain HB7.out hb8
      clear hb8
      go_wp2
      go_ret
      exact ⟨rfl, hb9⟩
    · have hl : l = [] := by
        have := parse_err a0.data.toList (by rw [hp]; exact hE)
        rw [hp] at this
        exact this
      subst hl
      have z2 : ¬ (E : Int) = 0 := by omega
      have z3 : ((E : Int) == 0) = false := by rw [beq_eq_false_iff_ne]; exact z2
      have z4 : ((E : Int) != 0) = true := by rw [bne_iff_ne]; exact z2
      clear hp
      go_enter Tryd.func6, Tryd.ntmps6
      go_wp2_with fail
      refine (at_parse a0 E [] _ HT.out (by omega) HP.out).mono ?_
      rintro _ w1 ⟨ao, cap, rfl, hI1, hb1⟩
      have HT1 := Lib.hid (HT.out.keep hb1)
      have HB1 := Lib.hid hb1
      clear hI1 hb1
      rw [List.length_nil]
      go_wp2_with fail
      refine (alive8_any _ HT1.out).mono ?_
      rintro _ w2 ⟨rfl, hb2⟩
      have hb9 := chain HB1.out hb2
      clear hb2
      go_wp2
      go_ret
      exact ⟨rfl, hb9⟩

set_option maxRecDepth 100000 in
theorem lifted (os : Os) (started : os.Started) (H : Type) (enc : TypeId × Value → H) :
    ReturnsInHanded {} Tryd.checked os 6 .any (fun w args => (Rows.jsonAgainSpec.pre enc Tryd.prog Tryd.f6 [] false w args ∧ laidMetH Tryd.prog listed w) ∧ sizedMet enc Tryd.prog Tryd.f6 (OpenSpec.ofChange Rows.jsonAgainSpec) false w args)
      (Rows.jsonAgainSpec.post enc Tryd.prog Tryd.f6 false true false false) := by
  refine returnsInHanded_of_change_and (C := Tryd.checked) (X := fun w _ => laidMetH Tryd.prog listed w) (fun _ _ _ hh h => h.of_heap hh) own started (by kernel_rfl) Tryd.func6
    (ChangeSpec.witness_shaped (enc := enc) (C := Tryd.checked) (os := os) (X := fun w _ => laidMetH Tryd.prog listed w) false (laidOver (World.holding Tryd.prog os ⟨#[], #[], []⟩)) #[.string ByteArray.empty] 8 rfl (World.shaped_of_RefB (by kernel_rfl) (by kernel_rfl)) (by kernel_rfl) (by kernel_rfl) (by kernel_rfl) (laid_over os _)) ?_
  intro W base args ds gs before hval0 hW hcnd hsz0 hL _
  have hT := tabs_listed hL
  have hval : ∀ (j : Nat) t v, Tryd.f6.params[j]? = some t → args[j]? = some v → Value.okWide Tryd.prog W .any base t v := hval0
  have hsz : (DataW.weightsEach Tryd.prog (Tryd.f6.params.toList ++ Rows.jsonAgainSpec.plain.varTypes Tryd.prog) (ds ++ gs)).all (· ≤ reachBytes) = true := hsz0
  have hW' := hW
  obtain ⟨p, q, hA0, hV, rfl, hfz, hnd⟩ := hW
  have hA : DataW.TrodAll enc Tryd.prog W 0 (fun _ => true) true Tryd.f6.params.toList args.toList ds p := hA0
  rw [Tryd.params6] at hA hval hsz
  obtain ⟨v0, vs0, d0, ds0, p0, q0, hargs, rfl, rfl, h0, r0⟩ := trodAll_cons hA
  obtain ⟨rfl, rfl, rfl⟩ := trodAll_nil r0
  obtain rfl : args = #[v0] := by cases args; simp_all
  obtain ⟨rfl, rfl⟩ := trodVars_none hV
  obtain ⟨a0, rfl, rfl, rfl, m0⟩ := open_string Tryd.underlying9 (hval 0 9 v0 rfl rfl) h0
  have w0 : a0.size ≤ 140737488351232 := by
    have h := sized_string hsz (j := 0) (t := 9) rfl rfl
    have e : a0.data.toList.length = a0.size := by simp
    unfold reachBytes at h
    omega
  clear hA0 hval0 hsz hsz0
  refine (walk a0 w0 W hT).mono fun e W' ⟨he, bel⟩ => ?_
  subst he
  exact ⟨_, rfl, _, _, _, [], _, [], hW', trodAll_mk1 (shut_bool Tryd.underlying4 _), (trodAll_cons_mk (shut_string Tryd.underlying9 m0) trodAll_mk0), rfl, bel.frame _, fun h => by cases h⟩

theorem over : Rows.jsonAgainRow.holds Tryd.pinned (OpenSpec.ofChange Rows.jsonAgainSpec) :=
  OpenClaim.holds_of_wide 6 Tryd.f6 rfl rfl rfl rfl rfl rfl rfl ⟨rfl, rfl, rfl, rfl, rfl⟩ rfl rfl rfl rfl rfl (by kernel_rfl) Tryd.func6 (by kernel_rfl)
    (of_decide_eq_true (by kernel_rfl)) (by unfold Func.isWrapper; first | (rw [if_pos (by decide +kernel)]; kernel_rfl) | (rw [if_neg (by decide +kernel)]; exact ⟨rfl, rfl⟩))
    (fun os started H enc _ => lifted os started H enc)

set_option maxRecDepth 100000 in
theorem card : Rows.JsonAgainCardSaid :=
  Claim7.holds_tied_plain_at .later [] [.data, .pinned] true Rows.jsonAgainCard.stood.harness false
    over (fun _ h => by cases h) (by kernel_rfl) (fun _ h => by cases h) jsonAgain_row_tie rfl ⟨rfl, rfl⟩ (by kernel_rfl) rfl
    (fun f fn hf hfn => by
      obtain rfl : f = 6 := Option.some.inj ((show Tryd.prog.funcNamed Rows.jsonAgainRow.func = some 6 by kernel_rfl).symm.trans hf) |>.symm
      obtain rfl : fn = Tryd.f6 := (Option.some.inj (Tryd.func6.symm.trans hfn)).symm
      exact ⟨by kernel_rfl, fun j t ht => by
        rw [Tryd.params6] at ht
        have hm : t ∈ [9] := by first | (simpa using Array.mem_of_getElem? ht) | (have hq := Array.mem_of_getElem? ht; simp at hq ⊢; omega)
        have hall : ([9].all fun u => !Tryd.prog.wantsStandIn u) = true := by kernel_rfl
        exact (show Tryd.prog.wantsStandIn t = false by simpa using List.all_eq_true.1 hall t hm)⟩)
    (by kernel_rfl)

end Go.Proofs.YtmnigdcgdebgoaaDoor.jsonAgain
namespace Go.Proofs.YtmnigdcgdebgoaaDoor
/-- The statement. -/
theorem jsonAgain_proved : Rows.JsonAgainCardSaid := jsonAgain.card
end Go.Proofs.YtmnigdcgdebgoaaDoor
