/-
  For all numbers l, cracknellaw05.UtfTexts(l) returns true and leaves them as they were. Conditions: none beyond the form's own (a slice that is read takes at most 2^47 - 4096 bytes). The two tables of the library's utf8 (first, acceptRanges) are as the program's text lays them: the statement is a tied card, over the pruned copy of the project that its seat holds; what tests or other packages might write there it leaves to the translator's report.
-/
import Derived.Test.YtncgecelnndneaaDoorUtfAlive
import Derived.Test.YtncgecelnndneaaDoorUtfLaid
import Derived.Test.YtncgecelnndneaaDoorTie
import Derived.Test.YtncgecelnndneaaDoorCards
import Derived.SevenTiedAt
import Derived.LaidLaws
import Derived.Stop.Joined
import Derived.ProofKit
import Derived.OpenShut
import Derived.ShutString
import Derived.ChangeOld
import Derived.SizedLaws
namespace Go.Proofs.YtncgecelnndneaaDoor.utfTexts
open Go.ChangeShapes Go.WideShapes Go.ChangeAt Go.RowKit
open Go.ChangeMaps (open_string shut_string)
set_option linter.unusedVariables false

theorem own : ownKnob Tryd.prog.godebug = none := by kernel_rfl

theorem ints_nats : ∀ l : List Int, allL l = true → intsN (natsI l) = l ∧ letters (natsI l)
  | [], _ => ⟨rfl, fun r hr => absurd hr List.not_mem_nil⟩
  | r :: t, h => by
    have h' : letB r = true ∧ allL t = true := by simpa [allL] using h
    obtain ⟨e1, e2⟩ := letB_letter r h'.1
    obtain ⟨i1, i2⟩ := ints_nats t h'.2
    refine ⟨?_, fun x hx => ?_⟩
    · show (r.toNat : Int) :: intsN (natsI t) = r :: t
      rw [i1, ← e1]
    · rcases List.mem_cons.1 hx with rfl | hx
      · exact e2
      · exact i2 x hx

theorem runes_text (l : List Int) (h : allL l = true) : runesU (textB l).data.toList = some (natsI l) := by
  rw [textB_list]
  exact (runesU_iff _ _).2 ⟨(ints_nats l h).2, rfl⟩

set_option maxRecDepth 100000 in
set_option maxHeartbeats 1600000 in
theorem walk (w : World) (a0 : Value) (s0 : List Int) (w0 : IntsAt w a0 s0 ∧ s0.length * 8 ≤ 140737488351232 ∧ ∀ n ∈ s0, -9223372036854775808 ≤ n ∧ n ≤ 9223372036854775807) (hT : Tabs w) :
    Calls Tryd.prog 5 #[a0] w fun e w' => e = .returned (.bool true) ∧ Below w.heap.size w w' := by
  obtain ⟨hi, hlen, hbd⟩ := w0
  have HI := Lib.hid hi
  have HB := Lib.hid hbd
  obtain ⟨ao, n, cap, rfl, hn, hc⟩ := hi.shape
  have n1 : n ≤ s0.length := by omega
  have n2 : s0.length ≤ n := by omega
  clear hi hbd hc hn
  by_cases hbig : 500 < n
  · go_enter Tryd.func5, Tryd.ntmps5
    go_wp2_with fail
    refine (alive_any _ (by first | exact hT | exact hT.keep hb1 | exact hT.keep hb2)).mono ?_
    rintro _ w1 ⟨rfl, hb1⟩
    go_wp2
    go_ret
    exact ⟨rfl, hb1⟩
  · by_cases ha : allL s0 = true
    · have HV : Hid (textV s0 = .tuple #[.string (textB s0), .bool true]) := by show _ = _; unfold textV; rw [ha]; rfl
      have hz := textB_size s0
      have hsz : (textB s0).size ≤ 1000000000000 := by omega
      have HR := Lib.hid (runes_text s0 ha)
      have HN := Lib.hid (ints_nats s0 ha).1
      have HVA : Hid (validB (textB s0) = true) := by show _ = _; unfold validB; rw [HR.out]; rfl
      clear ha hz
      go_enter Tryd.func5, Tryd.ntmps5
      go_wp2_with fail
      refine (text_any _ s0 _ HI.out (by omega) HB.out).mono ?_
      rintro _ w1 ⟨rfl, hb1⟩
      rw [HV.out]
      go_wp2_with fail
      refine (rtext_any _ s0 _ (HI.out.keep hb1) (by omega)).mono ?_
      rintro _ w2 ⟨rfl, hb⟩
      have hb2 := chain hb1 hb
      clear hb hb1
      rw [HV.out]
      go_wp2_with fail
      refine (at_runes _ (by first | exact hT | exact hT.keep hb1 | exact hT.keep hb2) hsz HR.out).mono ?_
      rintro _ w1 ⟨⟨v, rfl, hv⟩, hb⟩
      have hb1 := chain hb2 hb
      rw [HN.out] at hv
      have HW := Lib.hid hv
      clear hb hb2 hv HV HR HN
      go_wp2_with fail
      refine (alive_any _ (by first | exact hT | exact hT.keep hb1 | exact hT.keep hb2)).mono ?_
      rintro _ w2 ⟨rfl, hb⟩
      have hb2 := chain hb1 hb
      have HW2 := Lib.hid (HW.out.keep hb)
      clear hb hb1 HW
      go_wp2_with fail
      refine (rsame_any _ _ s0 s0 _ HW2.out (HI.out.keep hb2) (by omega) (by omega)).mono ?_
      rintro _ w1 ⟨rfl, hb⟩
      have hb1 := chain hb2 hb
      rw [show decide (s0 = s0) = true by simp]
      clear hb hb2 HW2
      go_wp2_with fail
      refine (at_valid _ (by first | exact hT | exact hT.keep hb1 | exact hT.keep hb2) hsz HVA.out).mono ?_
      rintro _ w2 ⟨rfl, hb⟩
      have hb2 := chain hb1 hb
      clear hb hb1 HVA
      go_wp2
      go_ret
      exact ⟨rfl, hb2⟩
    · have hno : allL s0 = false := by simpa using ha
      have HV : Hid (textV s0 = .tuple #[.string ByteArray.empty, .bool false]) := by show _ = _; unfold textV; rw [hno]; rfl
      clear ha hno
      go_enter Tryd.func5, Tryd.ntmps5
      go_wp2_with fail
      refine (text_any _ s0 _ HI.out (by omega) HB.out).mono ?_
      rintro _ w1 ⟨rfl, hb1⟩
      rw [HV.out]
      go_wp2_with fail
      refine (rtext_any _ s0 _ (HI.out.keep hb1) (by omega)).mono ?_
      rintro _ w2 ⟨rfl, hb⟩
      have hb2 := chain hb1 hb
      clear hb hb1
      rw [HV.out]
      go_wp2_with fail
      refine (at_runes (s := ByteArray.empty) (rs := []) _ (by first | exact hT | exact hT.keep hb1 | exact hT.keep hb2) (by decide) rfl).mono ?_
      rintro _ w1 ⟨⟨v, rfl, hv⟩, hb⟩
      have hb1 := chain hb2 hb
      clear hb hb2 hv HV
      go_wp2_with fail
      refine (alive_any _ (by first | exact hT | exact hT.keep hb1 | exact hT.keep hb2)).mono ?_
      rintro _ w2 ⟨rfl, hb⟩
      have hb2 := chain hb1 hb
      clear hb hb1
      go_wp2_with fail
      refine (at_valid (s := ByteArray.empty) (b := true) _ (by first | exact hT | exact hT.keep hb1 | exact hT.keep hb2) (by decide) (by kernel_rfl)).mono ?_
      rintro _ w1 ⟨rfl, hb⟩
      have hb1 := chain hb2 hb
      clear hb hb2
      go_wp2
      go_ret
      exact ⟨rfl, hb1⟩

set_option maxRecDepth 100000 in
theorem lifted (os : Os) (started : os.Started) (H : Type) (enc : TypeId × Value → H) :
    ReturnsInHanded {} Tryd.checked os 5 .any (fun w args => (Rows.utfTextsSpec.pre enc Tryd.prog Tryd.f5 [] false w args ∧ laidMetH Tryd.prog listed w) ∧ sizedMet enc Tryd.prog Tryd.f5 (OpenSpec.ofChange Rows.utfTextsSpec) false w args)
      (Rows.utfTextsSpec.post enc Tryd.prog Tryd.f5 false true false false) := by
  refine returnsInHanded_of_change_and (C := Tryd.checked) (X := fun w _ => laidMetH Tryd.prog listed w) (fun _ _ _ hh h => h.of_heap hh) own started (by kernel_rfl) Tryd.func5
    (ChangeSpec.witness_shaped (enc := enc) (C := Tryd.checked) (os := os) (X := fun w _ => laidMetH Tryd.prog listed w) false (laidOver (World.holding Tryd.prog os ⟨#[], #[], []⟩)) #[.slice none 0 0] 8 rfl (World.shaped_of_RefB (by kernel_rfl) (by kernel_rfl)) (by kernel_rfl) (by kernel_rfl) (by kernel_rfl) (laid_over os _)) ?_
  intro W base args ds gs before hval0 hW hcnd hsz0 hL _
  have hT := tabs_listed hL
  have hval : ∀ (j : Nat) t v, Tryd.f5.params[j]? = some t → args[j]? = some v → Value.okWide Tryd.prog W .any base t v := hval0
  have hsz : (DataW.weightsEach Tryd.prog (Tryd.f5.params.toList ++ Rows.utfTextsSpec.plain.varTypes Tryd.prog) (ds ++ gs)).all (· ≤ reachBytes) = true := hsz0
  have hW' := hW
  obtain ⟨p, q, hA0, hV, rfl, hfz, hnd⟩ := hW
  have hA : DataW.TrodAll enc Tryd.prog W 0 (fun _ => true) true Tryd.f5.params.toList args.toList ds p := hA0
  rw [Tryd.params5] at hA hval hsz
  obtain ⟨v0, vs0, d0, ds0, p0, q0, hargs, rfl, rfl, h0, r0⟩ := trodAll_cons hA
  obtain ⟨rfl, rfl, rfl⟩ := trodAll_nil r0
  obtain rfl : args = #[v0] := by cases args; simp_all
  obtain ⟨rfl, rfl⟩ := trodVars_none hV
  have h0k := h0
  have hlt0 : ∀ x ∈ p0, x.block < W.heap.size := fun x hx => by simpa using hW'.lt x (by simp [hx])
  obtain ⟨s0, w0⟩ := ints_opened h0 (okWide_slice Tryd.underlying29 (hval 0 29 v0 rfl rfl)) hsz (j := 0) rfl rfl
  clear hA0 hval0 hsz hsz0
  refine (walk W v0 s0 w0 hT).mono fun e W' ⟨he, bel⟩ => ?_
  subst he
  exact ⟨_, rfl, _, _, _, [], _, [], hW', trodAll_mk1 (shut_bool Tryd.underlying4 _), (trodAll_cons_mk (Below.trod Tryd.laidOutI (by kernel_rfl) (of_decide_eq_true (by kernel_rfl)) h0k bel hlt0) trodAll_mk0), rfl, bel.frame _, fun h => by cases h⟩

theorem over : Rows.utfTextsRow.holds Tryd.pinned (OpenSpec.ofChange Rows.utfTextsSpec) :=
  OpenClaim.holds_of_wide 5 Tryd.f5 rfl rfl rfl rfl rfl rfl rfl ⟨rfl, rfl, rfl, rfl, rfl⟩ rfl rfl rfl rfl rfl (by kernel_rfl) Tryd.func5 (by kernel_rfl)
    (of_decide_eq_true (by kernel_rfl)) (by unfold Func.isWrapper; first | (rw [if_pos (by decide +kernel)]; kernel_rfl) | (rw [if_neg (by decide +kernel)]; exact ⟨rfl, rfl⟩))
    (fun os started H enc _ => lifted os started H enc)

set_option maxRecDepth 100000 in
theorem card : Rows.UtfTextsCardSaid :=
  Claim7.holds_tied_plain_at .later [] [.data, .pinned] true Rows.utfTextsCard.stood.harness false
    over (fun _ h => by cases h) (by kernel_rfl) (fun _ h => by cases h) utfTexts_row_tie rfl ⟨rfl, rfl⟩ (by kernel_rfl) rfl
    (fun f fn hf hfn => by
      obtain rfl : f = 5 := Option.some.inj ((show Tryd.prog.funcNamed Rows.utfTextsRow.func = some 5 by kernel_rfl).symm.trans hf) |>.symm
      obtain rfl : fn = Tryd.f5 := (Option.some.inj (Tryd.func5.symm.trans hfn)).symm
      exact ⟨by kernel_rfl, fun j t ht => by
        rw [Tryd.params5] at ht
        have hm : t ∈ [29] := by simpa using Array.mem_of_getElem? ht
        have hall : ([29].all fun u => !Tryd.prog.wantsStandIn u) = true := by kernel_rfl
        exact (show Tryd.prog.wantsStandIn t = false by simpa using List.all_eq_true.1 hall t hm)⟩)
    (by kernel_rfl)

end Go.Proofs.YtncgecelnndneaaDoor.utfTexts
namespace Go.Proofs.YtncgecelnndneaaDoor
/-- The statement. -/
theorem utfTexts_proved : Rows.UtfTextsCardSaid := utfTexts.card
end Go.Proofs.YtncgecelnndneaaDoor
