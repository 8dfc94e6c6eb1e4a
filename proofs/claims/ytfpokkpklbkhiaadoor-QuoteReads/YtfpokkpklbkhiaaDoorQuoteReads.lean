/-
  For every text s, cracknellaw07.QuoteReads(s) returns true and leaves it as it was. Conditions: none beyond the form's own (a string that is read takes at most 2^47 - 4096 bytes).
-/
import Derived.Test.YtfpokkpklbkhiaaDoorQuoteAlive
import Derived.Test.YtfpokkpklbkhiaaDoorUtfLaid
import Derived.Test.YtfpokkpklbkhiaaDoorTie
import Derived.Test.YtfpokkpklbkhiaaDoorCards
import Derived.SevenTiedAt
import Derived.LaidLaws
import Derived.Stop.Joined
import Derived.ProofKit
import Derived.OpenShut
import Derived.ShutString
import Derived.ChangeOld
import Derived.SizedLaws
namespace Go.Proofs.YtfpokkpklbkhiaaDoor.quoteReads
open Go.ChangeShapes Go.WideShapes Go.ChangeAt Go.RowKit
open Go.ChangeMaps (open_string shut_string)
set_option linter.unusedVariables false

theorem own : ownKnob Tryd.prog.godebug = none := by kernel_rfl

theorem pieceW_err (s : ByteArray) (e : Nat) (h : readQ s.data.toList = (e, [], 0)) : pieceW (readQ s.data.toList) = .tuple #[.string ByteArray.empty, .int .i64 0, .int .i64 (e : Int)] := by
  rw [h]
  rfl
theorem pieceW_ok (s : ByteArray) (rs : List Nat) (n : Nat) (h : readQ s.data.toList = (0, textU rs, n)) : pieceW (readQ s.data.toList) = .tuple #[.string ⟨(textU rs).toArray⟩, .int .i64 (n : Int), .int .i64 0] := by
  rw [h]
  rfl
theorem valid_text (rs : List Nat) (h : letters rs) : validB ⟨(textU rs).toArray⟩ = true := by
  unfold validB
  have : runesU (textU rs) = some rs := (runesU_iff _ _).2 ⟨h, rfl⟩
  show (runesU (textU rs)).isSome = true
  rw [this]
  rfl
theorem at_rvalid (s : ByteArray) (b : Bool) (w : World) (hs : s.size ≤ 1000000000000) (h : validB s = b) :
    Calls Tryd.prog 14 #[.string s] w fun e w' => e = .returned (.bool b) ∧ Below w.heap.size w w' := h ▸ rvalid_any s w hs

set_option maxRecDepth 100000 in
set_option maxHeartbeats 1600000 in
theorem walk (a0 : ByteArray) (w0 : a0.size ≤ 140737488351232) (w : World) (hT : Tabs w) :
    Calls Tryd.prog 4 #[.string a0] w fun e w' => e = .returned (.bool true) ∧ Below w.heap.size w w' := by
  have HT := Lib.hid hT
  clear hT
  by_cases hbig : 1000 < a0.size
  · have z1 : (1000 : Int) < (a0.size : Int) := by omega
    go_enter Tryd.func4, Tryd.ntmps4
    go_wp2_with fail
    refine (alive_any _ HT.out).mono ?_
    rintro _ w1 ⟨rfl, hb1⟩
    go_wp2
    go_ret
    exact ⟨rfl, hb1⟩
  · have z1 : ¬ (1000 : Int) < (a0.size : Int) := by omega
    rcases readQ_cases a0.data.toList with ⟨e, he, hr⟩ | ⟨rs, n, hl, hrl, hn, hr, _⟩
    · have HP := Lib.hid (pieceW_err a0 e hr)
      have z2 : ¬ (e : Int) = 0 := by omega
      have z3 : ((e : Int) == 0) = false := by rw [beq_eq_false_iff_ne]; exact z2
      have z4 : ((e : Int) != 0) = true := by rw [bne_iff_ne]; exact z2
      obtain ⟨E, hE⟩ : ∃ E : Int, (e : Int) = E := ⟨_, rfl⟩
      rw [hE] at HP z2 z3 z4
      clear hr he hE
      go_enter Tryd.func4, Tryd.ntmps4
      go_wp2_with fail
      refine (at_qread a0 _ _ _ _ HT.out (by omega) HP.out).mono ?_
      rintro _ w1 ⟨rfl, hb1⟩
      go_wp2_with fail
      refine (at_rqread a0 _ _ _ _ (by omega) HP.out).mono ?_
      rintro _ w2 ⟨rfl, hb⟩
      have hb2 := chain hb1 hb
      clear hb hb1
      go_wp2_with fail
      refine (alive_any _ (HT.out.keep hb2)).mono ?_
      rintro _ w3 ⟨rfl, hb⟩
      have hb3 := chain hb2 hb
      clear hb hb2
      go_wp2
      go_ret
      exact ⟨rfl, hb3⟩
    · have HP := Lib.hid (pieceW_ok a0 rs n hr)
      rw [list_len] at hn hrl
      have h4 := textU_four rs
      have z2 : (n : Int) ≤ (a0.size : Int) := by omega
      have HV := Lib.hid (valid_text rs hl)
      have hts : (⟨(textU rs).toArray⟩ : ByteArray).size ≤ 1000000000000 := by
        rw [bytes_size]
        omega
      obtain ⟨t, ht⟩ : ∃ t : ByteArray, (⟨(textU rs).toArray⟩ : ByteArray) = t := ⟨_, rfl⟩
      rw [ht] at HP HV hts
      clear hr ht hl h4 hrl
      go_enter Tryd.func4, Tryd.ntmps4
      go_wp2_with fail
      refine (at_qread a0 _ _ _ _ HT.out (by omega) HP.out).mono ?_
      rintro _ w1 ⟨rfl, hb1⟩
      go_wp2_with fail
      refine (at_rqread a0 _ _ _ _ (by omega) HP.out).mono ?_
      rintro _ w2 ⟨rfl, hb⟩
      have hb2 := chain hb1 hb
      clear hb hb1
      go_wp2_with fail
      refine (alive_any _ (HT.out.keep hb2)).mono ?_
      rintro _ w3 ⟨rfl, hb⟩
      have hb3 := chain hb2 hb
      clear hb hb2
      go_wp2_with fail
      refine (at_rvalid t true _ hts HV.out).mono ?_
      rintro _ w4 ⟨rfl, hb⟩
      have hb4 := chain hb3 hb
      clear hb hb3
      go_wp2
      go_ret
      exact ⟨rfl, hb4⟩

set_option maxRecDepth 100000 in
theorem lifted (os : Os) (started : os.Started) (H : Type) (enc : TypeId × Value → H) :
    ReturnsInHanded {} Tryd.checked os 4 .any (fun w args => (Rows.quoteReadsSpec.pre enc Tryd.prog Tryd.f4 [] false w args ∧ laidMetH Tryd.prog listed w) ∧ sizedMet enc Tryd.prog Tryd.f4 (OpenSpec.ofChange Rows.quoteReadsSpec) false w args)
      (Rows.quoteReadsSpec.post enc Tryd.prog Tryd.f4 false true false false) := by
  refine returnsInHanded_of_change_and (C := Tryd.checked) (X := fun w _ => laidMetH Tryd.prog listed w) (fun _ _ _ hh h => h.of_heap hh) own started (by kernel_rfl) Tryd.func4
    (ChangeSpec.witness_shaped (enc := enc) (C := Tryd.checked) (os := os) (X := fun w _ => laidMetH Tryd.prog listed w) false (laidOver (World.holding Tryd.prog os ⟨#[], #[], []⟩)) #[.string ByteArray.empty] 8 rfl (World.shaped_of_RefB (by kernel_rfl) (by kernel_rfl)) (by kernel_rfl) (by kernel_rfl) (by kernel_rfl) (laid_over os _)) ?_
  intro W base args ds gs before hval0 hW hcnd hsz0 hL _
  have hT := tabs_listed hL
  have hval : ∀ (j : Nat) t v, Tryd.f4.params[j]? = some t → args[j]? = some v → Value.okWide Tryd.prog W .any base t v := hval0
  have hsz : (DataW.weightsEach Tryd.prog (Tryd.f4.params.toList ++ Rows.quoteReadsSpec.plain.varTypes Tryd.prog) (ds ++ gs)).all (· ≤ reachBytes) = true := hsz0
  have hW' := hW
  obtain ⟨p, q, hA0, hV, rfl, hfz, hnd⟩ := hW
  have hA : DataW.TrodAll enc Tryd.prog W 0 (fun _ => true) true Tryd.f4.params.toList args.toList ds p := hA0
  rw [Tryd.params4] at hA hval hsz
  obtain ⟨v0, vs0, d0, ds0, p0, q0, hargs, rfl, rfl, h0, r0⟩ := trodAll_cons hA
  obtain ⟨rfl, rfl, rfl⟩ := trodAll_nil r0
  obtain rfl : args = #[v0] := by cases args; simp_all
  obtain ⟨rfl, rfl⟩ := trodVars_none hV
  obtain ⟨a0, rfl, rfl, rfl, m0⟩ := open_string Tryd.underlying9 (hval 0 9 v0 rfl rfl) h0
  have w0 : a0.size ≤ 140737488351232 := by
    have h := sized_string hsz (j := 0) (t := 9) rfl rfl
    have e : a0.data.toList.length = a0.size := by simp
    unfold reachBytes at h
    omega
  clear hA0 hval0 hsz hsz0
  refine (walk a0 w0 W hT).mono fun e W' ⟨he, bel⟩ => ?_
  subst he
  exact ⟨_, rfl, _, _, _, [], _, [], hW', trodAll_mk1 (shut_bool Tryd.underlying4 _), (trodAll_cons_mk (shut_string Tryd.underlying9 m0) trodAll_mk0), rfl, bel.frame _, fun h => by cases h⟩

theorem over : Rows.quoteReadsRow.holds Tryd.pinned (OpenSpec.ofChange Rows.quoteReadsSpec) :=
  OpenClaim.holds_of_wide 4 Tryd.f4 rfl rfl rfl rfl rfl rfl rfl ⟨rfl, rfl, rfl, rfl, rfl⟩ rfl rfl rfl rfl rfl (by kernel_rfl) Tryd.func4 (by kernel_rfl)
    (of_decide_eq_true (by kernel_rfl)) (by unfold Func.isWrapper; first | (rw [if_pos (by decide +kernel)]; kernel_rfl) | (rw [if_neg (by decide +kernel)]; exact ⟨rfl, rfl⟩))
    (fun os started H enc _ => lifted os started H enc)

set_option maxRecDepth 100000 in
theorem card : Rows.QuoteReadsCardSaid :=
  Claim7.holds_tied_plain_at .later [] [.data, .pinned] true Rows.quoteReadsCard.stood.harness false
    over (fun _ h => by cases h) (by kernel_rfl) (fun _ h => by cases h) quoteReads_row_tie rfl ⟨rfl, rfl⟩ (by kernel_rfl) rfl
    (fun f fn hf hfn => by
      obtain rfl : f = 4 := Option.some.inj ((show Tryd.prog.funcNamed Rows.quoteReadsRow.func = some 4 by kernel_rfl).symm.trans hf) |>.symm
      obtain rfl : fn = Tryd.f4 := (Option.some.inj (Tryd.func4.symm.trans hfn)).symm
      exact ⟨by kernel_rfl, fun j t ht => by
        rw [Tryd.params4] at ht
        have hm : t ∈ [9] := by simpa using Array.mem_of_getElem? ht
        have hall : ([9].all fun u => !Tryd.prog.wantsStandIn u) = true := by kernel_rfl
        exact (show Tryd.prog.wantsStandIn t = false by simpa using List.all_eq_true.1 hall t hm)⟩)
    (by kernel_rfl)

end Go.Proofs.YtfpokkpklbkhiaaDoor.quoteReads
namespace Go.Proofs.YtfpokkpklbkhiaaDoor
/-- The statement. -/
theorem quoteReads_proved : Rows.QuoteReadsCardSaid := quoteReads.card
end Go.Proofs.YtfpokkpklbkhiaaDoor
