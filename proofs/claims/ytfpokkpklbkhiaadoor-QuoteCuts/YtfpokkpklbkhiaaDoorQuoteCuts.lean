/-
  For every text s and number cut, cracknellaw07.QuoteCuts(s, cut) returns true and leaves s as it was. Conditions: none beyond the form's own (a string that is read takes at most 2^47 - 4096 bytes).
-/
import Derived.Test.YtfpokkpklbkhiaaDoorQuoteAlive
import Derived.Test.YtfpokkpklbkhiaaDoorUtfLaid
import Derived.Test.YtfpokkpklbkhiaaDoorTie
import Derived.Test.YtfpokkpklbkhiaaDoorCards
import Derived.SevenTiedAt
import Derived.LaidLaws
import Derived.Stop.Joined
import Derived.ProofKit
import Derived.OpenShut
import Derived.ShutString
import Derived.ChangeOld
import Derived.SizedLaws
namespace Go.Proofs.YtfpokkpklbkhiaaDoor.quoteCuts
open Go.ChangeShapes Go.WideShapes Go.ChangeAt Go.RowKit
open Go.ChangeMaps (open_string shut_string)
set_option linter.unusedVariables false

theorem own : ownKnob Tryd.prog.godebug = none := by kernel_rfl

theorem quoteV_no (s : ByteArray) (h : validB s = false) : quoteV s = .tuple #[.string ByteArray.empty, .bool false] := by
  unfold quoteV
  rw [h]
  rfl
theorem quoteV_yes (s : ByteArray) (h : validB s = true) : quoteV s = .tuple #[.string ⟨(quoteL s.data.toList).toArray⟩, .bool true] := by
  unfold quoteV
  rw [h]
  rfl
theorem quote_size (s t : ByteArray) (ht : (⟨(quoteL s.data.toList).toArray⟩ : ByteArray) = t) : t.size ≤ 6 * s.size + 2 := by
  subst ht
  rw [bytes_size]
  have := innerL_len s.data.toList
  rw [list_len] at this
  unfold quoteL
  rw [List.length_cons, List.length_append, List.length_singleton]
  omega
theorem cut_read (s t : ByteArray) (k : Nat) (h : validB s = true) (ht : (⟨(quoteL s.data.toList).toArray⟩ : ByteArray) = t) (hk : k < t.size) : ∃ e : Nat, e ≠ 0 ∧ pieceW (readQ (t.extract 0 k).data.toList) = .tuple #[.string ByteArray.empty, .int .i64 0, .int .i64 (e : Int)] := by
  obtain ⟨rs, hrs⟩ := Option.isSome_iff_exists.1 h
  subst ht
  rw [bytes_size] at hk
  obtain ⟨e, h1, h2⟩ := read_cut s.data.toList rs hrs k hk
  refine ⟨e, h1, ?_⟩
  rw [extract_list, List.drop_zero, Nat.sub_zero]
  show pieceW (readQ ((quoteL s.data.toList).take k)) = _
  rw [h2]
  rfl

set_option maxRecDepth 100000 in
set_option maxHeartbeats 1600000 in
theorem walk (a0 : ByteArray) (a1 : Int) (w0 : a0.size ≤ 140737488351232) (w1 : (Lit.int .i64 a1).wf = true) (w : World) (hT : Tabs w) :
    Calls Tryd.prog 6 #[.string a0, .int .i64 a1] w fun e w' => e = .returned (.bool true) ∧ Below w.heap.size w w' := by
  have HT := Lib.hid hT
  clear hT
  by_cases hbig : 300 < a0.size
  · have z1 : (300 : Int) < (a0.size : Int) := by omega
    go_enter Tryd.func6, Tryd.ntmps6
    go_wp2_with fail
    refine (alive_any _ HT.out).mono ?_
    rintro _ w1 ⟨rfl, hb1⟩
    go_wp2
    go_ret
    exact ⟨rfl, hb1⟩
  · have z1 : ¬ (300 : Int) < (a0.size : Int) := by omega
    cases hv : validB a0 with
    | false =>
      have HQ := Lib.hid (quoteV_no a0 hv)
      clear hv
      go_enter Tryd.func6, Tryd.ntmps6
      go_wp2_with fail
      refine (at_qwrite a0 _ false _ HT.out (by omega) HQ.out).mono ?_
      rintro _ w1 ⟨rfl, hb1⟩
      go_wp2_with fail
      refine (alive_any _ (HT.out.keep hb1)).mono ?_
      rintro _ w2 ⟨rfl, hb⟩
      have hb2 := chain hb1 hb
      clear hb hb1
      go_wp2
      go_ret
      exact ⟨rfl, hb2⟩
    | true =>
      obtain ⟨t, ht⟩ : ∃ t : ByteArray, (⟨(quoteL a0.data.toList).toArray⟩ : ByteArray) = t := ⟨_, rfl⟩
      have hq := quoteV_yes a0 hv
      rw [ht] at hq
      have HQ := Lib.hid hq
      have hts := quote_size a0 t ht
      by_cases hc : 0 ≤ a1 ∧ a1 < (t.size : Int)
      · obtain ⟨c1, c2⟩ := hc
        obtain ⟨k, rfl⟩ : ∃ k : Nat, a1 = (k : Int) := ⟨a1.toNat, by omega⟩
        have hk : k < t.size := by omega
        obtain ⟨e, he, hp⟩ := cut_read a0 t k hv ht hk
        have z2 : ¬ (e : Int) = 0 := by omega
        have z3 : ((e : Int) != 0) = true := by rw [bne_iff_ne]; exact z2
        obtain ⟨E, hE⟩ : ∃ E : Int, (e : Int) = E := ⟨_, rfl⟩
        rw [hE] at hp z2 z3
        have HP := Lib.hid hp
        have HZ : Hid ((t.extract 0 k).size ≤ 140737488351232) := by
          show _ ≤ _
          rw [ByteArray.size_extract]
          omega
        have z4 : ¬ (t.size : Int) ≤ (k : Int) := by omega
        have z5 : (k : Int) ≤ (t.size : Int) := by omega
        clear hq ht hv hp hE he
        go_enter Tryd.func6, Tryd.ntmps6
        go_wp2_with fail
        refine (at_qwrite a0 t true _ HT.out (by omega) HQ.out).mono ?_
        rintro _ w1 ⟨rfl, hb1⟩
        go_wp2_with fail
        refine (at_qread (t.extract 0 k) _ _ _ _ (HT.out.keep hb1) HZ.out HP.out).mono ?_
        rintro _ w2 ⟨rfl, hb⟩
        have hb2 := chain hb1 hb
        clear hb hb1
        go_wp2_with fail
        refine (alive_any _ (HT.out.keep hb2)).mono ?_
        rintro _ w3 ⟨rfl, hb⟩
        have hb3 := chain hb2 hb
        clear hb hb2
        go_wp2
        go_ret
        exact ⟨rfl, hb3⟩
      · clear hq ht hv
        by_cases h0 : a1 < 0
        · go_enter Tryd.func6, Tryd.ntmps6
          go_wp2_with fail
          refine (at_qwrite a0 t true _ HT.out (by omega) HQ.out).mono ?_
          rintro _ w1 ⟨rfl, hb1⟩
          go_wp2_with fail
          refine (alive_any _ (HT.out.keep hb1)).mono ?_
          rintro _ w2 ⟨rfl, hb⟩
          have hb2 := chain hb1 hb
          clear hb hb1
          go_wp2
          go_ret
          exact ⟨rfl, hb2⟩
        · have h2 : (t.size : Int) ≤ a1 := by omega
          clear hc
          go_enter Tryd.func6, Tryd.ntmps6
          go_wp2_with fail
          refine (at_qwrite a0 t true _ HT.out (by omega) HQ.out).mono ?_
          rintro _ w1 ⟨rfl, hb1⟩
          go_wp2_with fail
          refine (alive_any _ (HT.out.keep hb1)).mono ?_
          rintro _ w2 ⟨rfl, hb⟩
          have hb2 := chain hb1 hb
          clear hb hb1
          go_wp2
          go_ret
          exact ⟨rfl, hb2⟩

set_option maxRecDepth 100000 in
theorem lifted (os : Os) (started : os.Started) (H : Type) (enc : TypeId × Value → H) :
    ReturnsInHanded {} Tryd.checked os 6 .any (fun w args => (Rows.quoteCutsSpec.pre enc Tryd.prog Tryd.f6 [] false w args ∧ laidMetH Tryd.prog listed w) ∧ sizedMet enc Tryd.prog Tryd.f6 (OpenSpec.ofChange Rows.quoteCutsSpec) false w args)
      (Rows.quoteCutsSpec.post enc Tryd.prog Tryd.f6 false true false false) := by
  refine returnsInHanded_of_change_and (C := Tryd.checked) (X := fun w _ => laidMetH Tryd.prog listed w) (fun _ _ _ hh h => h.of_heap hh) own started (by kernel_rfl) Tryd.func6
    (ChangeSpec.witness_shaped (enc := enc) (C := Tryd.checked) (os := os) (X := fun w _ => laidMetH Tryd.prog listed w) false (laidOver (World.holding Tryd.prog os ⟨#[], #[], []⟩)) #[.string ByteArray.empty, .int .i64 0] 8 rfl (World.shaped_of_RefB (by kernel_rfl) (by kernel_rfl)) (by kernel_rfl) (by kernel_rfl) (by kernel_rfl) (laid_over os _)) ?_
  intro W base args ds gs before hval0 hW hcnd hsz0 hL _
  have hT := tabs_listed hL
  have hval : ∀ (j : Nat) t v, Tryd.f6.params[j]? = some t → args[j]? = some v → Value.okWide Tryd.prog W .any base t v := hval0
  have hsz : (DataW.weightsEach Tryd.prog (Tryd.f6.params.toList ++ Rows.quoteCutsSpec.plain.varTypes Tryd.prog) (ds ++ gs)).all (· ≤ reachBytes) = true := hsz0
  have hW' := hW
  obtain ⟨p, q, hA0, hV, rfl, hfz, hnd⟩ := hW
  have hA : DataW.TrodAll enc Tryd.prog W 0 (fun _ => true) true Tryd.f6.params.toList args.toList ds p := hA0
  rw [Tryd.params6] at hA hval hsz
  obtain ⟨v0, vs0, d0, ds0, p0, q0, hargs, rfl, rfl, h0, r0⟩ := trodAll_cons hA
  obtain ⟨v1, vs1, d1, ds1, p1, q1, rfl, rfl, rfl, h1, r1⟩ := trodAll_cons r0
  obtain ⟨rfl, rfl, rfl⟩ := trodAll_nil r1
  obtain rfl : args = #[v0, v1] := by cases args; simp_all
  obtain ⟨rfl, rfl⟩ := trodVars_none hV
  obtain ⟨a0, rfl, rfl, rfl, m0⟩ := open_string Tryd.underlying9 (hval 0 9 v0 rfl rfl) h0
  obtain ⟨a1, rfl, rfl, rfl, w1⟩ := open_int Tryd.underlying3 (hval 1 3 v1 rfl rfl) h1
  have w0 : a0.size ≤ 140737488351232 := by
    have h := sized_string hsz (j := 0) (t := 9) rfl rfl
    have e : a0.data.toList.length = a0.size := by simp
    unfold reachBytes at h
    omega
  clear hA0 hval0 hsz hsz0
  refine (walk a0 a1 w0 w1 W hT).mono fun e W' ⟨he, bel⟩ => ?_
  subst he
  exact ⟨_, rfl, _, _, _, [], _, [], hW', trodAll_mk1 (shut_bool Tryd.underlying4 _), (trodAll_cons_mk (shut_string Tryd.underlying9 m0) (trodAll_cons_mk (shut_int Tryd.underlying3 w1) trodAll_mk0)), rfl, bel.frame _, fun h => by cases h⟩

theorem over : Rows.quoteCutsRow.holds Tryd.pinned (OpenSpec.ofChange Rows.quoteCutsSpec) :=
  OpenClaim.holds_of_wide 6 Tryd.f6 rfl rfl rfl rfl rfl rfl rfl ⟨rfl, rfl, rfl, rfl, rfl⟩ rfl rfl rfl rfl rfl (by kernel_rfl) Tryd.func6 (by kernel_rfl)
    (of_decide_eq_true (by kernel_rfl)) (by unfold Func.isWrapper; first | (rw [if_pos (by decide +kernel)]; kernel_rfl) | (rw [if_neg (by decide +kernel)]; exact ⟨rfl, rfl⟩))
    (fun os started H enc _ => lifted os started H enc)

set_option maxRecDepth 100000 in
theorem card : Rows.QuoteCutsCardSaid :=
  Claim7.holds_tied_plain_at .later [] [.data, .pinned] true Rows.quoteCutsCard.stood.harness false
    over (fun _ h => by cases h) (by kernel_rfl) (fun _ h => by cases h) quoteCuts_row_tie rfl ⟨rfl, rfl⟩ (by kernel_rfl) rfl
    (fun f fn hf hfn => by
      obtain rfl : f = 6 := Option.some.inj ((show Tryd.prog.funcNamed Rows.quoteCutsRow.func = some 6 by kernel_rfl).symm.trans hf) |>.symm
      obtain rfl : fn = Tryd.f6 := (Option.some.inj (Tryd.func6.symm.trans hfn)).symm
      exact ⟨by kernel_rfl, fun j t ht => by
        rw [Tryd.params6] at ht
        have hm : t ∈ [9, 3] := by first | (simpa using Array.mem_of_getElem? ht) | (have hq := Array.mem_of_getElem? ht; simp at hq ⊢; omega)
        have hall : ([9, 3].all fun u => !Tryd.prog.wantsStandIn u) = true := by kernel_rfl
        exact (show Tryd.prog.wantsStandIn t = false by simpa using List.all_eq_true.1 hall t hm)⟩)
    (by kernel_rfl)

end Go.Proofs.YtfpokkpklbkhiaaDoor.quoteCuts
namespace Go.Proofs.YtfpokkpklbkhiaaDoor
/-- The statement. -/
theorem quoteCuts_proved : Rows.QuoteCutsCardSaid := quoteCuts.card
end Go.Proofs.YtfpokkpklbkhiaaDoor
