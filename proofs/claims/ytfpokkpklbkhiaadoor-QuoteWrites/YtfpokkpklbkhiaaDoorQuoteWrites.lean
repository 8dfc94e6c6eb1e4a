/-
  For all texts s and behind, cracknellaw07.QuoteWrites(s, behind) returns true and leaves them as they were. Conditions: none beyond the form's own (a string that is read takes at most 2^47 - 4096 bytes).
-/
import Derived.Test.YtfpokkpklbkhiaaDoorQuoteAlive
import Derived.Test.YtfpokkpklbkhiaaDoorUtfLaid
import Derived.Test.YtfpokkpklbkhiaaDoorTie
import Derived.Test.YtfpokkpklbkhiaaDoorCards
import Derived.SevenTiedAt
import Derived.LaidLaws
import Derived.Stop.Joined
import Derived.ProofKit
import Derived.OpenShut
import Derived.ShutString
import Derived.ChangeOld
import Derived.SizedLaws
namespace Go.Proofs.YtfpokkpklbkhiaaDoor.quoteWrites
open Go.ChangeShapes Go.WideShapes Go.ChangeAt Go.RowKit
open Go.ChangeMaps (open_string shut_string)
set_option linter.unusedVariables false

theorem own : ownKnob Tryd.prog.godebug = none := by kernel_rfl

theorem quoteV_no (s : ByteArray) (h : validB s = false) : quoteV s = .tuple #[.string ByteArray.empty, .bool false] := by
  unfold quoteV
  rw [h]
  rfl
theorem quoteV_yes (s : ByteArray) (h : validB s = true) : quoteV s = .tuple #[.string ⟨(quoteL s.data.toList).toArray⟩, .bool true] := by
  unfold quoteV
  rw [h]
  rfl
theorem runes_of (s : ByteArray) (h : validB s = true) : ∃ rs, runesU s.data.toList = some rs := Option.isSome_iff_exists.1 h
theorem read_back (s t b : ByteArray) (h : validB s = true) (ht : (⟨(quoteL s.data.toList).toArray⟩ : ByteArray) = t) : readQ (t ++ b).data.toList = (0, s.data.toList, t.size) := by
  obtain ⟨rs, hrs⟩ := runes_of s h
  subst ht
  rw [app_list, read_valid _ _ rs hrs, bytes_size]
theorem quote_size (s t : ByteArray) (ht : (⟨(quoteL s.data.toList).toArray⟩ : ByteArray) = t) : t.size ≤ 6 * s.size + 2 := by
  subst ht
  rw [bytes_size]
  have := innerL_len s.data.toList
  rw [list_len] at this
  unfold quoteL
  rw [List.length_cons, List.length_append, List.length_singleton]
  omega
theorem pieceW_back (s : ByteArray) (u : ByteArray) (n : Nat) (h : readQ s.data.toList = (0, u.data.toList, n)) : pieceW (readQ s.data.toList) = .tuple #[.string u, .int .i64 (n : Int), .int .i64 0] := by
  rw [h]
  show Value.tuple #[.string ⟨u.data.toList.toArray⟩, .int .i64 (n : Int), .int .i64 ((0 : Nat) : Int)] = _
  rw [← ba_list]
  rfl
theorem pieceW_any (s : ByteArray) : ∃ t n e, pieceW (readQ s.data.toList) = .tuple #[.string t, .int .i64 n, .int .i64 e] := ⟨_, _, _, rfl⟩

set_option maxRecDepth 100000 in
set_option maxHeartbeats 1600000 in
theorem walk (a0 : ByteArray) (a1 : ByteArray) (w0 : a0.size ≤ 140737488351232) (w1 : a1.size ≤ 140737488351232) (w : World) (hT : Tabs w) :
    Calls Tryd.prog 3 #[.string a0, .string a1] w fun e w' => e = .returned (.bool true) ∧ Below w.heap.size w w' := by
  have HT := Lib.hid hT
  clear hT
  by_cases hbig : 1000 < a0.size
  · have z1 : (1000 : Int) < (a0.size : Int) := by omega
    go_enter Tryd.func3, Tryd.ntmps3
    go_wp2_with fail
    refine (alive_any _ HT.out).mono ?_
    rintro _ w1 ⟨rfl, hb1⟩
    go_wp2
    go_ret
    exact ⟨rfl, hb1⟩
  · have z1 : ¬ (1000 : Int) < (a0.size : Int) := by omega
    cases hv : validB a0 with
    | false =>
      have HQ := Lib.hid (quoteV_no a0 hv)
      have he : ByteArray.empty ++ a1 = a1 := by
        apply ba_ext
        rw [app_list]
        rfl
      obtain ⟨u, n, e, hp⟩ := pieceW_any (ByteArray.empty ++ a1)
      have HP := Lib.hid hp
      have hsz : (ByteArray.empty ++ a1).size ≤ 140737488351232 := by rw [he]; omega
      have HZ := Lib.hid hsz
      obtain ⟨E, hE⟩ : ∃ E : ByteArray, ByteArray.empty = E := ⟨_, rfl⟩
      rw [hE] at HQ HP HZ
      have hsum : E.size + a1.size ≤ 9223372036854775807 := by rw [← hE]; show 0 + a1.size ≤ _; omega
      clear hp hv he hsz hE
      go_enter Tryd.func3, Tryd.ntmps3
      go_wp2_with fail
      refine (at_qwrite a0 E false _ HT.out (by omega) HQ.out).mono ?_
      rintro _ w1 ⟨rfl, hb1⟩
      go_wp2_with fail
      refine (at_rqwrite a0 E false _ (by omega) HQ.out).mono ?_
      rintro _ w2 ⟨rfl, hb⟩
      have hb2 := chain hb1 hb
      clear hb hb1
      go_wp2_with fail
      refine (at_qread (E ++ a1) _ _ _ _ (HT.out.keep hb2) HZ.out HP.out).mono ?_
      rintro _ w3 ⟨rfl, hb⟩
      have hb3 := chain hb2 hb
      clear hb hb2
      go_wp2_with fail
      refine (alive_any _ (HT.out.keep hb3)).mono ?_
      rintro _ w4 ⟨rfl, hb⟩
      have hb4 := chain hb3 hb
      clear hb hb3
      go_wp2
      go_ret
      exact ⟨rfl, hb4⟩
    | true =>
      obtain ⟨t, ht⟩ : ∃ t : ByteArray, (⟨(quoteL a0.data.toList).toArray⟩ : ByteArray) = t := ⟨_, rfl⟩
      have hq := quoteV_yes a0 hv
      rw [ht] at hq
      have HQ := Lib.hid hq
      have hrb := read_back a0 t a1 hv ht
      have HRB := Lib.hid hrb
      have HP := Lib.hid (pieceW_back (t ++ a1) a0 t.size hrb)
      have hts := quote_size a0 t ht
      have hsum : t.size + a1.size ≤ 9223372036854775807 := by omega
      have hsz : (t ++ a1).size = t.size + a1.size := by simp
      have hfar : (t ++ a1).size ≤ 150000000000000 := by omega
      have HFAR := Lib.hid hfar
      clear hq hrb ht hv hsz hfar
      go_enter Tryd.func3, Tryd.ntmps3
      go_wp2_with fail
      refine (at_qwrite a0 t true _ HT.out (by omega) HQ.out).mono ?_
      rintro _ w1 ⟨rfl, hb1⟩
      go_wp2_with fail
      refine (at_rqwrite a0 t true _ (by omega) HQ.out).mono ?_
      rintro _ w2 ⟨rfl, hb⟩
      have hb2 := chain hb1 hb
      clear hb hb1
      go_wp2_with fail
      refine (at_qread_far (t ++ a1) _ _ _ _ _ _ (HT.out.keep hb2) HFAR.out HRB.out (by omega) HP.out).mono ?_
      rintro _ w3 ⟨rfl, hb⟩
      have hb3 := chain hb2 hb
      clear hb hb2
      go_wp2_with fail
      refine (alive_any _ (HT.out.keep hb3)).mono ?_
      rintro _ w4 ⟨rfl, hb⟩
      have hb4 := chain hb3 hb
      clear hb hb3
      go_wp2
      go_ret
      exact ⟨rfl, hb4⟩

set_option maxRecDepth 100000 in
theorem lifted (os : Os) (started : os.Started) (H : Type) (enc : TypeId × Value → H) :
    ReturnsInHanded {} Tryd.checked os 3 .any (fun w args => (Rows.quoteWritesSpec.pre enc Tryd.prog Tryd.f3 [] false w args ∧ laidMetH Tryd.prog listed w) ∧ sizedMet enc Tryd.prog Tryd.f3 (OpenSpec.ofChange Rows.quoteWritesSpec) false w args)
      (Rows.quoteWritesSpec.post enc Tryd.prog Tryd.f3 false true false false) := by
  refine returnsInHanded_of_change_and (C := Tryd.checked) (X := fun w _ => laidMetH Tryd.prog listed w) (fun _ _ _ hh h => h.of_heap hh) own started (by kernel_rfl) Tryd.func3
    (ChangeSpec.witness_shaped (enc := enc) (C := Tryd.checked) (os := os) (X := fun w _ => laidMetH Tryd.prog listed w) false (laidOver (World.holding Tryd.prog os ⟨#[], #[], []⟩)) #[.string ByteArray.empty, .string ByteArray.empty] 8 rfl (World.shaped_of_RefB (by kernel_rfl) (by kernel_rfl)) (by kernel_rfl) (by kernel_rfl) (by kernel_rfl) (laid_over os _)) ?_
  intro W base args ds gs before hval0 hW hcnd hsz0 hL _
  have hT := tabs_listed hL
  have hval : ∀ (j : Nat) t v, Tryd.f3.params[j]? = some t → args[j]? = some v → Value.okWide Tryd.prog W .any base t v := hval0
  have hsz : (DataW.weightsEach Tryd.prog (Tryd.f3.params.toList ++ Rows.quoteWritesSpec.plain.varTypes Tryd.prog) (ds ++ gs)).all (· ≤ reachBytes) = true := hsz0
  have hW' := hW
  obtain ⟨p, q, hA0, hV, rfl, hfz, hnd⟩ := hW
  have hA : DataW.TrodAll enc Tryd.prog W 0 (fun _ => true) true Tryd.f3.params.toList args.toList ds p := hA0
  rw [Tryd.params3] at hA hval hsz
  obtain ⟨v0, vs0, d0, ds0, p0, q0, hargs, rfl, rfl, h0, r0⟩ := trodAll_cons hA
  obtain ⟨v1, vs1, d1, ds1, p1, q1, rfl, rfl, rfl, h1, r1⟩ := trodAll_cons r0
  obtain ⟨rfl, rfl, rfl⟩ := trodAll_nil r1
  obtain rfl : args = #[v0, v1] := by cases args; simp_all
  obtain ⟨rfl, rfl⟩ := trodVars_none hV
  obtain ⟨a0, rfl, rfl, rfl, m0⟩ := open_string Tryd.underlying9 (hval 0 9 v0 rfl rfl) h0
  obtain ⟨a1, rfl, rfl, rfl, m1⟩ := open_string Tryd.underlying9 (hval 1 9 v1 rfl rfl) h1
  have w0 : a0.size ≤ 140737488351232 := by
    have h := sized_string hsz (j := 0) (t := 9) rfl rfl
    have e : a0.data.toList.length = a0.size := by simp
    unfold reachBytes at h
    omega
  have w1 : a1.size ≤ 140737488351232 := by
    have h := sized_string hsz (j := 1) (t := 9) rfl rfl
    have e : a1.data.toList.length = a1.size := by simp
    unfold reachBytes at h
    omega
  clear hA0 hval0 hsz hsz0
  refine (walk a0 a1 w0 w1 W hT).mono fun e W' ⟨he, bel⟩ => ?_
  subst he
  exact ⟨_, rfl, _, _, _, [], _, [], hW', trodAll_mk1 (shut_bool Tryd.underlying4 _), (trodAll_cons_mk (shut_string Tryd.underlying9 m0) (trodAll_cons_mk (shut_string Tryd.underlying9 m1) trodAll_mk0)), rfl, bel.frame _, fun h => by cases h⟩

theorem over : Rows.quoteWritesRow.holds Tryd.pinned (OpenSpec.ofChange Rows.quoteWritesSpec) :=
  OpenClaim.holds_of_wide 3 Tryd.f3 rfl rfl rfl rfl rfl rfl rfl ⟨rfl, rfl, rfl, rfl, rfl⟩ rfl rfl rfl rfl rfl (by kernel_rfl) Tryd.func3 (by kernel_rfl)
    (of_decide_eq_true (by kernel_rfl)) (by unfold Func.isWrapper; first | (rw [if_pos (by decide +kernel)]; kernel_rfl) | (rw [if_neg (by decide +kernel)]; exact ⟨rfl, rfl⟩))
    (fun os started H enc _ => lifted os started H enc)

set_option maxRecDepth 100000 in
theorem card : Rows.QuoteWritesCardSaid :=
  Claim7.holds_tied_plain_at .later [] [.data, .pinned] true Rows.quoteWritesCard.stood.harness false
    over (fun _ h => by cases h) (by kernel_rfl) (fun _ h => by cases h) quoteWrites_row_tie rfl ⟨rfl, rfl⟩ (by kernel_rfl) rfl
    (fun f fn hf hfn => by
      obtain rfl : f = 3 := Option.some.inj ((show Tryd.prog.funcNamed Rows.quoteWritesRow.func = some 3 by kernel_rfl).symm.trans hf) |>.symm
      obtain rfl : fn = Tryd.f3 := (Option.some.inj (Tryd.func3.symm.trans hfn)).symm
      exact ⟨by kernel_rfl, fun j t ht => by
        rw [Tryd.params3] at ht
        have hm : t ∈ [9] := by simpa using Array.mem_of_getElem? ht
        have hall : ([9].all fun u => !Tryd.prog.wantsStandIn u) = true := by kernel_rfl
        exact (show Tryd.prog.wantsStandIn t = false by simpa using List.all_eq_true.1 hall t hm)⟩)
    (by kernel_rfl)

end Go.Proofs.YtfpokkpklbkhiaaDoor.quoteWrites
namespace Go.Proofs.YtfpokkpklbkhiaaDoor
/-- The statement. -/
theorem quoteWrites_proved : Rows.QuoteWritesCardSaid := quoteWrites.card
end Go.Proofs.YtfpokkpklbkhiaaDoor
