/-
  For all texts a and b, cracknellaw07.QuoteApart(a, b) returns true and leaves them as they were. Conditions: none beyond the form's own (a string that is read takes at most 2^47 - 4096 bytes).
-/
import Derived.Test.YtfpokkpklbkhiaaDoorQuoteAlive
import Derived.Test.YtfpokkpklbkhiaaDoorUtfLaid
import Derived.Test.YtfpokkpklbkhiaaDoorTie
import Derived.Test.YtfpokkpklbkhiaaDoorCards
import Derived.SevenTiedAt
import Derived.LaidLaws
import Derived.Stop.Joined
import Derived.ProofKit
import Derived.OpenShut
import Derived.ShutString
import Derived.ChangeOld
import Derived.SizedLaws
namespace Go.Proofs.YtfpokkpklbkhiaaDoor.quoteApart
open Go.ChangeShapes Go.WideShapes Go.ChangeAt Go.RowKit
open Go.ChangeMaps (open_string shut_string)
set_option linter.unusedVariables false

theorem own : ownKnob Tryd.prog.godebug = none := by kernel_rfl

/-- What Write answers: a text without bytes below 32. -/
theorem quote_any (s : ByteArray) : ∃ (t : ByteArray) (b : Bool), quoteV s = .tuple #[.string t, .bool b] ∧ t.size ≤ 6 * s.size + 2 ∧ (∀ k (hk : k < t.size), 32 ≤ (t[k]).toNat) ∧ (b = true → validB s = true ∧ t = ⟨(quoteL s.data.toList).toArray⟩) := by
  cases h : validB s with
  | false =>
    refine ⟨ByteArray.empty, false, by unfold quoteV; rw [h]; rfl, Nat.zero_le _, fun k hk => absurd hk (by show ¬ k < 0; omega), fun h2 => by cases h2⟩
  | true =>
    refine ⟨⟨(quoteL s.data.toList).toArray⟩, true, by unfold quoteV; rw [h]; rfl, ?_, fun k hk => ?_, fun _ => ⟨rfl, rfl⟩⟩
    · rw [bytes_size]
      have := innerL_len s.data.toList
      rw [list_len] at this
      unfold quoteL
      rw [List.length_cons, List.length_append, List.length_singleton]
      omega
    · refine quoteL_32 s.data.toList _ ?_
      rw [← bget _ k hk]
      exact List.getElem_mem _
theorem apart_same (a b s t : ByteArray) (ha : validB a = true) (hb : validB b = true) (hs : s = ⟨(quoteL a.data.toList).toArray⟩) (ht : t = ⟨(quoteL b.data.toList).toArray⟩) : a ≠ b → s ≠ t := by
  intro h e
  obtain ⟨ra, hra⟩ := Option.isSome_iff_exists.1 ha
  obtain ⟨rb, hrb⟩ := Option.isSome_iff_exists.1 hb
  subst hs ht
  have e2 : quoteL a.data.toList = quoteL b.data.toList := by
    have := congrArg (fun x : ByteArray => x.data.toList) e
    simpa using this
  exact h (ba_ext (quote_inj _ _ ra rb hra hrb e2))
def ApartAt (s : ByteArray) (i : Value) : Prop := ∃ k : Nat, k ≤ s.size ∧ i = .int .i64 (k : Int)
theorem text_ne {a b : ByteArray} (h : a ≠ b) : (a.toList == b.toList) = false ∧ ¬ a.toList = b.toList := by
  have e := eq_toList a b
  rw [decide_eq_false h] at e
  exact ⟨e, by simpa using e⟩

set_option maxRecDepth 100000 in
set_option maxHeartbeats 1600000 in
theorem walk (a0 : ByteArray) (a1 : ByteArray) (w0 : a0.size ≤ 140737488351232) (w1 : a1.size ≤ 140737488351232) (w : World) (hT : Tabs w) :
    Calls Tryd.prog 8 #[.string a0, .string a1] w fun e w' => e = .returned (.bool true) ∧ Below w.heap.size w w' := by
  have HT := Lib.hid hT
  clear hT
  by_cases hbig : 300 < a0.size ∨ 300 < a1.size
  · rcases (show 300 < a0.size ∨ (a0.size ≤ 300 ∧ 300 < a1.size) from by omega) with h | ⟨h, h'⟩
    all_goals
      clear hbig
      go_enter Tryd.func8, Tryd.ntmps8
      go_wp2_with fail
      refine (alive_any _ HT.out).mono ?_
      rintro _ w1 ⟨rfl, hb1⟩
      go_wp2
      go_ret
      exact ⟨rfl, hb1⟩
  · have z1 : ¬ (300 : Int) < (a0.size : Int) := by omega
    have z2 : ¬ (300 : Int) < (a1.size : Int) := by omega
    have y1 : a0.size ≤ 300 := by omega
    have y2 : a1.size ≤ 300 := by omega
    obtain ⟨s, b, hq, hsz, hlow, hyes⟩ := quote_any a0
    obtain ⟨t, d, hq2, hsz2, _, hyes2⟩ := quote_any a1
    have HQ := Lib.hid hq
    have HQ2 := Lib.hid hq2
    have HLOW := Lib.hid hlow
    have HSAME : Hid (b = true → d = true → (a0 = a1 ∧ s = t) ∨ (a0 ≠ a1 ∧ s ≠ t)) := by
      show _ → _ → _
      intro h1 h2
      obtain ⟨v1, rfl⟩ := hyes h1
      obtain ⟨v2, rfl⟩ := hyes2 h2
      by_cases e : a0 = a1
      · exact .inl ⟨e, by rw [e]⟩
      · exact .inr ⟨e, apart_same a0 a1 _ _ v1 v2 rfl rfl e⟩
    clear hbig hq hq2 hlow hyes hyes2
    go_enter Tryd.func8, Tryd.ntmps8
    go_wp2_with fail
    refine (at_qwrite a0 s b _ HT.out (by omega) HQ.out).mono ?_
    rintro _ w1 ⟨rfl, hb1⟩
    go_wp2_with fail
    refine (at_qwrite a1 t d _ (HT.out.keep hb1) (by omega) HQ2.out).mono ?_
    rintro _ w2 ⟨rfl, hb⟩
    have hb2 := chain hb1 hb
    clear hb hb1
    go_wp2
    go_loop [31] (fun i => ApartAt s i) (fun i => s.size - (intOf i).toNat)
    case atStart => exact ⟨0, by omega, rfl⟩
    case round =>
      obtain ⟨k, hk, rfl⟩ := hrel
      by_cases hlt : k < s.size
      · have hk32 := HLOW.out k hlt
        have z3 : ¬ (s[k].toNat : Int) < 32 := by omega
        go_wp2
        go_round
        case rel => exact ⟨k + 1, by omega, by go_num⟩
        case measure => simp [intOf]; omega
      · cases b with
        | false =>
          go_wp2_with fail
          refine (alive_any _ (HT.out.keep hb2)).mono ?_
          rintro _ w3 ⟨rfl, hb⟩
          have hb3 := chain hb2 hb
          go_wp2
          go_ret
          exact ⟨rfl, hb3⟩
        | true =>
          cases d with
          | false =>
            go_wp2_with fail
            refine (alive_any _ (HT.out.keep hb2)).mono ?_
            rintro _ w3 ⟨rfl, hb⟩
            have hb3 := chain hb2 hb
            go_wp2
            go_ret
            exact ⟨rfl, hb3⟩
          | true =>
            rcases HSAME.out rfl rfl with ⟨e1, e2⟩ | ⟨e1, e2⟩
            · subst e1 e2
              go_wp2_with fail
              refine (alive_any _ (HT.out.keep hb2)).mono ?_
              rintro _ w3 ⟨rfl, hb⟩
              have hb3 := chain hb2 hb
              go_wp2
              go_ret
              exact ⟨rfl, hb3⟩
            · obtain ⟨f1, f2⟩ := text_ne e1
              obtain ⟨f3, f4⟩ := text_ne e2
              clear e1 e2
              go_wp2_with fail
              refine (alive_any _ (HT.out.keep hb2)).mono ?_
              rintro _ w3 ⟨rfl, hb⟩
              have hb3 := chain hb2 hb
              go_wp2
              go_ret
              exact ⟨rfl, hb3⟩

set_option maxRecDepth 100000 in
theorem lifted (os : Os) (started : os.Started) (H : Type) (enc : TypeId × Value → H) :
    ReturnsInHanded {} Tryd.checked os 8 .any (fun w args => (Rows.quoteApartSpec.pre enc Tryd.prog Tryd.f8 [] false w args ∧ laidMetH Tryd.prog listed w) ∧ sizedMet enc Tryd.prog Tryd.f8 (OpenSpec.ofChange Rows.quoteApartSpec) false w args)
      (Rows.quoteApartSpec.post enc Tryd.prog Tryd.f8 false true false false) := by
  refine returnsInHanded_of_change_and (C := Tryd.checked) (X := fun w _ => laidMetH Tryd.prog listed w) (fun _ _ _ hh h => h.of_heap hh) own started (by kernel_rfl) Tryd.func8
    (ChangeSpec.witness_shaped (enc := enc) (C := Tryd.checked) (os := os) (X := fun w _ => laidMetH Tryd.prog listed w) false (laidOver (World.holding Tryd.prog os ⟨#[], #[], []⟩)) #[.string ByteArray.empty, .string ByteArray.empty] 8 rfl (World.shaped_of_RefB (by kernel_rfl) (by kernel_rfl)) (by kernel_rfl) (by kernel_rfl) (by kernel_rfl) (laid_over os _)) ?_
  intro W base args ds gs before hval0 hW hcnd hsz0 hL _
  have hT := tabs_listed hL
  have hval : ∀ (j : Nat) t v, Tryd.f8.params[j]? = some t → args[j]? = some v → Value.okWide Tryd.prog W .any base t v := hval0
  have hsz : (DataW.weightsEach Tryd.prog (Tryd.f8.params.toList ++ Rows.quoteApartSpec.plain.varTypes Tryd.prog) (ds ++ gs)).all (· ≤ reachBytes) = true := hsz0
  have hW' := hW
  obtain ⟨p, q, hA0, hV, rfl, hfz, hnd⟩ := hW
  have hA : DataW.TrodAll enc Tryd.prog W 0 (fun _ => true) true Tryd.f8.params.toList args.toList ds p := hA0
  rw [Tryd.params8] at hA hval hsz
  obtain ⟨v0, vs0, d0, ds0, p0, q0, hargs, rfl, rfl, h0, r0⟩ := trodAll_cons hA
  obtain ⟨v1, vs1, d1, ds1, p1, q1, rfl, rfl, rfl, h1, r1⟩ := trodAll_cons r0
  obtain ⟨rfl, rfl, rfl⟩ := trodAll_nil r1
  obtain rfl : args = #[v0, v1] := by cases args; simp_all
  obtain ⟨rfl, rfl⟩ := trodVars_none hV
  obtain ⟨a0, rfl, rfl, rfl, m0⟩ := open_string Tryd.underlying9 (hval 0 9 v0 rfl rfl) h0
  obtain ⟨a1, rfl, rfl, rfl, m1⟩ := open_string Tryd.underlying9 (hval 1 9 v1 rfl rfl) h1
  have w0 : a0.size ≤ 140737488351232 := by
    have h := sized_string hsz (j := 0) (t := 9) rfl rfl
    have e : a0.data.toList.length = a0.size := by simp
    unfold reachBytes at h
    omega
  have w1 : a1.size ≤ 140737488351232 := by
    have h := sized_string hsz (j := 1) (t := 9) rfl rfl
    have e : a1.data.toList.length = a1.size := by simp
    unfold reachBytes at h
    omega
  clear hA0 hval0 hsz hsz0
  refine (walk a0 a1 w0 w1 W hT).mono fun e W' ⟨he, bel⟩ => ?_
  subst he
  exact ⟨_, rfl, _, _, _, [], _, [], hW', trodAll_mk1 (shut_bool Tryd.underlying4 _), (trodAll_cons_mk (shut_string Tryd.underlying9 m0) (trodAll_cons_mk (shut_string Tryd.underlying9 m1) trodAll_mk0)), rfl, bel.frame _, fun h => by cases h⟩

theorem over : Rows.quoteApartRow.holds Tryd.pinned (OpenSpec.ofChange Rows.quoteApartSpec) :=
  OpenClaim.holds_of_wide 8 Tryd.f8 rfl rfl rfl rfl rfl rfl rfl ⟨rfl, rfl, rfl, rfl, rfl⟩ rfl rfl rfl rfl rfl (by kernel_rfl) Tryd.func8 (by kernel_rfl)
    (of_decide_eq_true (by kernel_rfl)) (by unfold Func.isWrapper; first | (rw [if_pos (by decide +kernel)]; kernel_rfl) | (rw [if_neg (by decide +kernel)]; exact ⟨rfl, rfl⟩))
    (fun os started H enc _ => lifted os started H enc)

set_option maxRecDepth 100000 in
theorem card : Rows.QuoteApartCardSaid :=
  Claim7.holds_tied_plain_at .later [] [.data, .pinned] true Rows.quoteApartCard.stood.harness false
    over (fun _ h => by cases h) (by kernel_rfl) (fun _ h => by cases h) quoteApart_row_tie rfl ⟨rfl, rfl⟩ (by kernel_rfl) rfl
    (fun f fn hf hfn => by
      obtain rfl : f = 8 := Option.some.inj ((show Tryd.prog.funcNamed Rows.quoteApartRow.func = some 8 by kernel_rfl).symm.trans hf) |>.symm
      obtain rfl : fn = Tryd.f8 := (Option.some.inj (Tryd.func8.symm.trans hfn)).symm
      exact ⟨by kernel_rfl, fun j t ht => by
        rw [Tryd.params8] at ht
        have hm : t ∈ [9] := by first | (simpa using Array.mem_of_getElem? ht) | (have hq := Array.mem_of_getElem? ht; simp at hq ⊢; omega)
        have hall : ([9].all fun u => !Tryd.prog.wantsStandIn u) = true := by kernel_rfl
        exact (show Tryd.prog.wantsStandIn t = false by simpa using List.all_eq_true.1 hall t hm)⟩)
    (by kernel_rfl)

end Go.Proofs.YtfpokkpklbkhiaaDoor.quoteApart
namespace Go.Proofs.YtfpokkpklbkhiaaDoor
/-- The statement. -/
theorem quoteApart_proved : Rows.QuoteApartCardSaid := quoteApart.card
end Go.Proofs.YtfpokkpklbkhiaaDoor
