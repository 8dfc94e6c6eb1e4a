/-
  For all texts a and b, cracknellaw07.QuoteJoins(a, b) returns true and leaves them as they were. Conditions: none beyond the form's own (a string that is read takes at most 2^47 - 4096 bytes).
-/
import Derived.Test.YtfpokkpklbkhiaaDoorQuoteAlive
import Derived.Test.YtfpokkpklbkhiaaDoorUtfLaid
import Derived.Test.YtfpokkpklbkhiaaDoorTie
import Derived.Test.YtfpokkpklbkhiaaDoorCards
import Derived.SevenTiedAt
import Derived.LaidLaws
import Derived.Stop.Joined
import Derived.ProofKit
import Derived.OpenShut
import Derived.ShutString
import Derived.ChangeOld
import Derived.SizedLaws
namespace Go.Proofs.YtfpokkpklbkhiaaDoor.quoteJoins
open Go.ChangeShapes Go.WideShapes Go.ChangeAt Go.RowKit
open Go.ChangeMaps (open_string shut_string)
set_option linter.unusedVariables false

theorem own : ownKnob Tryd.prog.godebug = none := by kernel_rfl

theorem quote_two (s : ByteArray) : (validB s = true ∧ quoteV s = .tuple #[.string ⟨(quoteL s.data.toList).toArray⟩, .bool true]) ∨ (quoteV s = .tuple #[.string ByteArray.empty, .bool false]) := by
  cases h : validB s with
  | false => exact .inr (by unfold quoteV; rw [h]; rfl)
  | true => exact .inl ⟨rfl, by unfold quoteV; rw [h]; rfl⟩
theorem quote_size (s t : ByteArray) (ht : t = ⟨(quoteL s.data.toList).toArray⟩) : t.size ≤ 6 * s.size + 2 ∧ 2 ≤ t.size := by
  subst ht
  rw [bytes_size]
  have := innerL_len s.data.toList
  rw [list_len] at this
  refine ⟨?_, quoteL_len _⟩
  unfold quoteL
  rw [List.length_cons, List.length_append, List.length_singleton]
  omega
theorem valid_app (a b : ByteArray) (ha : validB a = true) (hb : validB b = true) : validB (a ++ b) = true := by
  obtain ⟨ra, hra⟩ := Option.isSome_iff_exists.1 ha
  obtain ⟨rb, hrb⟩ := Option.isSome_iff_exists.1 hb
  obtain ⟨h1, h2⟩ := (runesU_iff _ _).1 hra
  unfold validB
  rw [app_list, h2, runesU_append ra _ h1, hrb]
  rfl
theorem join_text (a b s t : ByteArray) (hs : s = ⟨(quoteL a.data.toList).toArray⟩) (ht : t = ⟨(quoteL b.data.toList).toArray⟩) : s.extract 0 (s.size - 1) ++ t.extract 1 t.size = ⟨(quoteL (a ++ b).data.toList).toArray⟩ := by
  subst hs ht
  apply ba_ext
  rw [app_list, app_list, extract_list, extract_list, bytes_size, bytes_size, List.drop_zero, Nat.sub_zero]
  have e : ((quoteL b.data.toList).drop 1).take ((quoteL b.data.toList).length - 1) = (quoteL b.data.toList).drop 1 := List.take_of_length_le (by rw [List.length_drop]; omega)
  show (quoteL a.data.toList).take _ ++ ((quoteL b.data.toList).drop 1).take _ = quoteL _
  rw [e]
  exact quote_join _ _
theorem read_join (c u : ByteArray) (h : validB c = true) (hu : u = ⟨(quoteL c.data.toList).toArray⟩) : pieceW (readQ u.data.toList) = .tuple #[.string c, .int .i64 (u.size : Int), .int .i64 0] := by
  obtain ⟨rs, hrs⟩ := Option.isSome_iff_exists.1 h
  have hr := read_valid c.data.toList [] rs hrs
  rw [List.append_nil] at hr
  subst hu
  rw [bytes_size]
  show pieceW (readQ (quoteL c.data.toList)) = _
  rw [hr]
  show Value.tuple #[.string ⟨c.data.toList.toArray⟩, .int .i64 ((quoteL c.data.toList).length : Int), .int .i64 ((0 : Nat) : Int)] = _
  rw [← ba_list]
  rfl

set_option maxRecDepth 100000 in
set_option maxHeartbeats 1600000 in
theorem walk (a0 : ByteArray) (a1 : ByteArray) (w0 : a0.size ≤ 140737488351232) (w1 : a1.size ≤ 140737488351232) (w : World) (hT : Tabs w) :
    Calls Tryd.prog 7 #[.string a0, .string a1] w fun e w' => e = .returned (.bool true) ∧ Below w.heap.size w w' := by
  have HT := Lib.hid hT
  clear hT
  by_cases hbig : 300 < a0.size ∨ 300 < a1.size
  · rcases (show 300 < a0.size ∨ (a0.size ≤ 300 ∧ 300 < a1.size) from by omega) with h | ⟨h, h'⟩
    all_goals
      clear hbig
      go_enter Tryd.func7, Tryd.ntmps7
      go_wp2_with fail
      refine (alive_any _ HT.out).mono ?_
      rintro _ w1 ⟨rfl, hb1⟩
      go_wp2
      go_ret
      exact ⟨rfl, hb1⟩
  · have z1 : ¬ (300 : Int) < (a0.size : Int) := by omega
    have z2 : ¬ (300 : Int) < (a1.size : Int) := by omega
    have y1 : a0.size ≤ 300 := by omega
    have y2 : a1.size ≤ 300 := by omega
    clear hbig
    rcases quote_two a0 with ⟨v1, q1⟩ | q1
    · rcases quote_two a1 with ⟨v2, q2⟩ | q2
      · obtain ⟨s, hs⟩ : ∃ s : ByteArray, s = ⟨(quoteL a0.data.toList).toArray⟩ := ⟨_, rfl⟩
        obtain ⟨t, ht⟩ : ∃ t : ByteArray, t = ⟨(quoteL a1.data.toList).toArray⟩ := ⟨_, rfl⟩
        obtain ⟨c, hc⟩ : ∃ c : ByteArray, a0 ++ a1 = c := ⟨_, rfl⟩
        obtain ⟨u, hu⟩ : ∃ u : ByteArray, u = ⟨(quoteL c.data.toList).toArray⟩ := ⟨_, rfl⟩
        have v3 := valid_app a0 a1 v1 v2
        rw [hc] at v3
        have q3 : quoteV c = .tuple #[.string u, .bool true] := by unfold quoteV; rw [v3, hu]; rfl
        have hx := join_text a0 a1 s t hs ht
        rw [hc, ← hu] at hx
        have hr := read_join c u v3 hu
        obtain ⟨s1, s2⟩ := quote_size a0 s hs
        obtain ⟨t1, t2⟩ := quote_size a1 t ht
        obtain ⟨u1, u2⟩ := quote_size c u hu
        have c1 : c.size = a0.size + a1.size := by rw [← hc]; simp
        have c2 : c.size ≤ 600 := by omega
        rw [← hs] at q1
        rw [← ht] at q2
        have Q1 := Lib.hid q1
        have Q2 := Lib.hid q2
        have Q3 := Lib.hid q3
        have HX := Lib.hid hx
        have HR := Lib.hid hr
        have HC := Lib.hid hc
        have hsum : a0.size + a1.size ≤ 9223372036854775807 := by omega
        have g1 : ¬ (s.size : Int) < 2 := by omega
        have g2 : ¬ (t.size : Int) < 2 := by omega
        clear q1 q2 q3 hx hr hc hs ht hu v1 v2 v3 c1
        go_enter Tryd.func7, Tryd.ntmps7
        go_wp2_with fail
        refine (at_qwrite a0 s true _ HT.out (by omega) Q1.out).mono ?_
        rintro _ w1 ⟨rfl, hb1⟩
        go_wp2_with fail
        refine (at_qwrite a1 t true _ (HT.out.keep hb1) (by omega) Q2.out).mono ?_
        rintro _ w2 ⟨rfl, hb⟩
        have hb2 := chain hb1 hb
        clear hb hb1
        go_wp2_with fail
        rw [HC.out]
        refine (at_qwrite c u true _ (HT.out.keep hb2) (by omega) Q3.out).mono ?_
        rintro _ w3 ⟨rfl, hb⟩
        have hb3 := chain hb2 hb
        clear hb hb2
        have m1 : ((s.size : Int) - 1) = ((s.size - 1 : Nat) : Int) := by omega
        have m2 : s.size - 1 ≤ s.size := by omega
        have m3 : (1 : Int) ≤ (t.size : Int) := by omega
        have m4 : 1 ≤ t.size := by omega
        have m5 : ((s.size - 1 : Nat) : Int) ≤ (s.size : Int) := by omega
        have e1 : (s.extract 0 (s.size - 1)).size = s.size - 1 := by rw [ByteArray.size_extract]; omega
        have e2 : (t.extract 1 t.size).size = t.size - 1 := by rw [ByteArray.size_extract]; omega
        have e3 : (s.extract 0 (s.size - 1)).size + (t.extract 1 t.size).size ≤ 9223372036854775807 := by omega
        have hadd := fun W => run_string_add_sum (P := Tryd.prog) (w := W) (s.extract 0 (s.size - 1)) (t.extract 1 t.size) e3
        go_wp2_with fail
        refine wp_region_below (g := w.heap.size) (w0 := w) (by kernel_rfl) (by kernel_rfl) hb3 (fun hex => ?_)
        repeat (go_big_quiet_step (first
          | (intro _; rfl)
          | (intro hq; go_at_call 12; rw [HX.out]; refine (at_qread u _ _ _ _ (HT.out.keep hq) (by omega) HR.out).mono ?_; rintro _ w4 ⟨rfl, hb⟩; exact ⟨rfl, chain hq hb⟩)))
        refine wpQuiet_nil ?_
        intro w4 hb4
        have f1 : (u.toList == (s.extract 0 (s.size - 1) ++ t.extract 1 t.size).toList) = true := by rw [HX.out]; simp
        have f2 : (c.toList == (a0 ++ a1).toList) = true := by rw [HC.out]; simp
        have hadd2 := fun W => run_string_add_sum (P := Tryd.prog) (w := W) a0 a1 hsum
        go_wp2_with fail
        refine wp_region_below (g := w.heap.size) (w0 := w) (by kernel_rfl) (by kernel_rfl) hb4 (fun hex => ?_)
        repeat (go_big_quiet_step (first
          | (intro _; rfl)
          | (intro hq; go_at_call 9; refine (alive_any _ (HT.out.keep hq)).mono ?_; rintro _ w5 ⟨rfl, hb⟩; exact ⟨rfl, chain hq hb⟩)))
        refine wpQuiet_nil ?_
        intro w5 hb5
        go_wp2
        go_ret
        exact ⟨rfl, hb5⟩
      · obtain ⟨s, hs⟩ : ∃ s : ByteArray, s = ⟨(quoteL a0.data.toList).toArray⟩ := ⟨_, rfl⟩
        rw [← hs] at q1
        have Q1 := Lib.hid q1
        have Q2 := Lib.hid q2
        clear q1 q2 hs v1
        go_enter Tryd.func7, Tryd.ntmps7
        go_wp2_with fail
        refine (at_qwrite a0 s true _ HT.out (by omega) Q1.out).mono ?_
        rintro _ w1 ⟨rfl, hb1⟩
        go_wp2_with fail
        refine (at_qwrite a1 _ false _ (HT.out.keep hb1) (by omega) Q2.out).mono ?_
        rintro _ w2 ⟨rfl, hb⟩
        have hb2 := chain hb1 hb
        clear hb hb1
        go_wp2_with fail
        refine (alive_any _ (HT.out.keep hb2)).mono ?_
        rintro _ w3 ⟨rfl, hb⟩
        have hb3 := chain hb2 hb
        go_wp2
        go_ret
        exact ⟨rfl, hb3⟩
    · obtain ⟨t, d, q2⟩ : ∃ (t : ByteArray) (d : Bool), quoteV a1 = .tuple #[.string t, .bool d] := by
        rcases quote_two a1 with ⟨_, q⟩ | q
        · exact ⟨_, _, q⟩
        · exact ⟨_, _, q⟩
      have Q1 := Lib.hid q1
      have Q2 := Lib.hid q2
      clear q1 q2
      go_enter Tryd.func7, Tryd.ntmps7
      go_wp2_with fail
      refine (at_qwrite a0 _ false _ HT.out (by omega) Q1.out).mono ?_
      rintro _ w1 ⟨rfl, hb1⟩
      go_wp2_with fail
      refine (at_qwrite a1 t d _ (HT.out.keep hb1) (by omega) Q2.out).mono ?_
      rintro _ w2 ⟨rfl, hb⟩
      have hb2 := chain hb1 hb
      clear hb hb1
      go_wp2_with fail
      refine (alive_any _ (HT.out.keep hb2)).mono ?_
      rintro _ w3 ⟨rfl, hb⟩
      have hb3 := chain hb2 hb
      go_wp2
      go_ret
      exact ⟨rfl, hb3⟩

set_option maxRecDepth 100000 in
theorem lifted (os : Os) (started : os.Started) (H : Type) (enc : TypeId × Value → H) :
    ReturnsInHanded {} Tryd.checked os 7 .any (fun w args => (Rows.quoteJoinsSpec.pre enc Tryd.prog Tryd.f7 [] false w args ∧ laidMetH Tryd.prog listed w) ∧ sizedMet enc Tryd.prog Tryd.f7 (OpenSpec.ofChange Rows.quoteJoinsSpec) false w args)
      (Rows.quoteJoinsSpec.post enc Tryd.prog Tryd.f7 false true false false) := by
  refine returnsInHanded_of_change_and (C := Tryd.checked) (X := fun w _ => laidMetH Tryd.prog listed w) (fun _ _ _ hh h => h.of_heap hh) own started (by kernel_rfl) Tryd.func7
    (ChangeSpec.witness_shaped (enc := enc) (C := Tryd.checked) (os := os) (X := fun w _ => laidMetH Tryd.prog listed w) false (laidOver (World.holding Tryd.prog os ⟨#[], #[], []⟩)) #[.string ByteArray.empty, .string ByteArray.empty] 8 rfl (World.shaped_of_RefB (by kernel_rfl) (by kernel_rfl)) (by kernel_rfl) (by kernel_rfl) (by kernel_rfl) (laid_over os _)) ?_
  intro W base args ds gs before hval0 hW hcnd hsz0 hL _
  have hT := tabs_listed hL
  have hval : ∀ (j : Nat) t v, Tryd.f7.params[j]? = some t → args[j]? = some v → Value.okWide Tryd.prog W .any base t v := hval0
  have hsz : (DataW.weightsEach Tryd.prog (Tryd.f7.params.toList ++ Rows.quoteJoinsSpec.plain.varTypes Tryd.prog) (ds ++ gs)).all (· ≤ reachBytes) = true := hsz0
  have hW' := hW
  obtain ⟨p, q, hA0, hV, rfl, hfz, hnd⟩ := hW
  have hA : DataW.TrodAll enc Tryd.prog W 0 (fun _ => true) true Tryd.f7.params.toList args.toList ds p := hA0
  rw [Tryd.params7] at hA hval hsz
  obtain ⟨v0, vs0, d0, ds0, p0, q0, hargs, rfl, rfl, h0, r0⟩ := trodAll_cons hA
  obtain ⟨v1, vs1, d1, ds1, p1, q1, rfl, rfl, rfl, h1, r1⟩ := trodAll_cons r0
  obtain ⟨rfl, rfl, rfl⟩ := trodAll_nil r1
  obtain rfl : args = #[v0, v1] := by cases args; simp_all
  obtain ⟨rfl, rfl⟩ := trodVars_none hV
  obtain ⟨a0, rfl, rfl, rfl, m0⟩ := open_string Tryd.underlying9 (hval 0 9 v0 rfl rfl) h0
  obtain ⟨a1, rfl, rfl, rfl, m1⟩ := open_string Tryd.underlying9 (hval 1 9 v1 rfl rfl) h1
  have w0 : a0.size ≤ 140737488351232 := by
    have h := sized_string hsz (j := 0) (t := 9) rfl rfl
    have e : a0.data.toList.length = a0.size := by simp
    unfold reachBytes at h
    omega
  have w1 : a1.size ≤ 140737488351232 := by
    have h := sized_string hsz (j := 1) (t := 9) rfl rfl
    have e : a1.data.toList.length = a1.size := by simp
    unfold reachBytes at h
    omega
  clear hA0 hval0 hsz hsz0
  refine (walk a0 a1 w0 w1 W hT).mono fun e W' ⟨he, bel⟩ => ?_
  subst he
  exact ⟨_, rfl, _, _, _, [], _, [], hW', trodAll_mk1 (shut_bool Tryd.underlying4 _), (trodAll_cons_mk (shut_string Tryd.underlying9 m0) (trodAll_cons_mk (shut_string Tryd.underlying9 m1) trodAll_mk0)), rfl, bel.frame _, fun h => by cases h⟩

theorem over : Rows.quoteJoinsRow.holds Tryd.pinned (OpenSpec.ofChange Rows.quoteJoinsSpec) :=
  OpenClaim.holds_of_wide 7 Tryd.f7 rfl rfl rfl rfl rfl rfl rfl ⟨rfl, rfl, rfl, rfl, rfl⟩ rfl rfl rfl rfl rfl (by kernel_rfl) Tryd.func7 (by kernel_rfl)
    (of_decide_eq_true (by kernel_rfl)) (by unfold Func.isWrapper; first | (rw [if_pos (by decide +kernel)]; kernel_rfl) | (rw [if_neg (by decide +kernel)]; exact ⟨rfl, rfl⟩))
    (fun os started H enc _ => lifted os started H enc)

set_option maxRecDepth 100000 in
theorem card : Rows.QuoteJoinsCardSaid :=
  Claim7.holds_tied_plain_at .later [] [.data, .pinned] true Rows.quoteJoinsCard.stood.harness false
    over (fun _ h => by cases h) (by kernel_rfl) (fun _ h => by cases h) quoteJoins_row_tie rfl ⟨rfl, rfl⟩ (by kernel_rfl) rfl
    (fun f fn hf hfn => by
      obtain rfl : f = 7 := Option.some.inj ((show Tryd.prog.funcNamed Rows.quoteJoinsRow.func = some 7 by kernel_rfl).symm.trans hf) |>.symm
      obtain rfl : fn = Tryd.f7 := (Option.some.inj (Tryd.func7.symm.trans hfn)).symm
      exact ⟨by kernel_rfl, fun j t ht => by
        rw [Tryd.params7] at ht
        have hm : t ∈ [9] := by first | (simpa using Array.mem_of_getElem? ht) | (have hq := Array.mem_of_getElem? ht; simp at hq ⊢; omega)
        have hall : ([9].all fun u => !Tryd.prog.wantsStandIn u) = true := by kernel_rfl
        exact (show Tryd.prog.wantsStandIn t = false by simpa using List.all_eq_true.1 hall t hm)⟩)
    (by kernel_rfl)

end Go.Proofs.YtfpokkpklbkhiaaDoor.quoteJoins
namespace Go.Proofs.YtfpokkpklbkhiaaDoor
/-- The statement. -/
theorem quoteJoins_proved : Rows.QuoteJoinsCardSaid := quoteJoins.card
end Go.Proofs.YtfpokkpklbkhiaaDoor
