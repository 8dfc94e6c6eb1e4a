/-
  For every cookie c and all numbers now and later, cracknellaw13.CookieLive(c, now, later) returns true and leaves them as they were. Conditions: none beyond the form's own (a string that is read takes at most 2^47 - 4096 bytes).
-/
import Derived.Test.YtkpdejnhjbojpaaDoorCkAlive
import Derived.Test.YtkpdejnhjbojpaaDoorCkBox
import Derived.Test.YtkpdejnhjbojpaaDoorU8Laid
import Derived.Test.YtkpdejnhjbojpaaDoorTie
import Derived.Test.YtkpdejnhjbojpaaDoorCards
import Derived.SevenTiedAt
import Derived.LaidLaws
import Derived.Stop.Joined
import Derived.ProofKit
import Derived.OpenShut
import Derived.ShutString
import Derived.ChangeOld
import Derived.SizedLaws
namespace Go.Proofs.YtkpdejnhjbojpaaDoor.cookieLive
open Go.ChangeShapes Go.WideShapes Go.ChangeAt Go.RowKit
open Go.ChangeMaps (open_string shut_string)
set_option linter.unusedVariables false

theorem own : ownKnob Tryd.prog.godebug = none := by kernel_rfl

theorem live_later {c : Ck} {n l : Int} (h : liveB c n = false) (hl : ¬ l < n) : liveB c l = false := by
  unfold liveB at *
  simp at *
  exact ⟨h.1, by omega⟩
set_option maxRecDepth 100000 in
set_option maxHeartbeats 1600000 in
theorem walk (ck0 : Ck) (a1 : Int) (a2 : Int) (w0 : (ck0.dom.size ≤ maxLen ∧ ck0.path.size ≤ maxLen ∧ ck0.name.size ≤ maxLen ∧ ck0.val.size ≤ maxLen) ∧ (IntOk ck0.cr ∧ IntOk ck0.ac ∧ IntOk ck0.ex ∧ IntOk ck0.ss)) (w1 : (Lit.int .i64 a1).wf = true) (w2 : (Lit.int .i64 a2).wf = true) (w : World) (hT : Tabs w) :
    Calls Tryd.prog 8 #[ckV ck0, .int .i64 a1, .int .i64 a2] w fun e w' => e = .returned (.bool true) ∧ Below w.heap.size w w' := by
  clear w0 w1 w2
  have L1 := Lib.hid (live_any ck0 a1)
  have L2 := Lib.hid (live_any ck0 a2)
  have LR := Lib.hid (rlive_any ck0 a1)
  have HL : Hid (liveB ck0 a1 = false → ¬ a2 < a1 → liveB ck0 a2 = false) := fun h hl => live_later h hl
  generalize liveB ck0 a1 = l1 at L1 LR HL
  generalize liveB ck0 a2 = l2 at L2 HL
  obtain ⟨d, p, n, v, cr, ac, ex, ho, se, hp, ss⟩ := ck0
  have hc := CkAt.new w ⟨d, p, n, v, cr, ac, ex, ho, se, hp, ss⟩ 23
  have hb0 := (Below.refl w.heap.size w).alloc (Nat.le_refl _) (.cells (ckCells ⟨d, p, n, v, cr, ac, ex, ho, se, hp, ss⟩) 23)
  simp only [ckCells] at hc hb0
  cases l1
  · go_enter Tryd.func8, Tryd.ntmps8
    go_wp2_with fail
    refine (L1.out _).mono ?_
    rintro _ w1 ⟨rfl, hb⟩
    have hb1 := chain hb0 hb
    replace hc := hc.keep hb
    clear hb hb0
    obtain ⟨c0, c1, c2, c3, c4, c5, c6, c7, c8, c9, c10⟩ := id hc
    go_wp2_with fail
    refine (alive_any _).mono ?_
    rintro _ w2 ⟨rfl, hb⟩
    have hb2 := chain hb1 hb
    replace hc := hc.keep hb
    clear c0 c1 c2 c3 c4 c5 c6 c7 c8 c9 c10 hb hb1
    obtain ⟨c0, c1, c2, c3, c4, c5, c6, c7, c8, c9, c10⟩ := id hc
    go_wp2_with fail
    refine (LR.out _).mono ?_
    rintro _ w3 ⟨rfl, hb⟩
    have hb3 := chain hb2 hb
    replace hc := hc.keep hb
    clear c0 c1 c2 c3 c4 c5 c6 c7 c8 c9 c10 hb hb2
    obtain ⟨c0, c1, c2, c3, c4, c5, c6, c7, c8, c9, c10⟩ := id hc
    by_cases hl : a2 < a1
    · have hl' : decide (a2 < a1) = true := decide_eq_true hl
      go_wp2
      go_ret
      exact ⟨rfl, hb3⟩
    · have hl' : decide (a2 < a1) = false := decide_eq_false hl
      have h2 : l2 = false := by first | exact HL.out rfl hl | exact HL.out trivial hl | (simpa using HL.out trivial (by simpa using hl))
      subst h2
      go_wp2_with fail
      refine (L2.out _).mono ?_
      rintro _ w4 ⟨rfl, hb⟩
      have hb4 := chain hb3 hb
      clear hb hb3
      go_wp2
      go_ret
      exact ⟨rfl, hb4⟩
  · go_enter Tryd.func8, Tryd.ntmps8
    go_wp2_with fail
    refine (L1.out _).mono ?_
    rintro _ w1 ⟨rfl, hb⟩
    have hb1 := chain hb0 hb
    replace hc := hc.keep hb
    clear hb hb0
    obtain ⟨c0, c1, c2, c3, c4, c5, c6, c7, c8, c9, c10⟩ := id hc
    go_wp2_with fail
    refine (alive_any _).mono ?_
    rintro _ w2 ⟨rfl, hb⟩
    have hb2 := chain hb1 hb
    replace hc := hc.keep hb
    clear c0 c1 c2 c3 c4 c5 c6 c7 c8 c9 c10 hb hb1
    obtain ⟨c0, c1, c2, c3, c4, c5, c6, c7, c8, c9, c10⟩ := id hc
    go_wp2_with fail
    refine (LR.out _).mono ?_
    rintro _ w3 ⟨rfl, hb⟩
    have hb3 := chain hb2 hb
    replace hc := hc.keep hb
    clear c0 c1 c2 c3 c4 c5 c6 c7 c8 c9 c10 hb hb2
    obtain ⟨c0, c1, c2, c3, c4, c5, c6, c7, c8, c9, c10⟩ := id hc
    go_wp2
    go_ret
    exact ⟨rfl, hb3⟩

set_option maxRecDepth 100000 in
theorem lifted (os : Os) (started : os.Started) (H : Type) (enc : TypeId × Value → H) :
    ReturnsInHanded {} Tryd.checked os 8 .any (fun w args => (Rows.cookieLiveSpec.pre enc Tryd.prog Tryd.f8 [] false w args ∧ laidMetH Tryd.prog listed w) ∧ sizedMet enc Tryd.prog Tryd.f8 (OpenSpec.ofChange Rows.cookieLiveSpec) false w args)
      (Rows.cookieLiveSpec.post enc Tryd.prog Tryd.f8 false true false false) := by
  refine returnsInHanded_of_change_and (C := Tryd.checked) (X := fun w _ => laidMetH Tryd.prog listed w) (fun _ _ _ hh h => h.of_heap hh) own started (by kernel_rfl) Tryd.func8
    (ChangeSpec.witness_shaped (enc := enc) (C := Tryd.checked) (os := os) (X := fun w _ => laidMetH Tryd.prog listed w) false (laidOver (World.holding Tryd.prog os ⟨#[], #[], []⟩)) #[.agg #[.string ByteArray.empty, .string ByteArray.empty, .string ByteArray.empty, .string ByteArray.empty, .int .i64 0, .int .i64 0, .int .i64 0, .bool false, .bool false, .bool false, .int .i64 0], .int .i64 0, .int .i64 0] 8 rfl (World.shaped_of_RefB (by kernel_rfl) (by kernel_rfl)) (by kernel_rfl) (by kernel_rfl) (by kernel_rfl) (laid_over os _)) ?_
  intro W base args ds gs before hval0 hW hcnd hsz0 hL _
  have hT := tabs_listed hL
  have hval : ∀ (j : Nat) t v, Tryd.f8.params[j]? = some t → args[j]? = some v → Value.okWide Tryd.prog W .any base t v := hval0
  have hsz : (DataW.weightsEach Tryd.prog (Tryd.f8.params.toList ++ Rows.cookieLiveSpec.plain.varTypes Tryd.prog) (ds ++ gs)).all (· ≤ reachBytes) = true := hsz0
  have hW' := hW
  obtain ⟨p, q, hA0, hV, rfl, hfz, hnd⟩ := hW
  have hA : DataW.TrodAll enc Tryd.prog W 0 (fun _ => true) true Tryd.f8.params.toList args.toList ds p := hA0
  rw [Tryd.params8] at hA hval hsz
  obtain ⟨v0, vs0, d0, ds0, p0, q0, hargs, rfl, rfl, h0, r0⟩ := trodAll_cons hA
  obtain ⟨v1, vs1, d1, ds1, p1, q1, rfl, rfl, rfl, h1, r1⟩ := trodAll_cons r0
  obtain ⟨v2, vs2, d2, ds2, p2, q2, rfl, rfl, rfl, h2, r2⟩ := trodAll_cons r1
  obtain ⟨rfl, rfl, rfl⟩ := trodAll_nil r2
  obtain rfl : args = #[v0, v1, v2] := by cases args; simp_all
  obtain ⟨rfl, rfl⟩ := trodVars_none hV
  have h0k := h0
  have hlt0 : ∀ x ∈ p0, x.block < W.heap.size := fun x hx => by simpa using hW'.lt x (by simp [hx])
  obtain ⟨ck0, rfl, w0⟩ := ck_opened h0 (hval 0 23 v0 rfl rfl)
  obtain ⟨a1, rfl, rfl, rfl, w1⟩ := open_int Tryd.underlying3 (hval 1 3 v1 rfl rfl) h1
  obtain ⟨a2, rfl, rfl, rfl, w2⟩ := open_int Tryd.underlying3 (hval 2 3 v2 rfl rfl) h2
  clear hA0 hval0 hsz hsz0
  refine (walk ck0 a1 a2 w0 w1 w2 W hT).mono fun e W' ⟨he, bel⟩ => ?_
  subst he
  exact ⟨_, rfl, _, _, _, [], _, [], hW', trodAll_mk1 (shut_bool Tryd.underlying4 _), (trodAll_cons_mk (Below.trod Tryd.laidOutK (by kernel_rfl) (of_decide_eq_true (by kernel_rfl)) h0k bel hlt0) (trodAll_cons_mk (shut_int Tryd.underlying3 w1) (trodAll_cons_mk (shut_int Tryd.underlying3 w2) trodAll_mk0))), rfl, bel.frame _, fun h => by cases h⟩

theorem over : Rows.cookieLiveRow.holds Tryd.pinned (OpenSpec.ofChange Rows.cookieLiveSpec) :=
  OpenClaim.holds_of_wide 8 Tryd.f8 rfl rfl rfl rfl rfl rfl rfl ⟨rfl, rfl, rfl, rfl, rfl⟩ rfl rfl rfl rfl rfl (by kernel_rfl) Tryd.func8 (by kernel_rfl)
    (of_decide_eq_true (by kernel_rfl)) (by unfold Func.isWrapper; first | (rw [if_pos (by decide +kernel)]; kernel_rfl) | (rw [if_neg (by decide +kernel)]; exact ⟨rfl, rfl⟩))
    (fun os started H enc _ => lifted os started H enc)

set_option maxRecDepth 100000 in
theorem card : Rows.CookieLiveCardSaid :=
  Claim7.holds_tied_plain_at .later [] _ true Rows.cookieLiveCard.stood.harness false
    over (fun _ h => by cases h) (by kernel_rfl) (fun _ h => by cases h) cookieLive_row_tie rfl ⟨rfl, rfl⟩ (by kernel_rfl) rfl
    (fun f fn hf hfn => by
      obtain rfl : f = 8 := Option.some.inj ((show Tryd.prog.funcNamed Rows.cookieLiveRow.func = some 8 by kernel_rfl).symm.trans hf) |>.symm
      obtain rfl : fn = Tryd.f8 := (Option.some.inj (Tryd.func8.symm.trans hfn)).symm
      exact ⟨by kernel_rfl, fun j t ht => by
        rw [Tryd.params8] at ht
        have hm : t ∈ [23, 3] := by first | (simpa using Array.mem_of_getElem? ht) | (have hq := Array.mem_of_getElem? ht; simp at hq ⊢; omega)
        have hall : ([23, 3].all fun u => !Tryd.prog.wantsStandIn u) = true := by kernel_rfl
        exact (show Tryd.prog.wantsStandIn t = false by simpa using List.all_eq_true.1 hall t hm)⟩)
    (by kernel_rfl)

end Go.Proofs.YtkpdejnhjbojpaaDoor.cookieLive
namespace Go.Proofs.YtkpdejnhjbojpaaDoor
/-- The statement. -/
theorem cookieLive_proved : Rows.CookieLiveCardSaid := cookieLive.card
end Go.Proofs.YtkpdejnhjbojpaaDoor
