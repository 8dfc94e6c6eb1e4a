/-
  For every cookie c, every address u and every number now, cracknellaw13.CookieSends(c, u, now) returns true and leaves them as they were. Conditions: none beyond the form's own (a string that is read takes at most 2^47 - 4096 bytes).
-/
import Derived.Test.YtkpdejnhjbojpaaDoorCkAlive
import Derived.Test.YtkpdejnhjbojpaaDoorCkBox
import Derived.Test.YtkpdejnhjbojpaaDoorPatBox
import Derived.Test.YtkpdejnhjbojpaaDoorU8Laid
import Derived.Test.YtkpdejnhjbojpaaDoorTie
import Derived.Test.YtkpdejnhjbojpaaDoorCards
import Derived.SevenTiedAt
import Derived.LaidLaws
import Derived.Stop.Joined
import Derived.ProofKit
import Derived.OpenShut
import Derived.ShutString
import Derived.ChangeOld
import Derived.SizedLaws
namespace Go.Proofs.YtkpdejnhjbojpaaDoor.cookieSends
open Go.ChangeShapes Go.WideShapes Go.ChangeAt Go.RowKit
open Go.ChangeMaps (open_string shut_string)
set_option linter.unusedVariables false

theorem own : ownKnob Tryd.prog.godebug = none := by kernel_rfl

theorem sends_free (c : Ck) (us : Bool) (uh up : ByteArray) (now : Int) (h : sendsB c us uh up now = true) : sendsB ⟨c.dom, c.path, c.name, c.val, c.cr, c.ac, 0, false, false, c.hp, c.ss⟩ us uh up now = true := by
  unfold sendsB at *
  rw [Bool.and_eq_true, Bool.and_eq_true, Bool.and_eq_true] at *
  obtain ⟨⟨⟨h1, _⟩, _⟩, h4⟩ := h
  refine ⟨⟨⟨?_, rfl⟩, rfl⟩, h4⟩
  show matchB uh.data.toList c.dom.data.toList = true
  by_cases ho : c.ho = true
  · rw [if_pos ho, decide_eq_true_eq] at h1
    rw [h1]
    exact match_self _
  · rw [if_neg ho] at h1
    exact h1
set_option maxRecDepth 100000 in
set_option maxHeartbeats 1600000 in
theorem walk (ck0 : Ck) (us1 : Bool) (uh1 up1 : ByteArray) (a2 : Int) (w0 : (ck0.dom.size ≤ maxLen ∧ ck0.path.size ≤ maxLen ∧ ck0.name.size ≤ maxLen ∧ ck0.val.size ≤ maxLen) ∧ (IntOk ck0.cr ∧ IntOk ck0.ac ∧ IntOk ck0.ex ∧ IntOk ck0.ss)) (w1 : uh1.size ≤ maxLen ∧ up1.size ≤ maxLen) (w2 : (Lit.int .i64 a2).wf = true) (w : World) (hT : Tabs w) :
    Calls Tryd.prog 9 #[ckV ck0, urlV us1 uh1 up1, .int .i64 a2] w fun e w' => e = .returned (.bool true) ∧ Below w.heap.size w w' := by
  clear w0 w1 w2
  have HS := Lib.hid (sends_any ck0 us1 uh1 up1 a2)
  have HR := Lib.hid (rsends_any ck0 us1 uh1 up1 a2)
  have HF := Lib.hid (sends_any ⟨ck0.dom, ck0.path, ck0.name, ck0.val, ck0.cr, ck0.ac, 0, false, false, ck0.hp, ck0.ss⟩ us1 uh1 up1 a2)
  have hfree := sends_free ck0 us1 uh1 up1 a2
  have hA := (CkAt.new w ck0 23).keep ((Below.refl _ _).alloc (Nat.le_refl _) (.cells #[.bool us1, .string uh1, .string up1] 40))
  have hU := UcAt.new (w.alloc (.cells (ckCells ck0) 23)) us1 uh1 up1 40
  have hb0 := ((Below.refl w.heap.size w).alloc (Nat.le_refl _) (.cells (ckCells ck0) 23)).alloc (by simp) (.cells #[.bool us1, .string uh1, .string up1] 40)
  rw [show ∀ o : Obj, (w.alloc o).heap.size = w.heap.size + 1 from fun o => by simp] at hU
  simp only [ckCells] at hA hU hb0
  rcases (show (500 < ck0.dom.size) ∨ (¬ 500 < ck0.dom.size ∧ 500 < ck0.path.size) ∨ (¬ 500 < ck0.dom.size ∧ ¬ 500 < ck0.path.size ∧ 500 < uh1.size) ∨ (¬ 500 < ck0.dom.size ∧ ¬ 500 < ck0.path.size ∧ ¬ 500 < uh1.size ∧ 500 < up1.size) ∨ (¬ 500 < ck0.dom.size ∧ ¬ 500 < ck0.path.size ∧ ¬ 500 < uh1.size ∧ ¬ 500 < up1.size) from by omega) with d1 | ⟨d1, d2⟩ | ⟨d1, d2, d3⟩ | ⟨d1, d2, d3, d4⟩ | ⟨d1, d2, d3, d4⟩
  · clear HS HR HF hfree
    go_enter Tryd.func9, Tryd.ntmps9
    obtain ⟨p0, p1, p2, p3, p4, p5, p6, p7, p8, p9, p10⟩ := id hA
    obtain ⟨u0, u1, u2⟩ := id hU
    go_wp2_with fail
    refine (alive_any _).mono ?_
    rintro _ w1 ⟨rfl, hb⟩
    have hb1 := chain hb0 hb
    clear hb hb0 p0 p1 p2 p3 p4 p5 p6 p7 p8 p9 p10 u0 u1 u2
    go_wp2
    go_ret
    exact ⟨rfl, hb1⟩
  · clear HS HR HF hfree
    go_enter Tryd.func9, Tryd.ntmps9
    obtain ⟨p0, p1, p2, p3, p4, p5, p6, p7, p8, p9, p10⟩ := id hA
    obtain ⟨u0, u1, u2⟩ := id hU
    go_wp2_with fail
    refine (alive_any _).mono ?_
    rintro _ w1 ⟨rfl, hb⟩
    have hb1 := chain hb0 hb
    clear hb hb0 p0 p1 p2 p3 p4 p5 p6 p7 p8 p9 p10 u0 u1 u2
    go_wp2
    go_ret
    exact ⟨rfl, hb1⟩
  · clear HS HR HF hfree
    go_enter Tryd.func9, Tryd.ntmps9
    obtain ⟨p0, p1, p2, p3, p4, p5, p6, p7, p8, p9, p10⟩ := id hA
    obtain ⟨u0, u1, u2⟩ := id hU
    go_wp2_with fail
    refine (alive_any _).mono ?_
    rintro _ w1 ⟨rfl, hb⟩
    have hb1 := chain hb0 hb
    clear hb hb0 p0 p1 p2 p3 p4 p5 p6 p7 p8 p9 p10 u0 u1 u2
    go_wp2
    go_ret
    exact ⟨rfl, hb1⟩
  · clear HS HR HF hfree
    go_enter Tryd.func9, Tryd.ntmps9
    obtain ⟨p0, p1, p2, p3, p4, p5, p6, p7, p8, p9, p10⟩ := id hA
    obtain ⟨u0, u1, u2⟩ := id hU
    go_wp2_with fail
    refine (alive_any _).mono ?_
    rintro _ w1 ⟨rfl, hb⟩
    have hb1 := chain hb0 hb
    clear hb hb0 p0 p1 p2 p3 p4 p5 p6 p7 p8 p9 p10 u0 u1 u2
    go_wp2
    go_ret
    exact ⟨rfl, hb1⟩
  · have H1 : Hid (∀ W, Calls Tryd.prog 23 #[ckV ck0, urlC us1 uh1 up1, .int .i64 a2] W fun e w' => e = .returned (.bool (sendsB ck0 us1 uh1 up1 a2)) ∧ Below W.heap.size W w') := fun W => HS.out W (by omega) (by omega) (by omega) (by omega)
    have H2 : Hid (∀ W, Calls Tryd.prog 24 #[ckV ck0, urlC us1 uh1 up1, .int .i64 a2] W fun e w' => e = .returned (.bool (sendsB ck0 us1 uh1 up1 a2)) ∧ Below W.heap.size W w') := fun W => HR.out W (by omega) (by omega) (by omega) (by omega)
    have H3 : Hid (sendsB ck0 us1 uh1 up1 a2 = true → ∀ W, Calls Tryd.prog 23 #[.agg #[.string ck0.dom, .string ck0.path, .string ck0.name, .string ck0.val, .int .i64 ck0.cr, .int .i64 ck0.ac, .int .i64 0, .bool false, .bool false, .bool ck0.hp, .int .i64 ck0.ss], urlC us1 uh1 up1, .int .i64 a2] W fun e w' => e = .returned (.bool true) ∧ Below W.heap.size W w') := fun h W => by
      have h3 := HF.out W (by show ck0.dom.size ≤ _; omega) (by show ck0.path.size ≤ _; omega) (by omega) (by omega)
      rw [hfree h] at h3
      exact h3
    clear HS HR HF hfree
    generalize sendsB ck0 us1 uh1 up1 a2 = b at H1 H2 H3
    go_enter Tryd.func9, Tryd.ntmps9
    obtain ⟨p0, p1, p2, p3, p4, p5, p6, p7, p8, p9, p10⟩ := id hA
    obtain ⟨u0, u1, u2⟩ := id hU
    go_wp2_with fail
    with_reducible refine (H1.out _).mono ?_
    rintro _ w1 ⟨rfl, hb⟩
    have hb1 := chain hb0 hb
    replace hA := hA.keep hb
    replace hU := hU.keep hb
    clear hb hb0 p0 p1 p2 p3 p4 p5 p6 p7 p8 p9 p10 u0 u1 u2
    obtain ⟨p0, p1, p2, p3, p4, p5, p6, p7, p8, p9, p10⟩ := id hA
    obtain ⟨u0, u1, u2⟩ := id hU
    have hF := CkAt.new w1 ⟨ck0.dom, ck0.path, ck0.name, ck0.val, ck0.cr, ck0.ac, 0, false, false, ck0.hp, ck0.ss⟩ 23
    replace hb1 := hb1.alloc hb1.size (.cells #[.string ck0.dom, .string ck0.path, .string ck0.name, .string ck0.val, .int .i64 ck0.cr, .int .i64 ck0.ac, .int .i64 0, .bool false, .bool false, .bool ck0.hp, .int .i64 ck0.ss] 23)
    have hA2 := hA.keep ((Below.refl _ _).alloc (Nat.le_refl _) (.cells #[.string ck0.dom, .string ck0.path, .string ck0.name, .string ck0.val, .int .i64 ck0.cr, .int .i64 ck0.ac, .int .i64 0, .bool false, .bool false, .bool ck0.hp, .int .i64 ck0.ss] 23))
    have hU2 := hU.keep ((Below.refl _ _).alloc (Nat.le_refl _) (.cells #[.string ck0.dom, .string ck0.path, .string ck0.name, .string ck0.val, .int .i64 ck0.cr, .int .i64 ck0.ac, .int .i64 0, .bool false, .bool false, .bool ck0.hp, .int .i64 ck0.ss] 23))
    simp only [ckCells] at hF
    have HFF := Lib.hid hF
    have HAA := Lib.hid hA2
    have HUU := Lib.hid hU2
    have HB1 := Lib.hid hb1
    clear hF hA2 hU2 hb1 hA hU
    go_wp2_with fail
    refine (alive_any _).mono ?_
    rintro _ w2 ⟨rfl, hb⟩
    have hb2 := chain HB1.out hb
    have hA := HAA.out.keep hb
    have hU := HUU.out.keep hb
    have hF := HFF.out.keep hb
    clear hb HB1 HAA HUU HFF p0 p1 p2 p3 p4 p5 p6 p7 p8 p9 p10 u0 u1 u2
    obtain ⟨p0, p1, p2, p3, p4, p5, p6, p7, p8, p9, p10⟩ := id hA
    obtain ⟨u0, u1, u2⟩ := id hU
    obtain ⟨f0, f1, f2, f3, f4, f5, f6, f7, f8, f9, f10⟩ := id hF
    go_wp2_with fail
    with_reducible refine (H2.out _).mono ?_
    rintro _ w3 ⟨rfl, hb⟩
    have hb3 := chain hb2 hb
    replace hA := hA.keep hb
    replace hU := hU.keep hb
    replace hF := hF.keep hb
    clear hb hb2 p0 p1 p2 p3 p4 p5 p6 p7 p8 p9 p10 u0 u1 u2 f0 f1 f2 f3 f4 f5 f6 f7 f8 f9 f10
    obtain ⟨p0, p1, p2, p3, p4, p5, p6, p7, p8, p9, p10⟩ := id hA
    obtain ⟨u0, u1, u2⟩ := id hU
    obtain ⟨f0, f1, f2, f3, f4, f5, f6, f7, f8, f9, f10⟩ := id hF
    cases b
    · go_wp2
      go_ret
      exact ⟨rfl, hb3⟩
    · have H4 := Lib.hid (H3.out rfl)
      go_wp2_with fail
      with_reducible refine (H4.out _).mono ?_
      rintro _ w4 ⟨rfl, hb⟩
      have hb4 := chain hb3 hb
      clear hb hb3
      go_wp2
      go_ret
      exact ⟨rfl, hb4⟩

set_option maxRecDepth 100000 in
theorem lifted (os : Os) (started : os.Started) (H : Type) (enc : TypeId × Value → H) :
    ReturnsInHanded {} Tryd.checked os 9 .any (fun w args => (Rows.cookieSendsSpec.pre enc Tryd.prog Tryd.f9 [] false w args ∧ laidMetH Tryd.prog listed w) ∧ sizedMet enc Tryd.prog Tryd.f9 (OpenSpec.ofChange Rows.cookieSendsSpec) false w args)
      (Rows.cookieSendsSpec.post enc Tryd.prog Tryd.f9 false true false false) := by
  refine returnsInHanded_of_change_and (C := Tryd.checked) (X := fun w _ => laidMetH Tryd.prog listed w) (fun _ _ _ hh h => h.of_heap hh) own started (by kernel_rfl) Tryd.func9
    (ChangeSpec.witness_shaped (enc := enc) (C := Tryd.checked) (os := os) (X := fun w _ => laidMetH Tryd.prog listed w) false (laidOver (World.holding Tryd.prog os ⟨#[], #[], []⟩)) #[.agg #[.string ByteArray.empty, .string ByteArray.empty, .string ByteArray.empty, .string ByteArray.empty, .int .i64 0, .int .i64 0, .int .i64 0, .bool false, .bool false, .bool false, .int .i64 0], .agg #[.bool false, .string ByteArray.empty, .string ByteArray.empty], .int .i64 0] 8 rfl (World.shaped_of_RefB (by kernel_rfl) (by kernel_rfl)) (by kernel_rfl) (by kernel_rfl) (by kernel_rfl) (laid_over os _)) ?_
  intro W base args ds gs before hval0 hW hcnd hsz0 hL _
  have hT := tabs_listed hL
  have hval : ∀ (j : Nat) t v, Tryd.f9.params[j]? = some t → args[j]? = some v → Value.okWide Tryd.prog W .any base t v := hval0
  have hsz : (DataW.weightsEach Tryd.prog (Tryd.f9.params.toList ++ Rows.cookieSendsSpec.plain.varTypes Tryd.prog) (ds ++ gs)).all (· ≤ reachBytes) = true := hsz0
  have hW' := hW
  obtain ⟨p, q, hA0, hV, rfl, hfz, hnd⟩ := hW
  have hA : DataW.TrodAll enc Tryd.prog W 0 (fun _ => true) true Tryd.f9.params.toList args.toList ds p := hA0
  rw [Tryd.params9] at hA hval hsz
  obtain ⟨v0, vs0, d0, ds0, p0, q0, hargs, rfl, rfl, h0, r0⟩ := trodAll_cons hA
  obtain ⟨v1, vs1, d1, ds1, p1, q1, rfl, rfl, rfl, h1, r1⟩ := trodAll_cons r0
  obtain ⟨v2, vs2, d2, ds2, p2, q2, rfl, rfl, rfl, h2, r2⟩ := trodAll_cons r1
  obtain ⟨rfl, rfl, rfl⟩ := trodAll_nil r2
  obtain rfl : args = #[v0, v1, v2] := by cases args; simp_all
  obtain ⟨rfl, rfl⟩ := trodVars_none hV
  have h0k := h0
  have hlt0 : ∀ x ∈ p0, x.block < W.heap.size := fun x hx => by simpa using hW'.lt x (by simp [hx])
  obtain ⟨ck0, rfl, w0⟩ := ck_opened h0 (hval 0 23 v0 rfl rfl)
  have h1k := h1
  have hlt1 : ∀ x ∈ p1, x.block < W.heap.size := fun x hx => by simpa using hW'.lt x (by simp [hx])
  obtain ⟨us1, uh1, up1, rfl, w1⟩ := url_opened h1 (hval 1 40 v1 rfl rfl)
  obtain ⟨a2, rfl, rfl, rfl, w2⟩ := open_int Tryd.underlying3 (hval 2 3 v2 rfl rfl) h2
  clear hA0 hval0 hsz hsz0
  refine (walk ck0 us1 uh1 up1 a2 w0 w1 w2 W hT).mono fun e W' ⟨he, bel⟩ => ?_
  subst he
  exact ⟨_, rfl, _, _, _, [], _, [], hW', trodAll_mk1 (shut_bool Tryd.underlying4 _), (trodAll_cons_mk (Below.trod Tryd.laidOutK (by kernel_rfl) (of_decide_eq_true (by kernel_rfl)) h0k bel hlt0) (trodAll_cons_mk (Below.trod Tryd.laidOutU (by kernel_rfl) (of_decide_eq_true (by kernel_rfl)) h1k bel hlt1) (trodAll_cons_mk (shut_int Tryd.underlying3 w2) trodAll_mk0))), rfl, bel.frame _, fun h => by cases h⟩

theorem over : Rows.cookieSendsRow.holds Tryd.pinned (OpenSpec.ofChange Rows.cookieSendsSpec) :=
  OpenClaim.holds_of_wide 9 Tryd.f9 rfl rfl rfl rfl rfl rfl rfl ⟨rfl, rfl, rfl, rfl, rfl⟩ rfl rfl rfl rfl rfl (by kernel_rfl) Tryd.func9 (by kernel_rfl)
    (of_decide_eq_true (by kernel_rfl)) (by unfold Func.isWrapper; first | (rw [if_pos (by decide +kernel)]; kernel_rfl) | (rw [if_neg (by decide +kernel)]; exact ⟨rfl, rfl⟩))
    (fun os started H enc _ => lifted os started H enc)

set_option maxRecDepth 100000 in
theorem card : Rows.CookieSendsCardSaid :=
  Claim7.holds_tied_plain_at .later [] _ true Rows.cookieSendsCard.stood.harness false
    over (fun _ h => by cases h) (by kernel_rfl) (fun _ h => by cases h) cookieSends_row_tie rfl ⟨rfl, rfl⟩ (by kernel_rfl) rfl
    (fun f fn hf hfn => by
      obtain rfl : f = 9 := Option.some.inj ((show Tryd.prog.funcNamed Rows.cookieSendsRow.func = some 9 by kernel_rfl).symm.trans hf) |>.symm
      obtain rfl : fn = Tryd.f9 := (Option.some.inj (Tryd.func9.symm.trans hfn)).symm
      exact ⟨by kernel_rfl, fun j t ht => by
        rw [Tryd.params9] at ht
        have hm : t ∈ [23, 40, 3] := by first | (simpa using Array.mem_of_getElem? ht) | (have hq := Array.mem_of_getElem? ht; simp at hq ⊢; omega)
        have hall : ([23, 40, 3].all fun u => !Tryd.prog.wantsStandIn u) = true := by kernel_rfl
        exact (show Tryd.prog.wantsStandIn t = false by simpa using List.all_eq_true.1 hall t hm)⟩)
    (by kernel_rfl)

end Go.Proofs.YtkpdejnhjbojpaaDoor.cookieSends
namespace Go.Proofs.YtkpdejnhjbojpaaDoor
/-- The statement. -/
theorem cookieSends_proved : Rows.CookieSendsCardSaid := cookieSends.card
end Go.Proofs.YtkpdejnhjbojpaaDoor
