/-
  For every cookie c, cracknellaw13.CookieRight(c) returns true and leaves it as it was. Conditions: none beyond the form's own (a string that is read takes at most 2^47 - 4096 bytes).
-/
import Derived.Test.YtkpdejnhjbojpaaDoorCkAlive
import Derived.Test.YtkpdejnhjbojpaaDoorCkBox
import Derived.Test.YtkpdejnhjbojpaaDoorU8Laid
import Derived.Test.YtkpdejnhjbojpaaDoorTie
import Derived.Test.YtkpdejnhjbojpaaDoorCards
import Derived.SevenTiedAt
import Derived.LaidLaws
import Derived.Stop.Joined
import Derived.ProofKit
import Derived.OpenShut
import Derived.ShutString
import Derived.ChangeOld
import Derived.SizedLaws
namespace Go.Proofs.YtkpdejnhjbojpaaDoor.cookieRight
open Go.ChangeShapes Go.WideShapes Go.ChangeAt Go.RowKit
open Go.ChangeMaps (open_string shut_string)
set_option linter.unusedVariables false

theorem own : ownKnob Tryd.prog.godebug = none := by kernel_rfl

set_option maxRecDepth 100000 in
set_option maxHeartbeats 1600000 in
theorem walk (ck0 : Ck) (w0 : (ck0.dom.size ≤ maxLen ∧ ck0.path.size ≤ maxLen ∧ ck0.name.size ≤ maxLen ∧ ck0.val.size ≤ maxLen) ∧ (IntOk ck0.cr ∧ IntOk ck0.ac ∧ IntOk ck0.ex ∧ IntOk ck0.ss)) (w : World) (hT : Tabs w) :
    Calls Tryd.prog 3 #[ckV ck0] w fun e w' => e = .returned (.bool true) ∧ Below w.heap.size w w' := by
  clear w0
  have hA := CkAt.new w ck0 23
  have hb0 := (Below.refl w.heap.size w).alloc (Nat.le_refl _) (.cells (ckCells ck0) 23)
  simp only [ckCells] at hA hb0
  have HB := Lib.hid (rckright_any ck0)
  have HP := Lib.hid (ckright_any ck0)
  rcases (show 500 < ck0.dom.size ∨ (¬ 500 < ck0.dom.size ∧ 500 < ck0.path.size) ∨ (¬ 500 < ck0.dom.size ∧ ¬ 500 < ck0.path.size ∧ 500 < ck0.name.size) ∨ (¬ 500 < ck0.dom.size ∧ ¬ 500 < ck0.path.size ∧ ¬ 500 < ck0.name.size ∧ 500 < ck0.val.size) ∨ (¬ 500 < ck0.dom.size ∧ ¬ 500 < ck0.path.size ∧ ¬ 500 < ck0.name.size ∧ ¬ 500 < ck0.val.size) from by omega) with d1 | ⟨d1, d2⟩ | ⟨d1, d2, d3⟩ | ⟨d1, d2, d3, d4⟩ | ⟨d1, d2, d3, d4⟩
  · clear HB HP
    go_enter Tryd.func3, Tryd.ntmps3
    obtain ⟨p0, p1, p2, p3, p4, p5, p6, p7, p8, p9, p10⟩ := id hA
    go_wp2_with fail
    refine (alive_any _).mono ?_
    rintro _ w1 ⟨rfl, hb⟩
    have hb1 := chain hb0 hb
    clear hb hb0
    go_wp2
    go_ret
    exact ⟨rfl, hb1⟩
  · clear HB HP
    go_enter Tryd.func3, Tryd.ntmps3
    obtain ⟨p0, p1, p2, p3, p4, p5, p6, p7, p8, p9, p10⟩ := id hA
    go_wp2_with fail
    refine (alive_any _).mono ?_
    rintro _ w1 ⟨rfl, hb⟩
    have hb1 := chain hb0 hb
    clear hb hb0
    go_wp2
    go_ret
    exact ⟨rfl, hb1⟩
  · clear HB HP
    go_enter Tryd.func3, Tryd.ntmps3
    obtain ⟨p0, p1, p2, p3, p4, p5, p6, p7, p8, p9, p10⟩ := id hA
    go_wp2_with fail
    refine (alive_any _).mono ?_
    rintro _ w1 ⟨rfl, hb⟩
    have hb1 := chain hb0 hb
    clear hb hb0
    go_wp2
    go_ret
    exact ⟨rfl, hb1⟩
  · clear HB HP
    go_enter Tryd.func3, Tryd.ntmps3
    obtain ⟨p0, p1, p2, p3, p4, p5, p6, p7, p8, p9, p10⟩ := id hA
    go_wp2_with fail
    refine (alive_any _).mono ?_
    rintro _ w1 ⟨rfl, hb⟩
    have hb1 := chain hb0 hb
    clear hb hb0
    go_wp2
    go_ret
    exact ⟨rfl, hb1⟩
  · have H1 : Hid (∀ W, Calls Tryd.prog 11 #[ckV ck0] W fun e w' => e = .returned (.bool (ckB ck0)) ∧ Below W.heap.size W w') := fun W => HP.out W (by omega) (by omega) (by omega) (by omega)
    have H2 : Hid (∀ W, Calls Tryd.prog 12 #[ckV ck0] W fun e w' => e = .returned (.bool (ckB ck0)) ∧ Below W.heap.size W w') := fun W => HB.out W (by omega) (by omega) (by omega) (by omega)
    clear HB HP
    generalize ckB ck0 = b at H1 H2
    go_enter Tryd.func3, Tryd.ntmps3
    obtain ⟨p0, p1, p2, p3, p4, p5, p6, p7, p8, p9, p10⟩ := id hA
    go_wp2_with (with_reducible refine wp_halt ?_)
    refine Halt.on ?_
    clear p0 p1 p2 p3 p4 p5 p6 p7 p8 p9 p10
    generalize w.alloc (.cells #[.string ck0.dom, .string ck0.path, .string ck0.name, .string ck0.val, .int .i64 ck0.cr, .int .i64 ck0.ac, .int .i64 ck0.ex, .bool ck0.ho, .bool ck0.se, .bool ck0.hp, .int .i64 ck0.ss] 23) = W at *
    have p0 : ∀ x : Ext W, x.world.cell? ⟨w.heap.size, 0, none⟩ = some (.string ck0.dom) := fun x => (hA.keep x.below).1
    have p1 : ∀ x : Ext W, x.world.cell? ⟨w.heap.size, 1, none⟩ = some (.string ck0.path) := fun x => (hA.keep x.below).2.1
    have p2 : ∀ x : Ext W, x.world.cell? ⟨w.heap.size, 2, none⟩ = some (.string ck0.name) := fun x => (hA.keep x.below).2.2.1
    have p3 : ∀ x : Ext W, x.world.cell? ⟨w.heap.size, 3, none⟩ = some (.string ck0.val) := fun x => (hA.keep x.below).2.2.2.1
    have p4 : ∀ x : Ext W, x.world.cell? ⟨w.heap.size, 4, none⟩ = some (.int .i64 ck0.cr) := fun x => (hA.keep x.below).2.2.2.2.1
    have p5 : ∀ x : Ext W, x.world.cell? ⟨w.heap.size, 5, none⟩ = some (.int .i64 ck0.ac) := fun x => (hA.keep x.below).2.2.2.2.2.1
    have p6 : ∀ x : Ext W, x.world.cell? ⟨w.heap.size, 6, none⟩ = some (.int .i64 ck0.ex) := fun x => (hA.keep x.below).2.2.2.2.2.2.1
    have p7 : ∀ x : Ext W, x.world.cell? ⟨w.heap.size, 7, none⟩ = some (.bool ck0.ho) := fun x => (hA.keep x.below).2.2.2.2.2.2.2.1
    have p8 : ∀ x : Ext W, x.world.cell? ⟨w.heap.size, 8, none⟩ = some (.bool ck0.se) := fun x => (hA.keep x.below).2.2.2.2.2.2.2.2.1
    have p9 : ∀ x : Ext W, x.world.cell? ⟨w.heap.size, 9, none⟩ = some (.bool ck0.hp) := fun x => (hA.keep x.below).2.2.2.2.2.2.2.2.2.1
    have p10 : ∀ x : Ext W, x.world.cell? ⟨w.heap.size, 10, none⟩ = some (.int .i64 ck0.ss) := fun x => (hA.keep x.below).2.2.2.2.2.2.2.2.2.2
    clear hA d1 d2 d3 d4
    cases b
    · refine wp_region_ext (by kernel_rfl) (by kernel_rfl) ?_
      repeat (go_big_quiet_step (first
        | (go_at_call 10; with_reducible refine (alive_any _).mono ?_; rintro _ w1 ⟨rfl, hb1⟩; exact ⟨rfl, Ext.on _ hb1⟩)
        | (go_at_call 11; with_reducible refine (H1.out _).mono ?_; rintro _ w1 ⟨rfl, hb1⟩; exact ⟨rfl, Ext.on _ hb1⟩)
        | (go_at_call 12; with_reducible refine (H2.out _).mono ?_; rintro _ w1 ⟨rfl, hb1⟩; exact ⟨rfl, Ext.on _ hb1⟩)))
      refine wpQuiet_nil ?_
      rintro _ ⟨x, rfl⟩
      have hb1 := chain hb0 x.below
      go_wp2
      go_ret
      exact ⟨rfl, hb1⟩
    · refine wp_region_ext (by kernel_rfl) (by kernel_rfl) ?_
      repeat (go_big_quiet_step (first
        | (go_at_call 10; with_reducible refine (alive_any _).mono ?_; rintro _ w1 ⟨rfl, hb1⟩; exact ⟨rfl, Ext.on _ hb1⟩)
        | (go_at_call 11; with_reducible refine (H1.out _).mono ?_; rintro _ w1 ⟨rfl, hb1⟩; exact ⟨rfl, Ext.on _ hb1⟩)
        | (go_at_call 12; with_reducible refine (H2.out _).mono ?_; rintro _ w1 ⟨rfl, hb1⟩; exact ⟨rfl, Ext.on _ hb1⟩)))
      refine wpQuiet_nil ?_
      rintro _ ⟨x, rfl⟩
      have hb1 := chain hb0 x.below
      go_wp2
      go_ret
      exact ⟨rfl, hb1⟩

set_option maxRecDepth 100000 in
theorem lifted (os : Os) (started : os.Started) (H : Type) (enc : TypeId × Value → H) :
    ReturnsInHanded {} Tryd.checked os 3 .any (fun w args => (Rows.cookieRightSpec.pre enc Tryd.prog Tryd.f3 [] false w args ∧ laidMetH Tryd.prog listed w) ∧ sizedMet enc Tryd.prog Tryd.f3 (OpenSpec.ofChange Rows.cookieRightSpec) false w args)
      (Rows.cookieRightSpec.post enc Tryd.prog Tryd.f3 false true false false) := by
  refine returnsInHanded_of_change_and (C := Tryd.checked) (X := fun w _ => laidMetH Tryd.prog listed w) (fun _ _ _ hh h => h.of_heap hh) own started (by kernel_rfl) Tryd.func3
    (ChangeSpec.witness_shaped (enc := enc) (C := Tryd.checked) (os := os) (X := fun w _ => laidMetH Tryd.prog listed w) false (laidOver (World.holding Tryd.prog os ⟨#[], #[], []⟩)) #[.agg #[.string ByteArray.empty, .string ByteArray.empty, .string ByteArray.empty, .string ByteArray.empty, .int .i64 0, .int .i64 0, .int .i64 0, .bool false, .bool false, .bool false, .int .i64 0]] 8 rfl (World.shaped_of_RefB (by kernel_rfl) (by kernel_rfl)) (by kernel_rfl) (by kernel_rfl) (by kernel_rfl) (laid_over os _)) ?_
  intro W base args ds gs before hval0 hW hcnd hsz0 hL _
  have hT := tabs_listed hL
  have hval : ∀ (j : Nat) t v, Tryd.f3.params[j]? = some t → args[j]? = some v → Value.okWide Tryd.prog W .any base t v := hval0
  have hsz : (DataW.weightsEach Tryd.prog (Tryd.f3.params.toList ++ Rows.cookieRightSpec.plain.varTypes Tryd.prog) (ds ++ gs)).all (· ≤ reachBytes) = true := hsz0
  have hW' := hW
  obtain ⟨p, q, hA0, hV, rfl, hfz, hnd⟩ := hW
  have hA : DataW.TrodAll enc Tryd.prog W 0 (fun _ => true) true Tryd.f3.params.toList args.toList ds p := hA0
  rw [Tryd.params3] at hA hval hsz
  obtain ⟨v0, vs0, d0, ds0, p0, q0, hargs, rfl, rfl, h0, r0⟩ := trodAll_cons hA
  obtain ⟨rfl, rfl, rfl⟩ := trodAll_nil r0
  obtain rfl : args = #[v0] := by cases args; simp_all
  obtain ⟨rfl, rfl⟩ := trodVars_none hV
  have h0k := h0
  have hlt0 : ∀ x ∈ p0, x.block < W.heap.size := fun x hx => by simpa using hW'.lt x (by simp [hx])
  obtain ⟨ck0, rfl, w0⟩ := ck_opened h0 (hval 0 23 v0 rfl rfl)
  clear hA0 hval0 hsz hsz0
  refine (walk ck0 w0 W hT).mono fun e W' ⟨he, bel⟩ => ?_
  subst he
  exact ⟨_, rfl, _, _, _, [], _, [], hW', trodAll_mk1 (shut_bool Tryd.underlying4 _), (trodAll_cons_mk (Below.trod Tryd.laidOutK (by kernel_rfl) (of_decide_eq_true (by kernel_rfl)) h0k bel hlt0) trodAll_mk0), rfl, bel.frame _, fun h => by cases h⟩

theorem over : Rows.cookieRightRow.holds Tryd.pinned (OpenSpec.ofChange Rows.cookieRightSpec) :=
  OpenClaim.holds_of_wide 3 Tryd.f3 rfl rfl rfl rfl rfl rfl rfl ⟨rfl, rfl, rfl, rfl, rfl⟩ rfl rfl rfl rfl rfl (by kernel_rfl) Tryd.func3 (by kernel_rfl)
    (of_decide_eq_true (by kernel_rfl)) (by unfold Func.isWrapper; first | (rw [if_pos (by decide +kernel)]; kernel_rfl) | (rw [if_neg (by decide +kernel)]; exact ⟨rfl, rfl⟩))
    (fun os started H enc _ => lifted os started H enc)

set_option maxRecDepth 100000 in
theorem card : Rows.CookieRightCardSaid :=
  Claim7.holds_tied_plain_at .later [] _ true Rows.cookieRightCard.stood.harness false
    over (fun _ h => by cases h) (by kernel_rfl) (fun _ h => by cases h) cookieRight_row_tie rfl ⟨rfl, rfl⟩ (by kernel_rfl) rfl
    (fun f fn hf hfn => by
      obtain rfl : f = 3 := Option.some.inj ((show Tryd.prog.funcNamed Rows.cookieRightRow.func = some 3 by kernel_rfl).symm.trans hf) |>.symm
      obtain rfl : fn = Tryd.f3 := (Option.some.inj (Tryd.func3.symm.trans hfn)).symm
      exact ⟨by kernel_rfl, fun j t ht => by
        rw [Tryd.params3] at ht
        have hm : t ∈ [23] := by first | (simpa using Array.mem_of_getElem? ht) | (have hq := Array.mem_of_getElem? ht; simp at hq ⊢; omega)
        have hall : ([23].all fun u => !Tryd.prog.wantsStandIn u) = true := by kernel_rfl
        exact (show Tryd.prog.wantsStandIn t = false by simpa using List.all_eq_true.1 hall t hm)⟩)
    (by kernel_rfl)

end Go.Proofs.YtkpdejnhjbojpaaDoor.cookieRight
namespace Go.Proofs.YtkpdejnhjbojpaaDoor
/-- The statement. -/
theorem cookieRight_proved : Rows.CookieRightCardSaid := cookieRight.card
end Go.Proofs.YtkpdejnhjbojpaaDoor
