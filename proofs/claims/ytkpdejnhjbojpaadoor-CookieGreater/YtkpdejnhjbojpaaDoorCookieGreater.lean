/-
  For all cookies a, b and c, cracknellaw13.CookieGreater(a, b, c) returns true and leaves them as they were. Conditions: none beyond the form's own (a string that is read takes at most 2^47 - 4096 bytes).
-/
import Derived.Test.YtkpdejnhjbojpaaDoorCkAlive
import Derived.Test.YtkpdejnhjbojpaaDoorCkBox
import Derived.Test.YtkpdejnhjbojpaaDoorCkEq
import Derived.Test.YtkpdejnhjbojpaaDoorU8Laid
import Derived.Test.YtkpdejnhjbojpaaDoorTie
import Derived.Test.YtkpdejnhjbojpaaDoorCards
import Derived.SevenTiedAt
import Derived.LaidLaws
import Derived.Stop.Joined
import Derived.ProofKit
import Derived.OpenShut
import Derived.ShutString
import Derived.ChangeOld
import Derived.SizedLaws
namespace Go.Proofs.YtkpdejnhjbojpaaDoor.cookieGreater
open Go.ChangeShapes Go.WideShapes Go.ChangeAt Go.RowKit
open Go.ChangeMaps (open_string shut_string)
set_option linter.unusedVariables false

theorem own : ownKnob Tryd.prog.godebug = none := by kernel_rfl

theorem short_of {c : Ck} {P : Prop} (h : (c.dom.size ≤ maxLen ∧ c.path.size ≤ maxLen ∧ c.name.size ≤ maxLen ∧ c.val.size ≤ maxLen) ∧ P) : ShortC c := by
  unfold maxLen at h
  exact h.1

theorem short_gr {a b : Ck} (ha : ShortC a) (hb : ShortC b) : ShortC (grC a b) := by
  rcases grC_one a b with h | h
  · rw [h]; exact ha
  · rw [h]; exact hb

theorem either (g a b : Ck) (h : g = a ∨ g = b) : ∃ qa qb, (∀ W, Sem.run Tryd.prog (binOp BinOp.eql 23 (ckV g) (ckV a)) W = .ok (.bool qa) W) ∧ (∀ W, Sem.run Tryd.prog (binOp BinOp.eql 23 (ckV g) (ckV b)) W = .ok (.bool qb) W) ∧ (qa = true ∨ (qa = false ∧ qb = true)) := by
  by_cases ha : g = a
  · by_cases hb : g = b
    · exact ⟨true, true, fun W => by rw [← ha]; exact ck_eq_yes g W, fun W => by rw [← hb]; exact ck_eq_yes g W, .inl rfl⟩
    · exact ⟨true, false, fun W => by rw [← ha]; exact ck_eq_yes g W, fun W => ck_eq_no g b hb W, .inl rfl⟩
  · have hb : g = b := by rcases h with h | h; exact absurd h ha; exact h
    exact ⟨false, true, fun W => ck_eq_no g a ha W, fun W => by rw [← hb]; exact ck_eq_yes g W, .inr ⟨rfl, rfl⟩⟩
set_option maxRecDepth 100000 in
set_option maxHeartbeats 1600000 in
theorem walk (ck0 : Ck) (ck1 : Ck) (ck2 : Ck) (w0 : (ck0.dom.size ≤ maxLen ∧ ck0.path.size ≤ maxLen ∧ ck0.name.size ≤ maxLen ∧ ck0.val.size ≤ maxLen) ∧ (IntOk ck0.cr ∧ IntOk ck0.ac ∧ IntOk ck0.ex ∧ IntOk ck0.ss)) (w1 : (ck1.dom.size ≤ maxLen ∧ ck1.path.size ≤ maxLen ∧ ck1.name.size ≤ maxLen ∧ ck1.val.size ≤ maxLen) ∧ (IntOk ck1.cr ∧ IntOk ck1.ac ∧ IntOk ck1.ex ∧ IntOk ck1.ss)) (w2 : (ck2.dom.size ≤ maxLen ∧ ck2.path.size ≤ maxLen ∧ ck2.name.size ≤ maxLen ∧ ck2.val.size ≤ maxLen) ∧ (IntOk ck2.cr ∧ IntOk ck2.ac ∧ IntOk ck2.ex ∧ IntOk ck2.ss)) (w : World) (hT : Tabs w) :
    Calls Tryd.prog 7 #[ckV ck0, ckV ck1, ckV ck2] w fun e w' => e = .returned (.bool true) ∧ Below w.heap.size w w' := by
  have S0 := short_of w0
  have S1 := short_of w1
  have S2 := short_of w2
  clear w0 w1 w2
  have SG := short_gr S0 S1
  have SM := short_gr S1 S2
  have C1 := Lib.hid (greater_any ck0 ck1 · S0 S1)
  have C2 := Lib.hid (greater_any (grC ck0 ck1) ck2 · SG S2)
  have CR := Lib.hid (rgreater_any ck0 ck1 · S0 S1)
  have C3 := Lib.hid (greater_any ck1 ck0 · S1 S0)
  have C4 := Lib.hid (greater_any ck0 ck0 · S0 S0)
  have C5 := Lib.hid (cmp_any (grC ck0 ck1) ck0 · SG S0)
  have C6 := Lib.hid (cmp_any (grC ck0 ck1) ck1 · SG S1)
  have C7 := Lib.hid (greater_any ck1 ck2 · S1 S2)
  have C8 := Lib.hid (greater_any ck0 (grC ck1 ck2) · S0 SM)
  rw [grC_comm ck1 ck0] at C3
  rw [grC_self ck0] at C4
  rw [grC_assoc ck0 ck1 ck2] at C8
  have k1 := grC_left ck0 ck1
  have k2 := grC_right ck0 ck1
  have hone := grC_one ck0 ck1
  generalize cmpC (grC ck0 ck1) ck0 = n1 at C5 k1
  generalize cmpC (grC ck0 ck1) ck1 = n2 at C6 k2
  generalize grC ck1 ck2 = M at C7 C8
  generalize grC (grC ck0 ck1) ck2 = H at C2 C8
  generalize grC ck0 ck1 = G at *
  clear S0 S1 S2 SG SM
  have k1' : decide (0 ≤ n1) = true := decide_eq_true k1
  have k2' : decide (0 ≤ n2) = true := decide_eq_true k2
  have eA := ck_eq_yes ck0
  have eG := ck_eq_yes G
  have eH := ck_eq_yes H
  obtain ⟨qa, qb, hqa, hqb, hor⟩ := either G ck0 ck1 hone
  clear hone
  have hA := ((CkAt.new w ck0 23).keep ((Below.refl _ _).alloc (Nat.le_refl _) (.cells (ckCells ck1) 23))).keep ((Below.refl _ _).alloc (Nat.le_refl _) (.cells (ckCells ck2) 23))
  have hB := (CkAt.new (w.alloc (.cells (ckCells ck0) 23)) ck1 23).keep ((Below.refl _ _).alloc (Nat.le_refl _) (.cells (ckCells ck2) 23))
  have hC := CkAt.new ((w.alloc (.cells (ckCells ck0) 23)).alloc (.cells (ckCells ck1) 23)) ck2 23
  have hb0 := (((Below.refl w.heap.size w).alloc (Nat.le_refl _) (.cells (ckCells ck0) 23)).alloc (by simp) (.cells (ckCells ck1) 23)).alloc (by simp; omega) (.cells (ckCells ck2) 23)
  rw [show ∀ o : Obj, (w.alloc o).heap.size = w.heap.size + 1 from fun o => by simp] at hB
  rw [show ∀ o o' : Obj, ((w.alloc o).alloc o').heap.size = w.heap.size + 1 + 1 from fun o o' => by simp] at hC
  simp only [ckCells] at hA hB hC hb0
  go_enter Tryd.func7, Tryd.ntmps7
  obtain ⟨p0, p1, p2, p3, p4, p5, p6, p7, p8, p9, p10⟩ := id hA
  obtain ⟨q0, q1, q2, q3, q4, q5, q6, q7, q8, q9, q10⟩ := id hB
  obtain ⟨r0, r1, r2, r3, r4, r5, r6, r7, r8, r9, r10⟩ := id hC
  go_wp2_with fail
  refine (C1.out _).mono ?_
  rintro _ w1 ⟨rfl, hb⟩
  have hb1 := chain hb0 hb
  replace hA := hA.keep hb
  replace hB := hB.keep hb
  replace hC := hC.keep hb
  clear hb hb0 p0 p1 p2 p3 p4 p5 p6 p7 p8 p9 p10 q0 q1 q2 q3 q4 q5 q6 q7 q8 q9 q10 r0 r1 r2 r3 r4 r5 r6 r7 r8 r9 r10
  have hG := CkAt.new w1 G 23
  have hbG : Below w1.heap.size w1 (w1.alloc (.cells (ckCells G) 23)) := (Below.refl _ _).alloc (Nat.le_refl _) _
  have hb1b := chain hb1 hbG
  replace hA := hA.keep hbG
  replace hB := hB.keep hbG
  replace hC := hC.keep hbG
  clear hb1 hbG
  simp only [ckCells] at hA hB hC hG hb1b
  have HA := Lib.hid hA
  have HB := Lib.hid hB
  have HC := Lib.hid hC
  have HG := Lib.hid hG
  have HB1 := Lib.hid hb1b
  obtain ⟨r0, r1, r2, r3, r4, r5, r6, r7, r8, r9, r10⟩ := id hC
  obtain ⟨g0, g1, g2, g3, g4, g5, g6, g7, g8, g9, g10⟩ := id hG
  clear hA hB hC hG hb1b
  go_wp2_with fail
  with_reducible refine (C2.out _).mono ?_
  rintro _ w2 ⟨rfl, hb⟩
  have hA := HA.out.keep hb
  have hB := HB.out.keep hb
  have hC := HC.out.keep hb
  have hG := HG.out.keep hb
  have hb2 := chain HB1.out hb
  clear hb HA HB HC HG HB1 r0 r1 r2 r3 r4 r5 r6 r7 r8 r9 r10 g0 g1 g2 g3 g4 g5 g6 g7 g8 g9 g10
  have hH := CkAt.new w2 H 23
  have hbH : Below w2.heap.size w2 (w2.alloc (.cells (ckCells H) 23)) := (Below.refl _ _).alloc (Nat.le_refl _) _
  have hb3 := chain hb2 hbH
  replace hA := hA.keep hbH
  replace hB := hB.keep hbH
  replace hC := hC.keep hbH
  replace hG := hG.keep hbH
  clear hb2 hbH
  simp only [ckCells] at hA hB hC hG hH hb3
  go_wp2_with (with_reducible refine wp_halt ?_)
  refine Halt.on ?_
  generalize w2.alloc (.cells #[.string H.dom, .string H.path, .string H.name, .string H.val, .int .i64 H.cr, .int .i64 H.ac, .int .i64 H.ex, .bool H.ho, .bool H.se, .bool H.hp, .int .i64 H.ss] 23) = W at *
  have p0 : ∀ x : Ext W, x.world.cell? ⟨w.heap.size, 0, none⟩ = some (.string ck0.dom) := fun x => (hA.keep x.below).1
  have p1 : ∀ x : Ext W, x.world.cell? ⟨w.heap.size, 1, none⟩ = some (.string ck0.path) := fun x => (hA.keep x.below).2.1
  have p2 : ∀ x : Ext W, x.world.cell? ⟨w.heap.size, 2, none⟩ = some (.string ck0.name) := fun x => (hA.keep x.below).2.2.1
  have p3 : ∀ x : Ext W, x.world.cell? ⟨w.heap.size, 3, none⟩ = some (.string ck0.val) := fun x => (hA.keep x.below).2.2.2.1
  have p4 : ∀ x : Ext W, x.world.cell? ⟨w.heap.size, 4, none⟩ = some (.int .i64 ck0.cr) := fun x => (hA.keep x.below).2.2.2.2.1
  have p5 : ∀ x : Ext W, x.world.cell? ⟨w.heap.size, 5, none⟩ = some (.int .i64 ck0.ac) := fun x => (hA.keep x.below).2.2.2.2.2.1
  have p6 : ∀ x : Ext W, x.world.cell? ⟨w.heap.size, 6, none⟩ = some (.int .i64 ck0.ex) := fun x => (hA.keep x.below).2.2.2.2.2.2.1
  have p7 : ∀ x : Ext W, x.world.cell? ⟨w.heap.size, 7, none⟩ = some (.bool ck0.ho) := fun x => (hA.keep x.below).2.2.2.2.2.2.2.1
  have p8 : ∀ x : Ext W, x.world.cell? ⟨w.heap.size, 8, none⟩ = some (.bool ck0.se) := fun x => (hA.keep x.below).2.2.2.2.2.2.2.2.1
  have p9 : ∀ x : Ext W, x.world.cell? ⟨w.heap.size, 9, none⟩ = some (.bool ck0.hp) := fun x => (hA.keep x.below).2.2.2.2.2.2.2.2.2.1
  have p10 : ∀ x : Ext W, x.world.cell? ⟨w.heap.size, 10, none⟩ = some (.int .i64 ck0.ss) := fun x => (hA.keep x.below).2.2.2.2.2.2.2.2.2.2
  have q0 : ∀ x : Ext W, x.world.cell? ⟨w.heap.size + 1, 0, none⟩ = some (.string ck1.dom) := fun x => (hB.keep x.below).1
  have q1 : ∀ x : Ext W, x.world.cell? ⟨w.heap.size + 1, 1, none⟩ = some (.string ck1.path) := fun x => (hB.keep x.below).2.1
  have q2 : ∀ x : Ext W, x.world.cell? ⟨w.heap.size + 1, 2, none⟩ = some (.string ck1.name) := fun x => (hB.keep x.below).2.2.1
  have q3 : ∀ x : Ext W, x.world.cell? ⟨w.heap.size + 1, 3, none⟩ = some (.string ck1.val) := fun x => (hB.keep x.below).2.2.2.1
  have q4 : ∀ x : Ext W, x.world.cell? ⟨w.heap.size + 1, 4, none⟩ = some (.int .i64 ck1.cr) := fun x => (hB.keep x.below).2.2.2.2.1
  have q5 : ∀ x : Ext W, x.world.cell? ⟨w.heap.size + 1, 5, none⟩ = some (.int .i64 ck1.ac) := fun x => (hB.keep x.below).2.2.2.2.2.1
  have q6 : ∀ x : Ext W, x.world.cell? ⟨w.heap.size + 1, 6, none⟩ = some (.int .i64 ck1.ex) := fun x => (hB.keep x.below).2.2.2.2.2.2.1
  have q7 : ∀ x : Ext W, x.world.cell? ⟨w.heap.size + 1, 7, none⟩ = some (.bool ck1.ho) := fun x => (hB.keep x.below).2.2.2.2.2.2.2.1
  have q8 : ∀ x : Ext W, x.world.cell? ⟨w.heap.size + 1, 8, none⟩ = some (.bool ck1.se) := fun x => (hB.keep x.below).2.2.2.2.2.2.2.2.1
  have q9 : ∀ x : Ext W, x.world.cell? ⟨w.heap.size + 1, 9, none⟩ = some (.bool ck1.hp) := fun x => (hB.keep x.below).2.2.2.2.2.2.2.2.2.1
  have q10 : ∀ x : Ext W, x.world.cell? ⟨w.heap.size + 1, 10, none⟩ = some (.int .i64 ck1.ss) := fun x => (hB.keep x.below).2.2.2.2.2.2.2.2.2.2
  have r0 : ∀ x : Ext W, x.world.cell? ⟨w.heap.size + 1 + 1, 0, none⟩ = some (.string ck2.dom) := fun x => (hC.keep x.below).1
  have r1 : ∀ x : Ext W, x.world.cell? ⟨w.heap.size + 1 + 1, 1, none⟩ = some (.string ck2.path) := fun x => (hC.keep x.below).2.1
  have r2 : ∀ x : Ext W, x.world.cell? ⟨w.heap.size + 1 + 1, 2, none⟩ = some (.string ck2.name) := fun x => (hC.keep x.below).2.2.1
  have r3 : ∀ x : Ext W, x.world.cell? ⟨w.heap.size + 1 + 1, 3, none⟩ = some (.string ck2.val) := fun x => (hC.keep x.below).2.2.2.1
  have r4 : ∀ x : Ext W, x.world.cell? ⟨w.heap.size + 1 + 1, 4, none⟩ = some (.int .i64 ck2.cr) := fun x => (hC.keep x.below).2.2.2.2.1
  have r5 : ∀ x : Ext W, x.world.cell? ⟨w.heap.size + 1 + 1, 5, none⟩ = some (.int .i64 ck2.ac) := fun x => (hC.keep x.below).2.2.2.2.2.1
  have r6 : ∀ x : Ext W, x.world.cell? ⟨w.heap.size + 1 + 1, 6, none⟩ = some (.int .i64 ck2.ex) := fun x => (hC.keep x.below).2.2.2.2.2.2.1
  have r7 : ∀ x : Ext W, x.world.cell? ⟨w.heap.size + 1 + 1, 7, none⟩ = some (.bool ck2.ho) := fun x => (hC.keep x.below).2.2.2.2.2.2.2.1
  have r8 : ∀ x : Ext W, x.world.cell? ⟨w.heap.size + 1 + 1, 8, none⟩ = some (.bool ck2.se) := fun x => (hC.keep x.below).2.2.2.2.2.2.2.2.1
  have r9 : ∀ x : Ext W, x.world.cell? ⟨w.heap.size + 1 + 1, 9, none⟩ = some (.bool ck2.hp) := fun x => (hC.keep x.below).2.2.2.2.2.2.2.2.2.1
  have r10 : ∀ x : Ext W, x.world.cell? ⟨w.heap.size + 1 + 1, 10, none⟩ = some (.int .i64 ck2.ss) := fun x => (hC.keep x.below).2.2.2.2.2.2.2.2.2.2
  have g0 : ∀ x : Ext W, x.world.cell? ⟨w1.heap.size, 0, none⟩ = some (.string G.dom) := fun x => (hG.keep x.below).1
  have g1 : ∀ x : Ext W, x.world.cell? ⟨w1.heap.size, 1, none⟩ = some (.string G.path) := fun x => (hG.keep x.below).2.1
  have g2 : ∀ x : Ext W, x.world.cell? ⟨w1.heap.size, 2, none⟩ = some (.string G.name) := fun x => (hG.keep x.below).2.2.1
  have g3 : ∀ x : Ext W, x.world.cell? ⟨w1.heap.size, 3, none⟩ = some (.string G.val) := fun x => (hG.keep x.below).2.2.2.1
  have g4 : ∀ x : Ext W, x.world.cell? ⟨w1.heap.size, 4, none⟩ = some (.int .i64 G.cr) := fun x => (hG.keep x.below).2.2.2.2.1
  have g5 : ∀ x : Ext W, x.world.cell? ⟨w1.heap.size, 5, none⟩ = some (.int .i64 G.ac) := fun x => (hG.keep x.below).2.2.2.2.2.1
  have g6 : ∀ x : Ext W, x.world.cell? ⟨w1.heap.size, 6, none⟩ = some (.int .i64 G.ex) := fun x => (hG.keep x.below).2.2.2.2.2.2.1
  have g7 : ∀ x : Ext W, x.world.cell? ⟨w1.heap.size, 7, none⟩ = some (.bool G.ho) := fun x => (hG.keep x.below).2.2.2.2.2.2.2.1
  have g8 : ∀ x : Ext W, x.world.cell? ⟨w1.heap.size, 8, none⟩ = some (.bool G.se) := fun x => (hG.keep x.below).2.2.2.2.2.2.2.2.1
  have g9 : ∀ x : Ext W, x.world.cell? ⟨w1.heap.size, 9, none⟩ = some (.bool G.hp) := fun x => (hG.keep x.below).2.2.2.2.2.2.2.2.2.1
  have g10 : ∀ x : Ext W, x.world.cell? ⟨w1.heap.size, 10, none⟩ = some (.int .i64 G.ss) := fun x => (hG.keep x.below).2.2.2.2.2.2.2.2.2.2
  have z0 : ∀ x : Ext W, x.world.cell? ⟨w2.heap.size, 0, none⟩ = some (.string H.dom) := fun x => (hH.keep x.below).1
  have z1 : ∀ x : Ext W, x.world.cell? ⟨w2.heap.size, 1, none⟩ = some (.string H.path) := fun x => (hH.keep x.below).2.1
  have z2 : ∀ x : Ext W, x.world.cell? ⟨w2.heap.size, 2, none⟩ = some (.string H.name) := fun x => (hH.keep x.below).2.2.1
  have z3 : ∀ x : Ext W, x.world.cell? ⟨w2.heap.size, 3, none⟩ = some (.string H.val) := fun x => (hH.keep x.below).2.2.2.1
  have z4 : ∀ x : Ext W, x.world.cell? ⟨w2.heap.size, 4, none⟩ = some (.int .i64 H.cr) := fun x => (hH.keep x.below).2.2.2.2.1
  have z5 : ∀ x : Ext W, x.world.cell? ⟨w2.heap.size, 5, none⟩ = some (.int .i64 H.ac) := fun x => (hH.keep x.below).2.2.2.2.2.1
  have z6 : ∀ x : Ext W, x.world.cell? ⟨w2.heap.size, 6, none⟩ = some (.int .i64 H.ex) := fun x => (hH.keep x.below).2.2.2.2.2.2.1
  have z7 : ∀ x : Ext W, x.world.cell? ⟨w2.heap.size, 7, none⟩ = some (.bool H.ho) := fun x => (hH.keep x.below).2.2.2.2.2.2.2.1
  have z8 : ∀ x : Ext W, x.world.cell? ⟨w2.heap.size, 8, none⟩ = some (.bool H.se) := fun x => (hH.keep x.below).2.2.2.2.2.2.2.2.1
  have z9 : ∀ x : Ext W, x.world.cell? ⟨w2.heap.size, 9, none⟩ = some (.bool H.hp) := fun x => (hH.keep x.below).2.2.2.2.2.2.2.2.2.1
  have z10 : ∀ x : Ext W, x.world.cell? ⟨w2.heap.size, 10, none⟩ = some (.int .i64 H.ss) := fun x => (hH.keep x.below).2.2.2.2.2.2.2.2.2.2
  clear hA hB hC hG hH
  rcases hor with rfl | ⟨rfl, rfl⟩
  · refine wp_region_ext (by kernel_rfl) (by kernel_rfl) ?_
    repeat (go_big_quiet_step (first
      | (go_at_call 10; with_reducible refine (alive_any _).mono ?_; rintro _ w1 ⟨rfl, hb1⟩; exact ⟨rfl, Ext.on _ hb1⟩)
      | (go_at_call 19; with_reducible refine (C3.out _).mono ?_; rintro _ w1 ⟨rfl, hb1⟩; exact ⟨rfl, Ext.on _ hb1⟩)
      | (go_at_call 19; with_reducible refine (C4.out _).mono ?_; rintro _ w1 ⟨rfl, hb1⟩; exact ⟨rfl, Ext.on _ hb1⟩)
      | (go_at_call 19; with_reducible refine (C7.out _).mono ?_; rintro _ w1 ⟨rfl, hb1⟩; exact ⟨rfl, Ext.on _ hb1⟩)
      | (go_at_call 19; with_reducible refine (C8.out _).mono ?_; rintro _ w1 ⟨rfl, hb1⟩; exact ⟨rfl, Ext.on _ hb1⟩)
      | (go_at_call 20; with_reducible refine (CR.out _).mono ?_; rintro _ w1 ⟨rfl, hb1⟩; exact ⟨rfl, Ext.on _ hb1⟩)
      | (go_at_call 17; with_reducible refine (C5.out _).mono ?_; rintro _ w1 ⟨rfl, hb1⟩; exact ⟨rfl, Ext.on _ hb1⟩)
      | (go_at_call 17; with_reducible refine (C6.out _).mono ?_; rintro _ w1 ⟨rfl, hb1⟩; exact ⟨rfl, Ext.on _ hb1⟩)))
    refine wpQuiet_nil ?_
    rintro _ ⟨x, rfl⟩
    have hb4 := chain hb3 x.below
    go_wp2
    go_ret
    exact ⟨rfl, hb4⟩
  · refine wp_region_ext (by kernel_rfl) (by kernel_rfl) ?_
    repeat (go_big_quiet_step (first
      | (go_at_call 10; with_reducible refine (alive_any _).mono ?_; rintro _ w1 ⟨rfl, hb1⟩; exact ⟨rfl, Ext.on _ hb1⟩)
      | (go_at_call 19; with_reducible refine (C3.out _).mono ?_; rintro _ w1 ⟨rfl, hb1⟩; exact ⟨rfl, Ext.on _ hb1⟩)
      | (go_at_call 19; with_reducible refine (C4.out _).mono ?_; rintro _ w1 ⟨rfl, hb1⟩; exact ⟨rfl, Ext.on _ hb1⟩)
      | (go_at_call 19; with_reducible refine (C7.out _).mono ?_; rintro _ w1 ⟨rfl, hb1⟩; exact ⟨rfl, Ext.on _ hb1⟩)
      | (go_at_call 19; with_reducible refine (C8.out _).mono ?_; rintro _ w1 ⟨rfl, hb1⟩; exact ⟨rfl, Ext.on _ hb1⟩)
      | (go_at_call 20; with_reducible refine (CR.out _).mono ?_; rintro _ w1 ⟨rfl, hb1⟩; exact ⟨rfl, Ext.on _ hb1⟩)
      | (go_at_call 17; with_reducible refine (C5.out _).mono ?_; rintro _ w1 ⟨rfl, hb1⟩; exact ⟨rfl, Ext.on _ hb1⟩)
      | (go_at_call 17; with_reducible refine (C6.out _).mono ?_; rintro _ w1 ⟨rfl, hb1⟩; exact ⟨rfl, Ext.on _ hb1⟩)))
    refine wpQuiet_nil ?_
    rintro _ ⟨x, rfl⟩
    have hb4 := chain hb3 x.below
    go_wp2
    go_ret
    exact ⟨rfl, hb4⟩

set_option maxRecDepth 100000 in
theorem lifted (os : Os) (started : os.Started) (H : Type) (enc : TypeId × Value → H) :
    ReturnsInHanded {} Tryd.checked os 7 .any (fun w args => (Rows.cookieGreaterSpec.pre enc Tryd.prog Tryd.f7 [] false w args ∧ laidMetH Tryd.prog listed w) ∧ sizedMet enc Tryd.prog Tryd.f7 (OpenSpec.ofChange Rows.cookieGreaterSpec) false w args)
      (Rows.cookieGreaterSpec.post enc Tryd.prog Tryd.f7 false true false false) := by
  refine returnsInHanded_of_change_and (C := Tryd.checked) (X := fun w _ => laidMetH Tryd.prog listed w) (fun _ _ _ hh h => h.of_heap hh) own started (by kernel_rfl) Tryd.func7
    (ChangeSpec.witness_shaped (enc := enc) (C := Tryd.checked) (os := os) (X := fun w _ => laidMetH Tryd.prog listed w) false (laidOver (World.holding Tryd.prog os ⟨#[], #[], []⟩)) #[.agg #[.string ByteArray.empty, .string ByteArray.empty, .string ByteArray.empty, .string ByteArray.empty, .int .i64 0, .int .i64 0, .int .i64 0, .bool false, .bool false, .bool false, .int .i64 0], .agg #[.string ByteArray.empty, .string ByteArray.empty, .string ByteArray.empty, .string ByteArray.empty, .int .i64 0, .int .i64 0, .int .i64 0, .bool false, .bool false, .bool false, .int .i64 0], .agg #[.string ByteArray.empty, .string ByteArray.empty, .string ByteArray.empty, .string ByteArray.empty, .int .i64 0, .int .i64 0, .int .i64 0, .bool false, .bool false, .bool false, .int .i64 0]] 8 rfl (World.shaped_of_RefB (by kernel_rfl) (by kernel_rfl)) (by kernel_rfl) (by kernel_rfl) (by kernel_rfl) (laid_over os _)) ?_
  intro W base args ds gs before hval0 hW hcnd hsz0 hL _
  have hT := tabs_listed hL
  have hval : ∀ (j : Nat) t v, Tryd.f7.params[j]? = some t → args[j]? = some v → Value.okWide Tryd.prog W .any base t v := hval0
  have hsz : (DataW.weightsEach Tryd.prog (Tryd.f7.params.toList ++ Rows.cookieGreaterSpec.plain.varTypes Tryd.prog) (ds ++ gs)).all (· ≤ reachBytes) = true := hsz0
  have hW' := hW
  obtain ⟨p, q, hA0, hV, rfl, hfz, hnd⟩ := hW
  have hA : DataW.TrodAll enc Tryd.prog W 0 (fun _ => true) true Tryd.f7.params.toList args.toList ds p := hA0
  rw [Tryd.params7] at hA hval hsz
  obtain ⟨v0, vs0, d0, ds0, p0, q0, hargs, rfl, rfl, h0, r0⟩ := trodAll_cons hA
  obtain ⟨v1, vs1, d1, ds1, p1, q1, rfl, rfl, rfl, h1, r1⟩ := trodAll_cons r0
  obtain ⟨v2, vs2, d2, ds2, p2, q2, rfl, rfl, rfl, h2, r2⟩ := trodAll_cons r1
  obtain ⟨rfl, rfl, rfl⟩ := trodAll_nil r2
  obtain rfl : args = #[v0, v1, v2] := by cases args; simp_all
  obtain ⟨rfl, rfl⟩ := trodVars_none hV
  have h0k := h0
  have hlt0 : ∀ x ∈ p0, x.block < W.heap.size := fun x hx => by simpa using hW'.lt x (by simp [hx])
  obtain ⟨ck0, rfl, w0⟩ := ck_opened h0 (hval 0 23 v0 rfl rfl)
  have h1k := h1
  have hlt1 : ∀ x ∈ p1, x.block < W.heap.size := fun x hx => by simpa using hW'.lt x (by simp [hx])
  obtain ⟨ck1, rfl, w1⟩ := ck_opened h1 (hval 1 23 v1 rfl rfl)
  have h2k := h2
  have hlt2 : ∀ x ∈ p2, x.block < W.heap.size := fun x hx => by simpa using hW'.lt x (by simp [hx])
  obtain ⟨ck2, rfl, w2⟩ := ck_opened h2 (hval 2 23 v2 rfl rfl)
  clear hA0 hval0 hsz hsz0
  refine (walk ck0 ck1 ck2 w0 w1 w2 W hT).mono fun e W' ⟨he, bel⟩ => ?_
  subst he
  exact ⟨_, rfl, _, _, _, [], _, [], hW', trodAll_mk1 (shut_bool Tryd.underlying4 _), (trodAll_cons_mk (Below.trod Tryd.laidOutK (by kernel_rfl) (of_decide_eq_true (by kernel_rfl)) h0k bel hlt0) (trodAll_cons_mk (Below.trod Tryd.laidOutK (by kernel_rfl) (of_decide_eq_true (by kernel_rfl)) h1k bel hlt1) (trodAll_cons_mk (Below.trod Tryd.laidOutK (by kernel_rfl) (of_decide_eq_true (by kernel_rfl)) h2k bel hlt2) trodAll_mk0))), rfl, bel.frame _, fun h => by cases h⟩

theorem over : Rows.cookieGreaterRow.holds Tryd.pinned (OpenSpec.ofChange Rows.cookieGreaterSpec) :=
  OpenClaim.holds_of_wide 7 Tryd.f7 rfl rfl rfl rfl rfl rfl rfl ⟨rfl, rfl, rfl, rfl, rfl⟩ rfl rfl rfl rfl rfl (by kernel_rfl) Tryd.func7 (by kernel_rfl)
    (of_decide_eq_true (by kernel_rfl)) (by unfold Func.isWrapper; first | (rw [if_pos (by decide +kernel)]; kernel_rfl) | (rw [if_neg (by decide +kernel)]; exact ⟨rfl, rfl⟩))
    (fun os started H enc _ => lifted os started H enc)

set_option maxRecDepth 100000 in
theorem card : Rows.CookieGreaterCardSaid :=
  Claim7.holds_tied_plain_at .later [] _ true Rows.cookieGreaterCard.stood.harness false
    over (fun _ h => by cases h) (by kernel_rfl) (fun _ h => by cases h) cookieGreater_row_tie rfl ⟨rfl, rfl⟩ (by kernel_rfl) rfl
    (fun f fn hf hfn => by
      obtain rfl : f = 7 := Option.some.inj ((show Tryd.prog.funcNamed Rows.cookieGreaterRow.func = some 7 by kernel_rfl).symm.trans hf) |>.symm
      obtain rfl : fn = Tryd.f7 := (Option.some.inj (Tryd.func7.symm.trans hfn)).symm
      exact ⟨by kernel_rfl, fun j t ht => by
        rw [Tryd.params7] at ht
        have hm : t ∈ [23] := by first | (simpa using Array.mem_of_getElem? ht) | (have hq := Array.mem_of_getElem? ht; simp at hq ⊢; omega)
        have hall : ([23].all fun u => !Tryd.prog.wantsStandIn u) = true := by kernel_rfl
        exact (show Tryd.prog.wantsStandIn t = false by simpa using List.all_eq_true.1 hall t hm)⟩)
    (by kernel_rfl)

end Go.Proofs.YtkpdejnhjbojpaaDoor.cookieGreater
namespace Go.Proofs.YtkpdejnhjbojpaaDoor
/-- The statement. -/
theorem cookieGreater_proved : Rows.CookieGreaterCardSaid := cookieGreater.card
end Go.Proofs.YtkpdejnhjbojpaaDoor
