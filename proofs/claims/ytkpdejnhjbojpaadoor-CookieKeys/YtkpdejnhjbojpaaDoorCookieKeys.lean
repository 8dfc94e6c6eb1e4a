/-
  For all cookies a and b, cracknellaw13.CookieKeys(a, b) returns true and leaves them as they were. Conditions: none beyond the form's own (a string that is read takes at most 2^47 - 4096 bytes).
-/
import Derived.Test.YtkpdejnhjbojpaaDoorCkAlive
import Derived.Test.YtkpdejnhjbojpaaDoorCkBox
import Derived.Test.YtkpdejnhjbojpaaDoorCkEq
import Derived.Test.YtkpdejnhjbojpaaDoorBaseInv
import Derived.Test.YtkpdejnhjbojpaaDoorU8Laid
import Derived.Test.YtkpdejnhjbojpaaDoorTie
import Derived.Test.YtkpdejnhjbojpaaDoorCards
import Derived.SevenTiedAt
import Derived.LaidLaws
import Derived.Stop.Joined
import Derived.ProofKit
import Derived.OpenShut
import Derived.ShutString
import Derived.ChangeOld
import Derived.SizedLaws
namespace Go.Proofs.YtkpdejnhjbojpaaDoor.cookieKeys
open Go.ChangeShapes Go.WideShapes Go.ChangeAt Go.RowKit
open Go.ChangeMaps (open_string shut_string)
set_option linter.unusedVariables false

theorem own : ownKnob Tryd.prog.godebug = none := by kernel_rfl

theorem short_of {c : Ck} {P : Prop} (h : (c.dom.size ≤ maxLen ∧ c.path.size ≤ maxLen ∧ c.name.size ≤ maxLen ∧ c.val.size ≤ maxLen) ∧ P) : ShortC c := by
  unfold maxLen at h
  exact h.1

/-- Three texts lie in block g, and may be written. -/
def Rec3 (W : World) (g : Nat) (x y z : ByteArray) : Prop :=
  (W.cell? ⟨g, 0, none⟩ = some (.string x) ∧ W.cell? ⟨g, 1, none⟩ = some (.string y) ∧ W.cell? ⟨g, 2, none⟩ = some (.string z)) ∧ (W.frozen? ⟨g, 0, none⟩ = false ∧ W.frozen? ⟨g, 1, none⟩ = false ∧ W.frozen? ⟨g, 2, none⟩ = false)

theorem Rec3.lt {W : World} {g : Nat} {x y z : ByteArray} (h : Rec3 W g x y z) : g < W.heap.size := World.block_lt_of_cell? W ⟨g, 0, none⟩ h.1.1
theorem Rec3.keep {W W' : World} {g : Nat} {x y z : ByteArray} (h : Rec3 W g x y z) (hb : Below W.heap.size W W') : Rec3 W' g x y z := by
  have hg := h.lt
  obtain ⟨⟨c0, c1, c2⟩, f0, f1, f2⟩ := h
  have fz : ∀ j, W'.frozen? ⟨g, j, none⟩ = W.frozen? ⟨g, j, none⟩ := fun j => hb.frozen (p := ⟨g, j, none⟩) hg
  exact ⟨⟨by rw [hb.cell hg]; exact c0, by rw [hb.cell hg]; exact c1, by rw [hb.cell hg]; exact c2⟩, by rw [fz]; exact f0, by rw [fz]; exact f1, by rw [fz]; exact f2⟩
theorem Rec3.new (W : World) (x y z : ByteArray) (t : TypeId) : Rec3 (W.alloc (.cells #[.string x, .string y, .string z] t)) W.heap.size x y z := by
  refine ⟨⟨?_, ?_, ?_⟩, ?_, ?_, ?_⟩ <;> simp
/-- The three cells of block g are written. -/
abbrev set3 (W : World) (g : Nat) (x y z : ByteArray) : World := ((W.setCell ⟨g, 0, none⟩ (.string x)).setCell ⟨g, 1, none⟩ (.string y)).setCell ⟨g, 2, none⟩ (.string z)
theorem Rec3.set {W : World} {g : Nat} {x y z : ByteArray} (h : Rec3 W g x y z) (a b c : ByteArray) : Rec3 (set3 W g a b c) g a b c := by
  obtain ⟨⟨c0, c1, c2⟩, f0, f1, f2⟩ := h
  have o : ∀ (V : World) (i j : Nat) (u v : Value), V.cell? ⟨g, i, none⟩ = some u → i ≠ j → (V.setCell ⟨g, j, none⟩ v).cell? ⟨g, i, none⟩ = some u := fun V i j u v hu hij => by
    rw [World.cell?_setCell_other V _ _ _ (fun e => by injection e with _ e2 _; exact hij (by first | exact e2 | exact e2.symm))]; exact hu
  refine ⟨⟨o _ _ _ _ _ (o _ _ _ _ _ (World.cell?_setCell_same W _ _ c0) (by decide)) (by decide), o _ _ _ _ _ (World.cell?_setCell_same _ _ _ (o _ _ _ _ _ c1 (by decide))) (by decide), World.cell?_setCell_same _ _ _ (o _ _ _ _ _ (o _ _ _ _ _ c2 (by decide)) (by decide))⟩, ?_, ?_, ?_⟩ <;>
    (rw [World.frozen?_setCell, World.frozen?_setCell, World.frozen?_setCell]; assumption)
theorem set3_ne {W : World} {g b i : Nat} {u : Value} (h : W.cell? ⟨b, i, none⟩ = some u) (hne : b ≠ g) (x y z : ByteArray) : (set3 W g x y z).cell? ⟨b, i, none⟩ = some u := by
  have o : ∀ (V : World) (j : Nat) (v : Value), V.cell? ⟨b, i, none⟩ = some u → (V.setCell ⟨g, j, none⟩ v).cell? ⟨b, i, none⟩ = some u := fun V j v hu => by
    rw [World.cell?_setCell_other V _ _ _ (fun e => by injection e with e1 _ _; exact hne (by first | exact e1 | exact e1.symm))]; exact hu
  exact o _ _ _ (o _ _ _ (o _ _ _ h))
theorem Rec3.other {W : World} {g b : Nat} {x y z : ByteArray} (h : Rec3 W b x y z) (hne : b ≠ g) (p q r : ByteArray) : Rec3 (set3 W g p q r) b x y z := by
  obtain ⟨⟨c0, c1, c2⟩, f0, f1, f2⟩ := h
  refine ⟨⟨set3_ne c0 hne _ _ _, set3_ne c1 hne _ _ _, set3_ne c2 hne _ _ _⟩, ?_, ?_, ?_⟩ <;> (rw [World.frozen?_setCell, World.frozen?_setCell, World.frozen?_setCell]; assumption)
theorem ck_other {W : World} {g b : Nat} {c : Ck} (h : CkAt W b c) (hne : b ≠ g) (p q r : ByteArray) : CkAt (set3 W g p q r) b c := by
  obtain ⟨c0, c1, c2, c3, c4, c5, c6, c7, c8, c9, c10⟩ := h
  exact ⟨set3_ne c0 hne _ _ _, set3_ne c1 hne _ _ _, set3_ne c2 hne _ _ _, set3_ne c3 hne _ _ _, set3_ne c4 hne _ _ _, set3_ne c5 hne _ _ _, set3_ne c6 hne _ _ _, set3_ne c7 hne _ _ _, set3_ne c8 hne _ _ _, set3_ne c9 hne _ _ _, set3_ne c10 hne _ _ _⟩
theorem below_set3 {w W : World} {n g : Nat} (h : Below n w W) (hg : n ≤ g) (x y z : ByteArray) : Below n w (set3 W g x y z) :=
  ((h.setCell (p := ⟨g, 0, none⟩) hg _).setCell (p := ⟨g, 1, none⟩) hg _).setCell (p := ⟨g, 2, none⟩) hg _

/-- A block of three texts, which are those told once its writing has run. -/
def Slot3 (W : World) (n : Nat) (v : Value) (done : Bool) (x y z : ByteArray) : Prop :=
  ∃ g a b c, v = .pointer (some ⟨g, 0, none⟩) ∧ n + 2 ≤ g ∧ Rec3 W g a b c ∧ (done = true → a = x ∧ b = y ∧ c = z)

theorem Slot3.keep {W W' : World} {n : Nat} {v : Value} {d : Bool} {x y z : ByteArray} (h : Slot3 W n v d x y z) (hb : Below W.heap.size W W') : Slot3 W' n v d x y z := by
  obtain ⟨g, a, b, c, h1, h2, h3, h4⟩ := h
  exact ⟨g, a, b, c, h1, h2, h3.keep hb, h4⟩

/-- What the region that makes the keys holds, whatever has run. -/
structure KeysI (p q : Ck) (n : Nat) (w0 : World) (L : Nat → Bool) (v5 v6 v8 v9 v10 v11 : Value) (W : World) : Prop where
  ca : CkAt W n p
  cb : CkAt W (n + 1) q
  be : Below n w0 W
  sz : n + 2 ≤ W.heap.size
  h0 : L 0 = true → v8 = ckV p
  h1 : L 1 = true → v9 = keyV p.dom p.path p.name
  h2 : L 2 = true → v10 = ckV q
  h3 : L 3 = true → v11 = keyV q.dom q.path q.name
  h4 : L 4 = true → Slot3 W n v5 (L 6) p.dom p.path p.name
  h5 : L 5 = true → Slot3 W n v6 (L 7) q.dom q.path q.name
  ne : L 4 = true → L 5 = true → v5 ≠ v6
  k6 : L 6 = true → L 4 = true
  k7 : L 7 = true → L 5 = true

/-- The world grows, nothing else turns. -/
theorem KeysI.grow {p q : Ck} {n : Nat} {w0 : World} {L : Nat → Bool} {v5 v6 v8 v9 v10 v11 : Value} {W W' : World} (h : KeysI p q n w0 L v5 v6 v8 v9 v10 v11 W) (hb : Below W.heap.size W W') : KeysI p q n w0 L v5 v6 v8 v9 v10 v11 W' :=
  ⟨h.ca.keep hb, h.cb.keep hb, h.be.trans (hb.mono (by have := h.sz; omega)), Nat.le_trans h.sz hb.size, h.h0, h.h1, h.h2, h.h3, fun e => (h.h4 e).keep hb, fun e => (h.h5 e).keep hb, h.ne, h.k6, h.k7⟩

theorem Slot3.lt {W : World} {n : Nat} {v : Value} {d : Bool} {x y z : ByteArray} (h : Slot3 W n v d x y z) : v ≠ .pointer (some ⟨W.heap.size, 0, none⟩) := by
  obtain ⟨g, a, b, c, rfl, h2, h3, h4⟩ := h
  intro e
  injection e with e
  injection e with e
  injection e with e1 _ _
  have := h3.lt
  omega

theorem same_key (a b : Ck) : ∃ q, (cmpK a b = 0 ↔ q = true) ∧ ∀ W, Sem.run Tryd.prog (binOp BinOp.eql 27 (keyV a.dom a.path a.name) (keyV b.dom b.path b.name)) W = .ok (.bool q) W := by
  by_cases h : a.dom = b.dom ∧ a.path = b.path ∧ a.name = b.name
  · exact ⟨true, by simp [cmpK_zero, h], fun W => by rw [h.1, h.2.1, h.2.2]; exact key_eq_yes _ _ _ W⟩
  · refine ⟨false, ?_, fun W => key_eq_no _ _ _ _ _ _ h W⟩
    rw [cmpK_zero]
    constructor
    · intro h2; exact absurd h2 h
    · intro h2; cases h2
set_option maxRecDepth 100000 in
set_option maxHeartbeats 1600000 in
theorem walk (ck0 : Ck) (ck1 : Ck) (w0 : (ck0.dom.size ≤ maxLen ∧ ck0.path.size ≤ maxLen ∧ ck0.name.size ≤ maxLen ∧ ck0.val.size ≤ maxLen) ∧ (IntOk ck0.cr ∧ IntOk ck0.ac ∧ IntOk ck0.ex ∧ IntOk ck0.ss)) (w1 : (ck1.dom.size ≤ maxLen ∧ ck1.path.size ≤ maxLen ∧ ck1.name.size ≤ maxLen ∧ ck1.val.size ≤ maxLen) ∧ (IntOk ck1.cr ∧ IntOk ck1.ac ∧ IntOk ck1.ex ∧ IntOk ck1.ss)) (w : World) (hT : Tabs w) :
    Calls Tryd.prog 4 #[ckV ck0, ckV ck1] w fun e w' => e = .returned (.bool true) ∧ Below w.heap.size w w' := by
  have S0 := short_of w0
  have S1 := short_of w1
  clear w0 w1
  have hA := (CkAt.new w ck0 23).keep ((Below.refl _ _).alloc (Nat.le_refl _) (.cells (ckCells ck1) 23))
  have hB := CkAt.new (w.alloc (.cells (ckCells ck0) 23)) ck1 23
  have hb0 := ((Below.refl w.heap.size w).alloc (Nat.le_refl _) (.cells (ckCells ck0) 23)).alloc (by simp) (.cells (ckCells ck1) 23)
  rw [show ∀ o : Obj, (w.alloc o).heap.size = w.heap.size + 1 from fun o => by simp] at hB
  simp only [ckCells] at hA hB hb0
  have HO0 := Lib.hid (of_any ck0)
  have HO1 := Lib.hid (of_any ck1)
  have KA := Lib.hid (keycmp_any ck0 ck1 · S0 S1)
  have KB := Lib.hid (keycmp_any ck1 ck0 · S1 S0)
  obtain ⟨q, hq, hE⟩ := same_key ck0 ck1
  have h3 := ordK.three ck0 ck1
  have hE2 := rkey_eq_yes ck0.dom ck0.path ck0.name
  have RK := Lib.hid (rkeys_any ck0 ck1 · ⟨S0.1, S0.2.1, S0.2.2.1⟩ ⟨S1.1, S1.2.1, S1.2.2.1⟩)
  have RA := Lib.hid (rofk_any ck0)
  have RB := Lib.hid (rofk_any ck1)
  rw [ordK.anti ck0 ck1] at KB
  obtain ⟨m, hm⟩ : ∃ m, m = - cmpK ck0 ck1 := ⟨_, rfl⟩
  rw [← hm] at KB
  generalize cmpK ck0 ck1 = n at *
  have HX := Lib.hid (show (n = 0 ↔ q = true) ∧ (n = -1 ∨ n = 0 ∨ n = 1) ∧ m = -n from ⟨hq, h3, hm⟩)
  have HEE := Lib.hid hE
  have HEE2 := Lib.hid hE2
  clear hq h3 hm hE hE2
  have HA := Lib.hid hA
  have HB := Lib.hid hB
  have HB0 := Lib.hid hb0
  have HS0 := Lib.hid S0
  have HS1 := Lib.hid S1
  clear hA hB hb0 S0 S1
  go_enter Tryd.func4, Tryd.ntmps4
  go_wp2_with (with_reducible refine wp_halt ?_)
  refine Halt.on ?_
  refine wp_region_inv (fun L a W => ∃ v5 v6 v8 v9 v10 v11, a = { tmps := #[ckV ck0, ckV ck1, .pointer (some ⟨w.heap.size, 0, none⟩), .pointer (some ⟨w.heap.size + 1, 0, none⟩), .bool false, v5, v6, undef, v8, v9, v10, v11, undef, undef, undef, undef, undef, undef, undef, undef, undef, undef, undef, undef, undef, undef, undef, undef, undef, undef, undef, undef, undef, undef, undef, undef, undef, undef, undef, undef, undef, undef, undef, undef, undef, undef, undef], defers := [] } ∧ KeysI ck0 ck1 w.heap.size w L v5 v6 v8 v9 v10 v11 W) (by kernel_rfl) (by kernel_rfl) ?_ ?_ ?_
  · refine ⟨undef, undef, undef, undef, undef, undef, rfl, HA.out.keep (Below.refl _ _).drew, HB.out.keep (Below.refl _ _).drew, HB0.out.drew, by simp, ?_, ?_, ?_, ?_, ?_, ?_, ?_, ?_, ?_⟩ <;> (intro h; cases h)
  · intro i o ho L a W hI hn hdep K hK
    obtain ⟨v5, v6, v8, v9, v10, v11, rfl, hI⟩ := hI
    have HK := Lib.hid hK
    have HI := Lib.hid hI
    have hi : i < 8 := (Array.getElem?_eq_some_iff.1 ho).1
    clear hK hI HA HB HB0 KA KB RK RA RB HS0 HS1
    rcases (show i = 0 ∨ i = 1 ∨ i = 2 ∨ i = 3 ∨ i = 4 ∨ i = 5 ∨ i = 6 ∨ i = 7 from by omega) with rfl | rfl | rfl | rfl | rfl | rfl | rfl | rfl
    · simp only [List.getElem?_toArray, List.getElem?_cons_zero, Option.some.injEq] at ho
      subst ho
      obtain ⟨p0, p1, p2, p3, p4, p5, p6, p7, p8, p9, p10⟩ := HI.out.ca
      clear hdep hi
      go_simp
      refine HK.out.out _ _ ⟨v5, v6, _, v9, v10, v11, rfl, ?_⟩
      exact ⟨HI.out.ca, HI.out.cb, HI.out.be, HI.out.sz, fun _ => rfl, HI.out.h1, HI.out.h2, HI.out.h3, HI.out.h4, HI.out.h5, HI.out.ne, HI.out.k6, HI.out.k7⟩
    · simp only [List.getElem?_toArray, List.getElem?_cons_succ, List.getElem?_cons_zero, Option.some.injEq] at ho
      subst ho
      have d0 : L 0 = true := hdep ⟨0, Ground.data⟩ (by simp) rfl
      have e := HI.out.h0 d0
      subst e
      clear hdep hi
      go_simp
      refine (HO0.out _).mono ?_
      rintro _ W1 ⟨rfl, hb⟩
      go_wp2_with fail
      refine HK.out.out _ _ ⟨v5, v6, ckV ck0, _, v10, v11, rfl, ?_⟩
      have g := HI.out.grow hb
      exact ⟨g.ca, g.cb, g.be, g.sz, g.h0, fun _ => rfl, g.h2, g.h3, g.h4, g.h5, g.ne, g.k6, g.k7⟩
    · simp only [List.getElem?_toArray, List.getElem?_cons_succ, List.getElem?_cons_zero, Option.some.injEq] at ho
      subst ho
      obtain ⟨p0, p1, p2, p3, p4, p5, p6, p7, p8, p9, p10⟩ := HI.out.cb
      clear hdep hi
      go_simp
      refine HK.out.out _ _ ⟨v5, v6, v8, v9, _, v11, rfl, ?_⟩
      exact ⟨HI.out.ca, HI.out.cb, HI.out.be, HI.out.sz, HI.out.h0, HI.out.h1, fun _ => rfl, HI.out.h3, HI.out.h4, HI.out.h5, HI.out.ne, HI.out.k6, HI.out.k7⟩
    · simp only [List.getElem?_toArray, List.getElem?_cons_succ, List.getElem?_cons_zero, Option.some.injEq] at ho
      subst ho
      have d2 : L 2 = true := hdep ⟨2, Ground.data⟩ (by simp) rfl
      have e := HI.out.h2 d2
      subst e
      clear hdep hi
      go_simp
      refine (HO1.out _).mono ?_
      rintro _ W1 ⟨rfl, hb⟩
      go_wp2_with fail
      refine HK.out.out _ _ ⟨v5, v6, v8, v9, ckV ck1, _, rfl, ?_⟩
      have g := HI.out.grow hb
      exact ⟨g.ca, g.cb, g.be, g.sz, g.h0, g.h1, g.h2, fun _ => rfl, g.h4, g.h5, g.ne, g.k6, g.k7⟩
    · simp only [List.getElem?_toArray, List.getElem?_cons_succ, List.getElem?_cons_zero, Option.some.injEq] at ho
      subst ho
      clear hdep hi
      go_simp
      refine HK.out.out _ _ ⟨_, v6, v8, v9, v10, v11, rfl, ?_⟩
      have g := HI.out.grow ((Below.refl _ _).alloc (Nat.le_refl _) (.cells #[.string ByteArray.empty, .string ByteArray.empty, .string ByteArray.empty] 27))
      exact ⟨g.ca, g.cb, g.be, g.sz, g.h0, g.h1, g.h2, g.h3, fun _ => ⟨W.heap.size, _, _, _, rfl, HI.out.sz, Rec3.new W _ _ _ _, fun h6 => absurd (HI.out.k6 h6) (by rw [hn]; decide)⟩, g.h5, fun _ h5 => (HI.out.h5 h5).lt.symm, fun h => absurd (HI.out.k6 h) (by rw [hn]; decide), g.k7⟩
    · simp only [List.getElem?_toArray, List.getElem?_cons_succ, List.getElem?_cons_zero, Option.some.injEq] at ho
      subst ho
      clear hdep hi
      go_simp
      refine HK.out.out _ _ ⟨v5, _, v8, v9, v10, v11, rfl, ?_⟩
      have g := HI.out.grow ((Below.refl _ _).alloc (Nat.le_refl _) (.cells #[.string ByteArray.empty, .string ByteArray.empty, .string ByteArray.empty] 27))
      exact ⟨g.ca, g.cb, g.be, g.sz, g.h0, g.h1, g.h2, g.h3, g.h4, fun _ => ⟨W.heap.size, _, _, _, rfl, HI.out.sz, Rec3.new W _ _ _ _, fun h6 => absurd (HI.out.k7 h6) (by rw [hn]; decide)⟩, fun h4 _ => (HI.out.h4 h4).lt, g.k6, fun h => absurd (HI.out.k7 h) (by rw [hn]; decide)⟩
    · simp only [List.getElem?_toArray, List.getElem?_cons_succ, List.getElem?_cons_zero, Option.some.injEq] at ho
      subst ho
      have d4 : L 4 = true := hdep ⟨4, Ground.data⟩ (by simp) rfl
      have d1 : L 1 = true := hdep ⟨1, Ground.data⟩ (by simp) rfl
      have e := HI.out.h1 d1
      subst e
      obtain ⟨g, x, y, z, e, hg2, hr, _⟩ := HI.out.h4 d4
      subst e
      obtain ⟨⟨c0, c1, c2⟩, f0, f1, f2⟩ := id hr
      have HR := Lib.hid hr
      clear hr hdep hi
      go_simp
      refine HK.out.out _ _ ⟨_, v6, v8, _, v10, v11, rfl, ?_⟩
      have hne : ∀ h : L 5 = true, Slot3 (set3 W g ck0.dom ck0.path ck0.name) w.heap.size v6 (L 7) ck1.dom ck1.path ck1.name := fun h => by
        obtain ⟨k, x2, y2, z2, e, h2, h3, h4⟩ := HI.out.h5 h
        subst e
        refine ⟨k, x2, y2, z2, rfl, h2, h3.other (fun e => ?_) _ _ _, h4⟩
        subst e
        exact HI.out.ne d4 h rfl
      exact ⟨ck_other HI.out.ca (by omega) _ _ _, ck_other HI.out.cb (by omega) _ _ _, below_set3 HI.out.be (by omega) _ _ _, by simpa using HI.out.sz, HI.out.h0, HI.out.h1, HI.out.h2, HI.out.h3, fun _ => ⟨g, _, _, _, rfl, hg2, HR.out.set _ _ _, fun _ => ⟨rfl, rfl, rfl⟩⟩, hne, HI.out.ne, fun _ => d4, HI.out.k7⟩
    · simp only [List.getElem?_toArray, List.getElem?_cons_succ, List.getElem?_cons_zero, Option.some.injEq] at ho
      subst ho
      have d5 : L 5 = true := hdep ⟨5, Ground.data⟩ (by simp) rfl
      have d3 : L 3 = true := hdep ⟨3, Ground.data⟩ (by simp) rfl
      have e := HI.out.h3 d3
      subst e
      obtain ⟨g, x, y, z, e, hg2, hr, _⟩ := HI.out.h5 d5
      subst e
      obtain ⟨⟨c0, c1, c2⟩, f0, f1, f2⟩ := id hr
      have HR := Lib.hid hr
      clear hr hdep hi
      go_simp
      refine HK.out.out _ _ ⟨v5, _, v8, v9, v10, _, rfl, ?_⟩
      have hne : ∀ h : L 4 = true, Slot3 (set3 W g ck1.dom ck1.path ck1.name) w.heap.size v5 (L 6) ck0.dom ck0.path ck0.name := fun h => by
        obtain ⟨k, x2, y2, z2, e, h2, h3, h4⟩ := HI.out.h4 h
        subst e
        refine ⟨k, x2, y2, z2, rfl, h2, h3.other (fun e => ?_) _ _ _, h4⟩
        subst e
        exact HI.out.ne h d5 rfl
      exact ⟨ck_other HI.out.ca (by omega) _ _ _, ck_other HI.out.cb (by omega) _ _ _, below_set3 HI.out.be (by omega) _ _ _, by simpa using HI.out.sz, HI.out.h0, HI.out.h1, HI.out.h2, HI.out.h3, hne, fun _ => ⟨g, _, _, _, rfl, hg2, HR.out.set _ _ _, fun _ => ⟨rfl, rfl, rfl⟩⟩, HI.out.ne, HI.out.k6, fun _ => d5⟩
  · intro L a W hI hall
    obtain ⟨v5, v6, v8, v9, v10, v11, rfl, hI⟩ := hI
    obtain ⟨g, x, y, z, e, _, hg, hx⟩ := hI.h4 (hall 4 (by decide))
    obtain ⟨ex, ey, ez⟩ := hx (hall 6 (by decide))
    subst e ex ey ez
    obtain ⟨k, x, y, z, e, _, hk, hx⟩ := hI.h5 (hall 5 (by decide))
    obtain ⟨ex, ey, ez⟩ := hx (hall 7 (by decide))
    subst e ex ey ez
    have hA := hI.ca
    have hB := hI.cb
    have hb0 := hI.be
    clear hI hall HA HB HB0 HO0 HO1 HS0 HS1
    obtain ⟨⟨g0, g1, g2⟩, _⟩ := id hg
    obtain ⟨⟨k0, k1, k2⟩, _⟩ := id hk
    go_wp2_with fail
    with_reducible refine (KA.out _).mono ?_
    rintro _ w1 ⟨rfl, hb⟩
    have hb1 := chain hb0 hb
    replace hA := hA.keep hb
    replace hB := hB.keep hb
    replace hg := hg.keep hb
    replace hk := hk.keep hb
    clear hb hb0 g0 g1 g2 k0 k1 k2
    go_wp2_with (with_reducible refine wp_halt ?_)
    refine Halt.on ?_
    have p0 : ∀ x : Ext w1, x.world.cell? ⟨w.heap.size, 0, none⟩ = some (.string ck0.dom) := fun x => (hA.keep x.below).1
    have p1 : ∀ x : Ext w1, x.world.cell? ⟨w.heap.size, 1, none⟩ = some (.string ck0.path) := fun x => (hA.keep x.below).2.1
    have p2 : ∀ x : Ext w1, x.world.cell? ⟨w.heap.size, 2, none⟩ = some (.string ck0.name) := fun x => (hA.keep x.below).2.2.1
    have p3 : ∀ x : Ext w1, x.world.cell? ⟨w.heap.size, 3, none⟩ = some (.string ck0.val) := fun x => (hA.keep x.below).2.2.2.1
    have p4 : ∀ x : Ext w1, x.world.cell? ⟨w.heap.size, 4, none⟩ = some (.int .i64 ck0.cr) := fun x => (hA.keep x.below).2.2.2.2.1
    have p5 : ∀ x : Ext w1, x.world.cell? ⟨w.heap.size, 5, none⟩ = some (.int .i64 ck0.ac) := fun x => (hA.keep x.below).2.2.2.2.2.1
    have p6 : ∀ x : Ext w1, x.world.cell? ⟨w.heap.size, 6, none⟩ = some (.int .i64 ck0.ex) := fun x => (hA.keep x.below).2.2.2.2.2.2.1
    have p7 : ∀ x : Ext w1, x.world.cell? ⟨w.heap.size, 7, none⟩ = some (.bool ck0.ho) := fun x => (hA.keep x.below).2.2.2.2.2.2.2.1
    have p8 : ∀ x : Ext w1, x.world.cell? ⟨w.heap.size, 8, none⟩ = some (.bool ck0.se) := fun x => (hA.keep x.below).2.2.2.2.2.2.2.2.1
    have p9 : ∀ x : Ext w1, x.world.cell? ⟨w.heap.size, 9, none⟩ = some (.bool ck0.hp) := fun x => (hA.keep x.below).2.2.2.2.2.2.2.2.2.1
    have p10 : ∀ x : Ext w1, x.world.cell? ⟨w.heap.size, 10, none⟩ = some (.int .i64 ck0.ss) := fun x => (hA.keep x.below).2.2.2.2.2.2.2.2.2.2
    have q0 : ∀ x : Ext w1, x.world.cell? ⟨w.heap.size + 1, 0, none⟩ = some (.string ck1.dom) := fun x => (hB.keep x.below).1
    have q1 : ∀ x : Ext w1, x.world.cell? ⟨w.heap.size + 1, 1, none⟩ = some (.string ck1.path) := fun x => (hB.keep x.below).2.1
    have q2 : ∀ x : Ext w1, x.world.cell? ⟨w.heap.size + 1, 2, none⟩ = some (.string ck1.name) := fun x => (hB.keep x.below).2.2.1
    have q3 : ∀ x : Ext w1, x.world.cell? ⟨w.heap.size + 1, 3, none⟩ = some (.string ck1.val) := fun x => (hB.keep x.below).2.2.2.1
    have q4 : ∀ x : Ext w1, x.world.cell? ⟨w.heap.size + 1, 4, none⟩ = some (.int .i64 ck1.cr) := fun x => (hB.keep x.below).2.2.2.2.1
    have q5 : ∀ x : Ext w1, x.world.cell? ⟨w.heap.size + 1, 5, none⟩ = some (.int .i64 ck1.ac) := fun x => (hB.keep x.below).2.2.2.2.2.1
    have q6 : ∀ x : Ext w1, x.world.cell? ⟨w.heap.size + 1, 6, none⟩ = some (.int .i64 ck1.ex) := fun x => (hB.keep x.below).2.2.2.2.2.2.1
    have q7 : ∀ x : Ext w1, x.world.cell? ⟨w.heap.size + 1, 7, none⟩ = some (.bool ck1.ho) := fun x => (hB.keep x.below).2.2.2.2.2.2.2.1
    have q8 : ∀ x : Ext w1, x.world.cell? ⟨w.heap.size + 1, 8, none⟩ = some (.bool ck1.se) := fun x => (hB.keep x.below).2.2.2.2.2.2.2.2.1
    have q9 : ∀ x : Ext w1, x.world.cell? ⟨w.heap.size + 1, 9, none⟩ = some (.bool ck1.hp) := fun x => (hB.keep x.below).2.2.2.2.2.2.2.2.2.1
    have q10 : ∀ x : Ext w1, x.world.cell? ⟨w.heap.size + 1, 10, none⟩ = some (.int .i64 ck1.ss) := fun x => (hB.keep x.below).2.2.2.2.2.2.2.2.2.2
    have g0 : ∀ x : Ext w1, x.world.cell? ⟨g, 0, none⟩ = some (.string ck0.dom) := fun x => (hg.keep x.below).1.1
    have g1 : ∀ x : Ext w1, x.world.cell? ⟨g, 1, none⟩ = some (.string ck0.path) := fun x => (hg.keep x.below).1.2.1
    have g2 : ∀ x : Ext w1, x.world.cell? ⟨g, 2, none⟩ = some (.string ck0.name) := fun x => (hg.keep x.below).1.2.2
    have k0 : ∀ x : Ext w1, x.world.cell? ⟨k, 0, none⟩ = some (.string ck1.dom) := fun x => (hk.keep x.below).1.1
    have k1 : ∀ x : Ext w1, x.world.cell? ⟨k, 1, none⟩ = some (.string ck1.path) := fun x => (hk.keep x.below).1.2.1
    have k2 : ∀ x : Ext w1, x.world.cell? ⟨k, 2, none⟩ = some (.string ck1.name) := fun x => (hk.keep x.below).1.2.2
    obtain ⟨hq, h3, hm⟩ := HX.out
    have hE := HEE.out
    have hE2 := HEE2.out
    clear hA hB hg hk HX HEE HEE2 KA
    rcases h3 with rfl | rfl | rfl
    · have hm2 : m = 1 := by omega
      subst hm2
      have hq2 : q = false := by cases q with | true => exact absurd (hq.2 rfl) (by decide) | false => rfl
      subst hq2
      clear hm hq
      refine wp_region_ext (by kernel_rfl) (by kernel_rfl) ?_
      repeat (go_big_quiet_step (first
        | (go_at_call 10; with_reducible refine (alive_any _).mono ?_; rintro _ w2 ⟨rfl, hb2⟩; exact ⟨rfl, Ext.on _ hb2⟩)
        | (go_at_call 15; with_reducible refine (RA.out _).mono ?_; rintro _ w2 ⟨rfl, hb2⟩; exact ⟨rfl, Ext.on _ hb2⟩)
        | (go_at_call 15; with_reducible refine (RB.out _).mono ?_; rintro _ w2 ⟨rfl, hb2⟩; exact ⟨rfl, Ext.on _ hb2⟩)
        | (go_at_call 16; with_reducible refine (RK.out _).mono ?_; rintro _ w2 ⟨rfl, hb2⟩; exact ⟨rfl, Ext.on _ hb2⟩)
        | (go_at_call 14; with_reducible refine (KB.out _).mono ?_; rintro _ w2 ⟨rfl, hb2⟩; exact ⟨rfl, Ext.on _ hb2⟩)))
      refine wpQuiet_nil ?_
      rintro _ ⟨x, rfl⟩
      have hb4 := chain hb1 x.below
      go_wp2
      go_ret
      exact ⟨rfl, hb4⟩
    · have hm2 : m = 0 := by omega
      subst hm2
      have hq2 : q = true := hq.1 rfl
      subst hq2
      clear hm hq
      refine wp_region_ext (by kernel_rfl) (by kernel_rfl) ?_
      repeat (go_big_quiet_step (first
        | (go_at_call 10; with_reducible refine (alive_any _).mono ?_; rintro _ w2 ⟨rfl, hb2⟩; exact ⟨rfl, Ext.on _ hb2⟩)
        | (go_at_call 15; with_reducible refine (RA.out _).mono ?_; rintro _ w2 ⟨rfl, hb2⟩; exact ⟨rfl, Ext.on _ hb2⟩)
        | (go_at_call 15; with_reducible refine (RB.out _).mono ?_; rintro _ w2 ⟨rfl, hb2⟩; exact ⟨rfl, Ext.on _ hb2⟩)
        | (go_at_call 16; with_reducible refine (RK.out _).mono ?_; rintro _ w2 ⟨rfl, hb2⟩; exact ⟨rfl, Ext.on _ hb2⟩)
        | (go_at_call 14; with_reducible refine (KB.out _).mono ?_; rintro _ w2 ⟨rfl, hb2⟩; exact ⟨rfl, Ext.on _ hb2⟩)))
      refine wpQuiet_nil ?_
      rintro _ ⟨x, rfl⟩
      have hb4 := chain hb1 x.below
      go_wp2
      go_ret
      exact ⟨rfl, hb4⟩
    · have hm2 : m = -1 := by omega
      subst hm2
      have hq2 : q = false := by cases q with | true => exact absurd (hq.2 rfl) (by decide) | false => rfl
      subst hq2
      clear hm hq
      refine wp_region_ext (by kernel_rfl) (by kernel_rfl) ?_
      repeat (go_big_quiet_step (first
        | (go_at_call 10; with_reducible refine (alive_any _).mono ?_; rintro _ w2 ⟨rfl, hb2⟩; exact ⟨rfl, Ext.on _ hb2⟩)
        | (go_at_call 15; with_reducible refine (RA.out _).mono ?_; rintro _ w2 ⟨rfl, hb2⟩; exact ⟨rfl, Ext.on _ hb2⟩)
        | (go_at_call 15; with_reducible refine (RB.out _).mono ?_; rintro _ w2 ⟨rfl, hb2⟩; exact ⟨rfl, Ext.on _ hb2⟩)
        | (go_at_call 16; with_reducible refine (RK.out _).mono ?_; rintro _ w2 ⟨rfl, hb2⟩; exact ⟨rfl, Ext.on _ hb2⟩)
        | (go_at_call 14; with_reducible refine (KB.out _).mono ?_; rintro _ w2 ⟨rfl, hb2⟩; exact ⟨rfl, Ext.on _ hb2⟩)))
      refine wpQuiet_nil ?_
      rintro _ ⟨x, rfl⟩
      have hb4 := chain hb1 x.below
      go_wp2
      go_ret
      exact ⟨rfl, hb4⟩

set_option maxRecDepth 100000 in
theorem lifted (os : Os) (started : os.Started) (H : Type) (enc : TypeId × Value → H) :
    ReturnsInHanded {} Tryd.checked os 4 .any (fun w args => (Rows.cookieKeysSpec.pre enc Tryd.prog Tryd.f4 [] false w args ∧ laidMetH Tryd.prog listed w) ∧ sizedMet enc Tryd.prog Tryd.f4 (OpenSpec.ofChange Rows.cookieKeysSpec) false w args)
      (Rows.cookieKeysSpec.post enc Tryd.prog Tryd.f4 false true false false) := by
  refine returnsInHanded_of_change_and (C := Tryd.checked) (X := fun w _ => laidMetH Tryd.prog listed w) (fun _ _ _ hh h => h.of_heap hh) own started (by kernel_rfl) Tryd.func4
    (ChangeSpec.witness_shaped (enc := enc) (C := Tryd.checked) (os := os) (X := fun w _ => laidMetH Tryd.prog listed w) false (laidOver (World.holding Tryd.prog os ⟨#[], #[], []⟩)) #[.agg #[.string ByteArray.empty, .string ByteArray.empty, .string ByteArray.empty, .string ByteArray.empty, .int .i64 0, .int .i64 0, .int .i64 0, .bool false, .bool false, .bool false, .int .i64 0], .agg #[.string ByteArray.empty, .string ByteArray.empty, .string ByteArray.empty, .string ByteArray.empty, .int .i64 0, .int .i64 0, .int .i64 0, .bool false, .bool false, .bool false, .int .i64 0]] 8 rfl (World.shaped_of_RefB (by kernel_rfl) (by kernel_rfl)) (by kernel_rfl) (by kernel_rfl) (by kernel_rfl) (laid_over os _)) ?_
  intro W base args ds gs before hval0 hW hcnd hsz0 hL _
  have hT := tabs_listed hL
  have hval : ∀ (j : Nat) t v, Tryd.f4.params[j]? = some t → args[j]? = some v → Value.okWide Tryd.prog W .any base t v := hval0
  have hsz : (DataW.weightsEach Tryd.prog (Tryd.f4.params.toList ++ Rows.cookieKeysSpec.plain.varTypes Tryd.prog) (ds ++ gs)).all (· ≤ reachBytes) = true := hsz0
  have hW' := hW
  obtain ⟨p, q, hA0, hV, rfl, hfz, hnd⟩ := hW
  have hA : DataW.TrodAll enc Tryd.prog W 0 (fun _ => true) true Tryd.f4.params.toList args.toList ds p := hA0
  rw [Tryd.params4] at hA hval hsz
  obtain ⟨v0, vs0, d0, ds0, p0, q0, hargs, rfl, rfl, h0, r0⟩ := trodAll_cons hA
  obtain ⟨v1, vs1, d1, ds1, p1, q1, rfl, rfl, rfl, h1, r1⟩ := trodAll_cons r0
  obtain ⟨rfl, rfl, rfl⟩ := trodAll_nil r1
  obtain rfl : args = #[v0, v1] := by cases args; simp_all
  obtain ⟨rfl, rfl⟩ := trodVars_none hV
  have h0k := h0
  have hlt0 : ∀ x ∈ p0, x.block < W.heap.size := fun x hx => by simpa using hW'.lt x (by simp [hx])
  obtain ⟨ck0, rfl, w0⟩ := ck_opened h0 (hval 0 23 v0 rfl rfl)
  have h1k := h1
  have hlt1 : ∀ x ∈ p1, x.block < W.heap.size := fun x hx => by simpa using hW'.lt x (by simp [hx])
  obtain ⟨ck1, rfl, w1⟩ := ck_opened h1 (hval 1 23 v1 rfl rfl)
  clear hA0 hval0 hsz hsz0
  refine (walk ck0 ck1 w0 w1 W hT).mono fun e W' ⟨he, bel⟩ => ?_
  subst he
  exact ⟨_, rfl, _, _, _, [], _, [], hW', trodAll_mk1 (shut_bool Tryd.underlying4 _), (trodAll_cons_mk (Below.trod Tryd.laidOutK (by kernel_rfl) (of_decide_eq_true (by kernel_rfl)) h0k bel hlt0) (trodAll_cons_mk (Below.trod Tryd.laidOutK (by kernel_rfl) (of_decide_eq_true (by kernel_rfl)) h1k bel hlt1) trodAll_mk0)), rfl, bel.frame _, fun h => by cases h⟩

theorem over : Rows.cookieKeysRow.holds Tryd.pinned (OpenSpec.ofChange Rows.cookieKeysSpec) :=
  OpenClaim.holds_of_wide 4 Tryd.f4 rfl rfl rfl rfl rfl rfl rfl ⟨rfl, rfl, rfl, rfl, rfl⟩ rfl rfl rfl rfl rfl (by kernel_rfl) Tryd.func4 (by kernel_rfl)
    (of_decide_eq_true (by kernel_rfl)) (by unfold Func.isWrapper; first | (rw [if_pos (by decide +kernel)]; kernel_rfl) | (rw [if_neg (by decide +kernel)]; exact ⟨rfl, rfl⟩))
    (fun os started H enc _ => lifted os started H enc)

set_option maxRecDepth 100000 in
theorem card : Rows.CookieKeysCardSaid :=
  Claim7.holds_tied_plain_at .later [] _ true Rows.cookieKeysCard.stood.harness false
    over (fun _ h => by cases h) (by kernel_rfl) (fun _ h => by cases h) cookieKeys_row_tie rfl ⟨rfl, rfl⟩ (by kernel_rfl) rfl
    (fun f fn hf hfn => by
      obtain rfl : f = 4 := Option.some.inj ((show Tryd.prog.funcNamed Rows.cookieKeysRow.func = some 4 by kernel_rfl).symm.trans hf) |>.symm
      obtain rfl : fn = Tryd.f4 := (Option.some.inj (Tryd.func4.symm.trans hfn)).symm
      exact ⟨by kernel_rfl, fun j t ht => by
        rw [Tryd.params4] at ht
        have hm : t ∈ [23] := by first | (simpa using Array.mem_of_getElem? ht) | (have hq := Array.mem_of_getElem? ht; simp at hq ⊢; omega)
        have hall : ([23].all fun u => !Tryd.prog.wantsStandIn u) = true := by kernel_rfl
        exact (show Tryd.prog.wantsStandIn t = false by simpa using List.all_eq_true.1 hall t hm)⟩)
    (by kernel_rfl)

end Go.Proofs.YtkpdejnhjbojpaaDoor.cookieKeys
namespace Go.Proofs.YtkpdejnhjbojpaaDoor
/-- The statement. -/
theorem cookieKeys_proved : Rows.CookieKeysCardSaid := cookieKeys.card
end Go.Proofs.YtkpdejnhjbojpaaDoor
