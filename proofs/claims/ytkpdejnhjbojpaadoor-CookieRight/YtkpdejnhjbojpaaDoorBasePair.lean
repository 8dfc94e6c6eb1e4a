/-
  A region that makes two blocks and writes into each what a call has answered, in whatever order: rows of cells, and its invariant.
-/
import Derived.Test.YtkpdejnhjbojpaaDoorBaseInv
namespace Go.Proofs.YtkpdejnhjbojpaaDoor
open Go.RowKit
set_option linter.unusedVariables false

/-- A row of cells lies in block g, and may be written. -/
def RecL (W : World) (g : Nat) (l : List Value) : Prop :=
  (∀ i v, l[i]? = some v → W.cell? ⟨g, i, none⟩ = some v) ∧ (∀ i, W.frozen? ⟨g, i, none⟩ = false) ∧ g < W.heap.size

theorem RecL.keep {W W' : World} {g : Nat} {l : List Value} (h : RecL W g l) (hb : Below W.heap.size W W') : RecL W' g l := by
  obtain ⟨h1, h2, h3⟩ := h
  refine ⟨fun i v hv => ?_, fun i => ?_, Nat.lt_of_lt_of_le h3 hb.size⟩
  · rw [hb.cell h3]; exact h1 i v hv
  · rw [hb.frozen (p := ⟨g, i, none⟩) h3]; exact h2 i

theorem RecL.keepN {n : Nat} {W W' : World} {g : Nat} {l : List Value} (h : RecL W g l) (hg : g < n) (hb : Below n W W') : RecL W' g l := by
  obtain ⟨h1, h2, h3⟩ := h
  refine ⟨fun i v hv => ?_, fun i => ?_, Nat.lt_of_lt_of_le h3 hb.size⟩
  · rw [hb.cell hg]; exact h1 i v hv
  · rw [hb.frozen (p := ⟨g, i, none⟩) hg]; exact h2 i

theorem RecL.new (W : World) (l : List Value) (t : TypeId) : RecL (W.alloc (.cells l.toArray t)) W.heap.size l := by
  refine ⟨fun i v hv => ?_, fun i => World.frozen?_alloc_at _ _ _ _ rfl, by simp⟩
  rw [World.cell?_alloc_at _ _ _ _ rfl, List.getElem?_toArray]
  exact hv

/-- The cells of block g are written, one behind the other. -/
def setL (g : Nat) : Nat → List Value → World → World
  | _, [], W => W
  | i, v :: t, W => setL g (i + 1) t (W.setCell ⟨g, i, none⟩ v)

theorem setL_cell (g : Nat) : ∀ (l : List Value) (i : Nat) (W : World) (j : Nat) (u : Value), W.cell? ⟨g, j, none⟩ = some u →
    (setL g i l W).cell? ⟨g, j, none⟩ = some (if j < i then u else (l[j - i]?).getD u)
  | [], i, W, j, u, h => by simp [setL, h]
  | v :: t, i, W, j, u, h => by
    by_cases e : j = i
    · subst e
      have h2 : (W.setCell ⟨g, j, none⟩ v).cell? ⟨g, j, none⟩ = some v := World.cell?_setCell_same W _ _ h
      have := setL_cell g t (j + 1) _ j v h2
      rw [setL, this]
      simp
    · have h2 : (W.setCell ⟨g, i, none⟩ v).cell? ⟨g, j, none⟩ = some u := by
        rw [World.cell?_setCell_other W _ _ _ (fun q => by injection q with _ q2 _; exact e (by first | exact q2 | exact q2.symm))]; exact h
      have := setL_cell g t (i + 1) _ j u h2
      rw [setL, this]
      by_cases hlt : j < i
      · rw [if_pos (by omega), if_pos hlt]
      · rw [if_neg (by omega), if_neg hlt]
        obtain ⟨k, hk⟩ : ∃ k, j - i = k + 1 := ⟨j - i - 1, by omega⟩
        rw [hk, show j - (i + 1) = k by omega]
        rfl

theorem setL_ne (g : Nat) {b : Nat} (hne : b ≠ g) : ∀ (l : List Value) (i : Nat) (W : World) (j : Nat), (setL g i l W).cell? ⟨b, j, none⟩ = W.cell? ⟨b, j, none⟩
  | [], _, _, _ => rfl
  | v :: t, i, W, j => by
    rw [setL, setL_ne g hne t]
    exact World.cell?_setCell_other W _ _ _ (fun q => by injection q with q1 _ _; exact hne (by first | exact q1 | exact q1.symm))

theorem setL_frozen (g : Nat) (p : Addr) : ∀ (l : List Value) (i : Nat) (W : World), (setL g i l W).frozen? p = W.frozen? p
  | [], _, _ => rfl
  | v :: t, i, W => by rw [setL, setL_frozen g p t, World.frozen?_setCell]

theorem setL_size (g : Nat) : ∀ (l : List Value) (i : Nat) (W : World), (setL g i l W).heap.size = W.heap.size
  | [], _, _ => rfl
  | v :: t, i, W => by rw [setL, setL_size g t]; simp

theorem setL_below {w : World} {n : Nat} (g : Nat) (hg : n ≤ g) : ∀ (l : List Value) (i : Nat) (W : World), Below n w W → Below n w (setL g i l W)
  | [], _, _, h => h
  | v :: t, i, W, h => setL_below g hg t (i + 1) _ (h.setCell (p := ⟨g, i, none⟩) hg v)

theorem RecL.has {W : World} {g : Nat} {l : List Value} (h : RecL W g l) (i : Nat) (hi : i < l.length) : ∃ u, W.cell? ⟨g, i, none⟩ = some u := ⟨l[i], h.1 i _ (List.getElem?_eq_getElem hi)⟩

theorem RecL.set {W : World} {g : Nat} {l m : List Value} (h : RecL W g l) (hm : m.length = l.length) : RecL (setL g 0 m W) g m := by
  refine ⟨fun i v hv => ?_, fun i => by rw [setL_frozen]; exact h.2.1 i, by rw [setL_size]; exact h.2.2⟩
  obtain ⟨u, hu⟩ := h.has i (by rw [← hm]; exact (List.getElem?_eq_some_iff.1 hv).1)
  rw [setL_cell g m 0 W i u hu, if_neg (by omega), Nat.sub_zero, hv]
  rfl

theorem RecL.other {W : World} {g b : Nat} {l : List Value} (h : RecL W b l) (hne : b ≠ g) (m : List Value) : RecL (setL g 0 m W) b l :=
  ⟨fun i v hv => by rw [setL_ne g hne]; exact h.1 i v hv, fun i => by rw [setL_frozen]; exact h.2.1 i, by rw [setL_size]; exact h.2.2⟩

/-- A block of so many cells, which are those told once its writing has run. -/
def SlotL (W : World) (n : Nat) (v : Value) (done : Bool) (l : List Value) : Prop :=
  ∃ g o, v = .pointer (some ⟨g, 0, none⟩) ∧ n ≤ g ∧ o.length = l.length ∧ RecL W g o ∧ (done = true → o = l)

theorem SlotL.keep {W W' : World} {n : Nat} {v : Value} {d : Bool} {l : List Value} (h : SlotL W n v d l) (hb : Below W.heap.size W W') : SlotL W' n v d l := by
  obtain ⟨g, o, h1, h2, h3, h4, h5⟩ := h
  exact ⟨g, o, h1, h2, h3, h4.keep hb, h5⟩

theorem SlotL.lt {W : World} {n : Nat} {v : Value} {d : Bool} {l : List Value} (h : SlotL W n v d l) : v ≠ .pointer (some ⟨W.heap.size, 0, none⟩) := by
  obtain ⟨g, o, rfl, h2, h3, h4, h5⟩ := h
  intro e
  injection e with e
  injection e with e
  injection e with e1 _ _
  have := h4.2.2
  omega

/-- What such a region holds, whatever has run: G what is read, of the blocks below n; u0 u2 what is loaded, u1 u3 what the calls answer, la lb their cells. -/
structure PairI (G : World → Prop) (u0 u1 u2 u3 : Value) (la lb : List Value) (n m : Nat) (w0 : World) (L : Nat → Bool) (v0 v1 v2 v3 v4 v5 : Value) (W : World) : Prop where
  gg : ∀ W W', n ≤ W.heap.size → Below n W W' → G W → G W'
  g : G W
  be : Below m w0 W
  le : m ≤ n
  sz : n ≤ W.heap.size
  h0 : L 0 = true → v0 = u0
  h1 : L 1 = true → v1 = u1
  h2 : L 2 = true → v2 = u2
  h3 : L 3 = true → v3 = u3
  h4 : L 4 = true → SlotL W n v4 (L 6) la
  h5 : L 5 = true → SlotL W n v5 (L 7) lb
  ne : L 4 = true → L 5 = true → v4 ≠ v5
  k6 : L 6 = true → L 4 = true
  k7 : L 7 = true → L 5 = true

section
variable {G : World → Prop} {u0 u1 u2 u3 : Value} {la lb : List Value} {n m : Nat} {w0 : World} {L : Nat → Bool} {v0 v1 v2 v3 v4 v5 : Value} {W W' : World}

theorem PairI.start (gg : ∀ W W', n ≤ W.heap.size → Below n W W' → G W → G W') (g : G W) (be : Below m w0 W) (le : m ≤ n) (sz : n ≤ W.heap.size) : PairI G u0 u1 u2 u3 la lb n m w0 (fun _ => false) v0 v1 v2 v3 v4 v5 W.drew := by
  refine ⟨gg, gg _ _ sz (Below.refl _ _).drew g, be.drew, le, sz, ?_, ?_, ?_, ?_, ?_, ?_, ?_, ?_, ?_⟩ <;> (intro h; cases h)

theorem PairI.grow (h : PairI G u0 u1 u2 u3 la lb n m w0 L v0 v1 v2 v3 v4 v5 W) (hb : Below W.heap.size W W') : PairI G u0 u1 u2 u3 la lb n m w0 L v0 v1 v2 v3 v4 v5 W' :=
  ⟨h.gg, h.gg _ _ h.sz (hb.mono h.sz) h.g, h.be.trans (hb.mono (Nat.le_trans h.le h.sz)), h.le, Nat.le_trans h.sz hb.size, h.h0, h.h1, h.h2, h.h3, fun e => (h.h4 e).keep hb, fun e => (h.h5 e).keep hb, h.ne, h.k6, h.k7⟩

theorem PairI.s0 (h : PairI G u0 u1 u2 u3 la lb n m w0 L v0 v1 v2 v3 v4 v5 W) : PairI G u0 u1 u2 u3 la lb n m w0 (fun j => if j = 0 then true else L j) u0 v1 v2 v3 v4 v5 W :=
  ⟨h.gg, h.g, h.be, h.le, h.sz, fun _ => rfl, h.h1, h.h2, h.h3, h.h4, h.h5, h.ne, h.k6, h.k7⟩
theorem PairI.s1 (h : PairI G u0 u1 u2 u3 la lb n m w0 L v0 v1 v2 v3 v4 v5 W) (hb : Below W.heap.size W W') : PairI G u0 u1 u2 u3 la lb n m w0 (fun j => if j = 1 then true else L j) v0 u1 v2 v3 v4 v5 W' :=
  have g := h.grow hb
  ⟨g.gg, g.g, g.be, g.le, g.sz, g.h0, fun _ => rfl, g.h2, g.h3, g.h4, g.h5, g.ne, g.k6, g.k7⟩
theorem PairI.s2 (h : PairI G u0 u1 u2 u3 la lb n m w0 L v0 v1 v2 v3 v4 v5 W) : PairI G u0 u1 u2 u3 la lb n m w0 (fun j => if j = 2 then true else L j) v0 v1 u2 v3 v4 v5 W :=
  ⟨h.gg, h.g, h.be, h.le, h.sz, h.h0, h.h1, fun _ => rfl, h.h3, h.h4, h.h5, h.ne, h.k6, h.k7⟩
theorem PairI.s3 (h : PairI G u0 u1 u2 u3 la lb n m w0 L v0 v1 v2 v3 v4 v5 W) (hb : Below W.heap.size W W') : PairI G u0 u1 u2 u3 la lb n m w0 (fun j => if j = 3 then true else L j) v0 v1 v2 u3 v4 v5 W' :=
  have g := h.grow hb
  ⟨g.gg, g.g, g.be, g.le, g.sz, g.h0, g.h1, g.h2, fun _ => rfl, g.h4, g.h5, g.ne, g.k6, g.k7⟩
theorem PairI.s4 (h : PairI G u0 u1 u2 u3 la lb n m w0 L v0 v1 v2 v3 v4 v5 W) (hn : L 4 = false) (z : List Value) (t : TypeId) (hz : z.length = la.length) :
    PairI G u0 u1 u2 u3 la lb n m w0 (fun j => if j = 4 then true else L j) v0 v1 v2 v3 (.pointer (some ⟨W.heap.size, 0, none⟩)) v5 (W.alloc (.cells z.toArray t)) :=
  have g := h.grow ((Below.refl _ _).alloc (Nat.le_refl _) (.cells z.toArray t))
  ⟨g.gg, g.g, g.be, g.le, g.sz, g.h0, g.h1, g.h2, g.h3, fun _ => ⟨W.heap.size, z, rfl, h.sz, hz, RecL.new W z t, fun h6 => absurd (h.k6 h6) (by rw [hn]; decide)⟩, g.h5, fun _ e => (h.h5 e).lt.symm, fun e => absurd (h.k6 e) (by rw [hn]; decide), g.k7⟩
theorem PairI.s5 (h : PairI G u0 u1 u2 u3 la lb n m w0 L v0 v1 v2 v3 v4 v5 W) (hn : L 5 = false) (z : List Value) (t : TypeId) (hz : z.length = lb.length) :
    PairI G u0 u1 u2 u3 la lb n m w0 (fun j => if j = 5 then true else L j) v0 v1 v2 v3 v4 (.pointer (some ⟨W.heap.size, 0, none⟩)) (W.alloc (.cells z.toArray t)) :=
  have g := h.grow ((Below.refl _ _).alloc (Nat.le_refl _) (.cells z.toArray t))
  ⟨g.gg, g.g, g.be, g.le, g.sz, g.h0, g.h1, g.h2, g.h3, g.h4, fun _ => ⟨W.heap.size, z, rfl, h.sz, hz, RecL.new W z t, fun h6 => absurd (h.k7 h6) (by rw [hn]; decide)⟩, fun e _ => (h.h4 e).lt, g.k6, fun e => absurd (h.k7 e) (by rw [hn]; decide)⟩

theorem PairI.s6 {g : Nat} {o : List Value} (h : PairI G u0 u1 u2 u3 la lb n m w0 L v0 v1 v2 v3 (.pointer (some ⟨g, 0, none⟩)) v5 W) (hn : L 4 = true) (hg : n ≤ g) (hr : RecL W g o) (hl : o.length = la.length) :
    PairI G u0 u1 u2 u3 la lb n m w0 (fun j => if j = 6 then true else L j) v0 v1 v2 v3 (.pointer (some ⟨g, 0, none⟩)) v5 (setL g 0 la W) := by
  refine ⟨h.gg, h.gg _ _ h.sz (setL_below g hg la 0 W (Below.refl _ _)) h.g, setL_below g (Nat.le_trans h.le hg) la 0 W h.be, h.le, by rw [setL_size]; exact h.sz, h.h0, h.h1, h.h2, h.h3, fun _ => ⟨g, la, rfl, hg, rfl, hr.set hl.symm, fun _ => rfl⟩, fun e => ?_, h.ne, fun _ => hn, h.k7⟩
  obtain ⟨k, p, e1, e2, e3, e4, e5⟩ := h.h5 e
  refine ⟨k, p, e1, e2, e3, e4.other (fun q => ?_) la, e5⟩
  subst q
  exact h.ne hn e e1.symm
theorem PairI.s7 {g : Nat} {o : List Value} (h : PairI G u0 u1 u2 u3 la lb n m w0 L v0 v1 v2 v3 v4 (.pointer (some ⟨g, 0, none⟩)) W) (hn : L 5 = true) (hg : n ≤ g) (hr : RecL W g o) (hl : o.length = lb.length) :
    PairI G u0 u1 u2 u3 la lb n m w0 (fun j => if j = 7 then true else L j) v0 v1 v2 v3 v4 (.pointer (some ⟨g, 0, none⟩)) (setL g 0 lb W) := by
  refine ⟨h.gg, h.gg _ _ h.sz (setL_below g hg lb 0 W (Below.refl _ _)) h.g, setL_below g (Nat.le_trans h.le hg) lb 0 W h.be, h.le, by rw [setL_size]; exact h.sz, h.h0, h.h1, h.h2, h.h3, fun e => ?_, fun _ => ⟨g, lb, rfl, hg, rfl, hr.set hl.symm, fun _ => rfl⟩, h.ne, h.k6, fun _ => hn⟩
  obtain ⟨k, p, e1, e2, e3, e4, e5⟩ := h.h4 e
  refine ⟨k, p, e1, e2, e3, e4.other (fun q => ?_) lb, e5⟩
  subst q
  exact h.ne e hn e1

/-- When all has run. -/
theorem PairI.done (h : PairI G u0 u1 u2 u3 la lb n m w0 L v0 v1 v2 v3 v4 v5 W) (hall : ∀ j, j < 8 → L j = true) :
    v0 = u0 ∧ v1 = u1 ∧ v2 = u2 ∧ v3 = u3 ∧ ∃ g k, v4 = .pointer (some ⟨g, 0, none⟩) ∧ v5 = .pointer (some ⟨k, 0, none⟩) ∧ n ≤ g ∧ n ≤ k ∧ g ≠ k ∧ RecL W g la ∧ RecL W k lb ∧ G W ∧ Below m w0 W := by
  obtain ⟨g, o, e1, e2, e3, e4, e5⟩ := h.h4 (hall 4 (by decide))
  obtain ⟨k, p, d1, d2, d3, d4, d5⟩ := h.h5 (hall 5 (by decide))
  have e5 := e5 (hall 6 (by decide))
  have d5 := d5 (hall 7 (by decide))
  subst e5 d5
  refine ⟨h.h0 (hall 0 (by decide)), h.h1 (hall 1 (by decide)), h.h2 (hall 2 (by decide)), h.h3 (hall 3 (by decide)), g, k, e1, d1, e2, d2, fun e => ?_, e4, d4, h.g, h.be⟩
  have := h.ne (hall 4 (by decide)) (hall 5 (by decide))
  rw [e1, d1, e] at this
  exact this rfl
end
end Go.Proofs.YtkpdejnhjbojpaaDoor
