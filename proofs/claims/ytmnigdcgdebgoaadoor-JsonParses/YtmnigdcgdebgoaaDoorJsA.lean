/-
  The program's reader of json in memory: its three cells, its row of items, and what a call leaves as it was.
  The program's reader of json: stands, skip, sign, end.
  The program's reader of json: number.
  The program's reader of json: quoted, str.
  The program's reader of json: null, false, true.
  The program's reader of json: key.
  The program's reader of json: a member of an object.
-/
import Derived.Test.YtmnigdcgdebgoaaDoorPlainM
import Derived.Test.YtmnigdcgdebgoaaDoorBaseM
import Derived.Test.YtmnigdcgdebgoaaDoorBaseS
import Derived.Test.YtmnigdcgdebgoaaDoorMathN
import Derived.Test.YtmnigdcgdebgoaaDoorDecM
import Derived.Test.YtmnigdcgdebgoaaDoorQuoN
import Derived.Maps.AppendAt
import Derived.BigQuiet
import Derived.Deep.QuietTactic
import Derived.Deep.LoopGhost
import Derived.WalkMore
import Derived.Deep.RegionHeld3
import Derived.Deep.RegionLaw
import Derived.OwnWalk
import Derived.Laws.Pointers
namespace Go.Proofs.YtmnigdcgdebgoaaDoor
open Go.RowKit
set_option linter.unusedVariables false

/-- A text of such bytes. -/
def bytesOf (l : List UInt8) : ByteArray := ⟨l.toArray⟩
theorem bytesOf_list (s : ByteArray) : bytesOf s.data.toList = s := (ba_list s).symm
theorem list_bytesOf (l : List UInt8) : (bytesOf l).data.toList = l := by simp [bytesOf]

/-- An item's cells. -/
def itV (x : It) : List Value := [.int .i64 x.depth, .int .i64 x.kind, .string (bytesOf x.key), .string (bytesOf x.text), .int .i64 x.n]
def itsV (l : List It) : List Value := l.flatMap itV

theorem itsV_len (l : List It) : (itsV l).length = l.length * 5 := by
  induction l with
  | nil => rfl
  | cons x t ih =>
    show (itV x ++ itsV t).length = _
    rw [List.length_append, ih, List.length_cons]
    show 5 + _ = _
    omega
theorem itsV_app (l m : List It) : itsV (l ++ m) = itsV l ++ itsV m := List.flatMap_append
theorem itV_mk (d k n : Int) (key text : ByteArray) : itV ⟨d, k, key.data.toList, text.data.toList, n⟩ = [.int .i64 d, .int .i64 k, .string key, .string text, .int .i64 n] := by
  show [_, _, Value.string (bytesOf key.data.toList), Value.string (bytesOf text.data.toList), _] = _
  rw [bytesOf_list, bytesOf_list]

theorem itsV_get (l : List It) : ∀ (i : Nat) (hi : i < l.length) (j : Nat), j < 5 → (itsV l)[i * 5 + j]? = (itV l[i])[j]? := by
  induction l with
  | nil => intro i hi; cases hi
  | cons x t ih =>
    intro i hi j hj
    show (itV x ++ itsV t)[i * 5 + j]? = _
    cases i with
    | zero =>
      rw [List.getElem?_append_left (by show 0 * 5 + j < 5; omega)]
      simp
    | succ i =>
      rw [List.getElem?_append_right (by show 5 ≤ _; omega)]
      have e : (i + 1) * 5 + j - (itV x).length = i * 5 + j := by show _ - 5 = _; omega
      rw [e, ih i (by simpa using hi) j hj]
      rfl

/-- The slice v, made from block base on, holds the items l (of the program's type). -/
def RowP (w : World) (base : Nat) (v : Value) (l : List It) : Prop := w.ownsRow base 41 5 v l.length (itsV l)

theorem RowP.nil (w : World) (base : Nat) : RowP w base (.slice none 0 0) [] := World.ownsRow_nil w base 41 5
theorem RowP.kept {w w' : World} {base : Nat} {v : Value} {l : List It} {row : Option Nat} (h : RowP w base v l) (hg : w.grownBy w' row) (hne : v.ownBlock = none ∨ v.ownBlock ≠ row) : RowP w' base v l := World.ownsRow.kept h hg hne
theorem RowP.keep {w w' : World} {base : Nat} {v : Value} {l : List It} (h : RowP w base v l) (hb : Below w.heap.size w w') : RowP w' base v l :=
  h.kept (row := none) ⟨hb.os, hb.tape, hb.output, hb.size, fun k hk _ => hb.block k hk⟩ (by cases v.ownBlock <;> simp)
theorem RowP.lt {w : World} {base : Nat} {v : Value} {l : List It} (h : RowP w base v l) : ∀ k, v.ownBlock = some k → base ≤ k ∧ k < w.heap.size := World.ownsRow.lt h

/-- What a call leaves as it was: all blocks but those of C, and the row's. -/
structure Kp (C : Nat → Prop) (w w' : World) (v v' : Value) : Prop where
  os : w'.os = w.os
  tape : w'.tape = w.tape
  output : w'.output = w.output
  size : w.heap.size ≤ w'.heap.size
  block : ∀ i, i < w.heap.size → ¬ C i → some i ≠ v.ownBlock → w'.heap[i]? = w.heap[i]?
  own : v'.ownBlock = v.ownBlock ∨ ∃ g, v'.ownBlock = some g ∧ w.heap.size ≤ g

theorem Kp.refl (C : Nat → Prop) (w : World) (v : Value) : Kp C w w v v := ⟨rfl, rfl, rfl, Nat.le_refl _, fun _ _ _ _ => rfl, .inl rfl⟩
theorem Kp.trans {C : Nat → Prop} {w w1 w2 : World} {v v1 v2 : Value} (h : Kp C w w1 v v1) (k : Kp C w1 w2 v1 v2) : Kp C w w2 v v2 := by
  refine ⟨k.os.trans h.os, k.tape.trans h.tape, k.output.trans h.output, Nat.le_trans h.size k.size, fun i hi hc hv => ?_, ?_⟩
  · refine (k.block i (Nat.lt_of_lt_of_le hi h.size) hc ?_).trans (h.block i hi hc hv)
    rcases h.own with e | ⟨g, e, hg⟩
    · rw [e]; exact hv
    · rw [e]
      intro h2
      have := Option.some.inj h2
      omega
  · rcases k.own with e | ⟨g, e, hg⟩
    · rcases h.own with e1 | ⟨g, e1, hg⟩
      · exact .inl (e.trans e1)
      · exact .inr ⟨g, e.trans e1, hg⟩
    · exact .inr ⟨g, e, Nat.le_trans h.size hg⟩
theorem Kp.mono {C D : Nat → Prop} {w w' : World} {v v' : Value} (h : Kp C w w' v v') (hCD : ∀ i, i < w.heap.size → C i → D i) : Kp D w w' v v' :=
  ⟨h.os, h.tape, h.output, h.size, fun i hi hc hv => h.block i hi (fun c => hc (hCD i hi c)) hv, h.own⟩
theorem Kp.of_below {C : Nat → Prop} {w w' : World} {v : Value} (h : Below w.heap.size w w') : Kp C w w' v v :=
  ⟨h.os, h.tape, h.output, h.size, fun i hi _ _ => h.block i hi, .inl rfl⟩
theorem Kp.alloc (C : Nat → Prop) (w : World) (v : Value) (o : Obj) : Kp C w (w.alloc o) v v := Kp.of_below ((Below.refl _ _).alloc (Nat.le_refl _) o)
theorem Kp.setCell {C : Nat → Prop} (w : World) (v : Value) (a : Addr) (u : Value) (hC : C a.block) : Kp C w (w.setCell a u) v v :=
  ⟨rfl, rfl, rfl, by simp, fun i _ hc _ => Below.heap_setCell _ _ _ _ (fun e => hc (e ▸ hC)), .inl rfl⟩
theorem Kp.grown {C : Nat → Prop} {w w' : World} {v v' : Value} (h : w.grownBy w' v.ownBlock) (hv : v'.ownBlock = v.ownBlock ∨ v'.ownBlock = some w.heap.size) : Kp C w w' v v' :=
  ⟨h.os, h.tape, h.output, h.size, fun i hi _ hne => h.block i hi hne, hv.imp id fun e => ⟨_, e, Nat.le_refl _⟩⟩
/-- Nothing below X is touched. -/
theorem Kp.below {C : Nat → Prop} {w w' : World} {v v' : Value} {X : Nat} (h : Kp C w w' v v') (hC : ∀ i, C i → X ≤ i) (hv : ∀ k, v.ownBlock = some k → X ≤ k) (hX : X ≤ w.heap.size) : Below X w w' :=
  ⟨h.os, h.tape, h.output, h.size, fun i hi => h.block i (by omega) (fun c => by have := hC i c; omega) (fun e => by have := hv i e.symm; omega)⟩
theorem Kp.cell {C : Nat → Prop} {w w' : World} {v v' : Value} {p : Addr} (h : Kp C w w' v v') (hp : p.block < w.heap.size) (hC : ¬ C p.block) (hv : some p.block ≠ v.ownBlock) : w'.cell? p = w.cell? p := World.cell?_of_block (h.block _ hp hC hv)

/-- The reader, in block X: its text, how far it has come, its row. -/
structure Rd (w : World) (X : Nat) (s : ByteArray) (at_ : Nat) (v : Value) (l : List It) : Prop where
  c0 : w.cell? ⟨X, 0, none⟩ = some (.string s)
  c1 : w.cell? ⟨X, 1, none⟩ = some (.int .i64 (at_ : Int))
  c2 : w.cell? ⟨X, 2, none⟩ = some v
  f1 : w.frozen? ⟨X, 1, none⟩ = false
  f2 : w.frozen? ⟨X, 2, none⟩ = false
  row : RowP w (X + 1) v l

theorem Rd.lt {w : World} {X : Nat} {s : ByteArray} {at_ : Nat} {v : Value} {l : List It} (h : Rd w X s at_ v l) : X < w.heap.size := World.block_lt_of_cell? w ⟨X, 0, none⟩ h.c0
theorem Rd.own {w : World} {X : Nat} {s : ByteArray} {at_ : Nat} {v : Value} {l : List It} (h : Rd w X s at_ v l) : ∀ k, v.ownBlock = some k → X ≤ k := fun k hk => by have := (h.row.lt k hk).1; omega
theorem Rd.ne {w : World} {X : Nat} {s : ByteArray} {at_ : Nat} {v : Value} {l : List It} (h : Rd w X s at_ v l) : some X ≠ v.ownBlock := fun e => by have := (h.row.lt X e.symm).1; omega
theorem Rd.keep {w w' : World} {X : Nat} {s : ByteArray} {at_ : Nat} {v : Value} {l : List It} (h : Rd w X s at_ v l) (hb : Below w.heap.size w w') : Rd w' X s at_ v l :=
  ⟨(hb.cell (p := ⟨X, 0, none⟩) h.lt).trans h.c0, (hb.cell (p := ⟨X, 1, none⟩) h.lt).trans h.c1, (hb.cell (p := ⟨X, 2, none⟩) h.lt).trans h.c2, (hb.frozen (p := ⟨X, 1, none⟩) h.lt).trans h.f1, (hb.frozen (p := ⟨X, 2, none⟩) h.lt).trans h.f2, h.row.keep hb⟩
theorem Rd.alloc {w : World} {X : Nat} {s : ByteArray} {at_ : Nat} {v : Value} {l : List It} (h : Rd w X s at_ v l) (o : Obj) : Rd (w.alloc o) X s at_ v l := h.keep ((Below.refl _ _).alloc (Nat.le_refl _) o)

/-- Another block than the reader's, and the row's, is written. -/
theorem Rd.other {w : World} {X : Nat} {s : ByteArray} {at_ : Nat} {v : Value} {l : List It} (h : Rd w X s at_ v l) (a : Addr) (u : Value) (ha : a.block ≠ X) (hv : some a.block ≠ v.ownBlock) : Rd (w.setCell a u) X s at_ v l := by
  have e : ∀ o, (w.setCell a u).cell? ⟨X, o, none⟩ = w.cell? ⟨X, o, none⟩ := fun o => World.cell?_setCell_other w _ _ _ (fun h => ha (by rw [h]))
  refine ⟨(e 0).trans h.c0, (e 1).trans h.c1, (e 2).trans h.c2, by rw [World.frozen?_setCell]; exact h.f1, by rw [World.frozen?_setCell]; exact h.f2, h.row.kept (row := some a.block) ⟨rfl, rfl, rfl, by simp, fun k _ hk => Below.heap_setCell _ _ _ _ (fun e => hk (by rw [e]))⟩ (.inr (fun e => hv e.symm))⟩

/-- How far it has come is written. -/
theorem Rd.move {w : World} {X : Nat} {s : ByteArray} {at_ : Nat} {v : Value} {l : List It} (h : Rd w X s at_ v l) (n : Nat) (i : Int) (hi : i = (n : Int)) : Rd (w.setCell ⟨X, 1, none⟩ (.int .i64 i)) X s n v l := by
  subst hi
  refine ⟨?_, ?_, ?_, ?_, ?_, ?_⟩
  · rw [World.cell?_setCell_other w _ _ _ (by simp)]; exact h.c0
  · exact World.cell?_setCell_same w _ _ h.c1
  · rw [World.cell?_setCell_other w _ _ _ (by simp)]; exact h.c2
  · rw [World.frozen?_setCell]; exact h.f1
  · rw [World.frozen?_setCell]; exact h.f2
  · exact h.row.kept (row := some X) ⟨rfl, rfl, rfl, by simp, fun k _ hk => Below.heap_setCell _ _ _ _ (fun e => hk (by rw [e]))⟩ (.inr (fun e => h.ne e.symm))

theorem Tryd.infoItP : (Tryd.prog.info? 41).map (fun i => (i.zero, i.size, i.bytes)) = some (some (.agg #[.int .i64 0, .int .i64 0, .string ByteArray.empty, .string ByteArray.empty, .int .i64 0]), 5, 56) := by kernel_rfl

/-- append of one item to the reader's row, and the row written. -/
theorem push_run {w : World} {X : Nat} {s : ByteArray} {at_ : Nat} {v : Value} {l : List It} (h : Rd w X s at_ v l) (x : It) (g : Nat) (hx : ∀ j u, (itV x)[j]? = some u → w.cell? ⟨g, j, none⟩ = some u) (ty : TypeId) (hl : (l.length + 1) * 56 ≤ 140737488355328) :
    ∃ v' w', (Builtin.append_ #[25, 25] ty #[v, .slice (some ⟨g, 0, none⟩) 1 1]).run Tryd.prog w = .ok v' w' ∧
      w'.cell? ⟨X, 2, none⟩ = some v ∧ w'.frozen? ⟨X, 2, none⟩ = false ∧ Rd (w'.setCell ⟨X, 2, none⟩ v') X s at_ v' (l ++ [x]) ∧ Kp (· = X) w (w'.setCell ⟨X, 2, none⟩ v') v v' ∧ w.grownBy w' v.ownBlock := by
  obtain ⟨i0, hi, hz0, hz1, hz2⟩ := info_parts Tryd.infoItP
  have hlt := h.lt
  obtain ⟨v', w', hr, hown, hg, _, hat⟩ := run_append_own_at (P := Tryd.prog) w (X + 1) 25 ty 41 i0 _ 5 56 Tryd.underlying25 hi hz0 hz1 hz2 rfl (by decide) v l.length (itsV l) h.row ⟨g, 0, none⟩ 1 1 (itV x) (by rfl) (by
      intro j u hj
      have e2 : (⟨g, 0, none⟩ : Addr).add j = ⟨g, j, none⟩ := by cases j <;> simp [Addr.add]
      rw [e2]
      exact hx j u hj) (by
      intro u hu
      unfold itV at hu
      simp only [List.mem_cons, List.not_mem_nil, or_false] at hu
      rcases hu with rfl | rfl | rfl | rfl | rfl <;> rfl) (by unfold maxLen; omega) (by omega) (by omega)
  have hne := h.ne
  have hkp := Kp.grown (C := (· = X)) hg hat
  have c0 := hg.cell h.c0 (by simpa using hne)
  have c1 := hg.cell h.c1 (by simpa using hne)
  have c2 := hg.cell h.c2 (by simpa using hne)
  have fr : ∀ o, w'.frozen? ⟨X, o, none⟩ = w.frozen? ⟨X, o, none⟩ := fun o => World.frozen?_of_block (hg.block X hlt (by simpa using hne))
  have hrow : RowP w' (X + 1) v' (l ++ [x]) := by
    show w'.ownsRow (X + 1) 41 5 v' (l ++ [x]).length (itsV (l ++ [x]))
    rw [List.length_append, itsV_app]
    have : itsV [x] = itV x := by simp [itsV]
    rw [this]
    exact hown
  have hne' : some X ≠ v'.ownBlock := fun e => by have := (hrow.lt X e.symm).1; omega
  refine ⟨v', w', hr, c2, (fr 2).trans h.f2, ⟨?_, ?_, ?_, ?_, ?_, ?_⟩, hkp.trans (Kp.setCell (C := (· = X)) w' v' ⟨X, 2, none⟩ v' rfl), hg⟩
  · rw [World.cell?_setCell_other w' _ _ _ (by simp)]; exact c0
  · rw [World.cell?_setCell_other w' _ _ _ (by simp)]; exact c1
  · exact World.cell?_setCell_same w' _ _ c2
  · rw [World.frozen?_setCell]; exact (fr 1).trans h.f1
  · rw [World.frozen?_setCell]; exact (fr 2).trans h.f2
  · exact hrow.kept (row := some X) ⟨rfl, rfl, rfl, by simp, fun k _ hk => Below.heap_setCell _ _ _ _ (fun e => hk (by rw [e]))⟩ (.inr (fun e => hne' e.symm))

/-- An item in a block of its own. -/
structure Box (w : World) (B : Nat) (a b c d e : Value) : Prop where
  at_ : w.heap[B]? = some (.cells #[a, b, c, d, e] 41 (0, 0))

theorem Box.new (w : World) (a b c d e : Value) : Box (w.alloc (.cells #[a, b, c, d, e] 41)) w.heap.size a b c d e := ⟨heap_alloc_new w _⟩
theorem Box.lt {w : World} {B : Nat} {a b c d e : Value} (h : Box w B a b c d e) : B < w.heap.size := (Array.getElem?_eq_some_iff.1 h.at_).1
theorem Box.keep {w w' : World} {B : Nat} {a b c d e : Value} (h : Box w B a b c d e) (hb : Below w.heap.size w w') : Box w' B a b c d e := ⟨(hb.block B h.lt).trans h.at_⟩
theorem Box.kp {C : Nat → Prop} {w w' : World} {v v' : Value} {B : Nat} {a b c d e : Value} (h : Box w B a b c d e) (hk : Kp C w w' v v') (hC : ¬ C B) (hv : some B ≠ v.ownBlock) : Box w' B a b c d e := ⟨(hk.block B h.lt hC hv).trans h.at_⟩
theorem Box.cell {w : World} {B : Nat} {a b c d e : Value} (h : Box w B a b c d e) (j : Nat) : w.cell? ⟨B, j, none⟩ = #[a, b, c, d, e][j]? := cell_of_row w B j _ _ _ h.at_
theorem Box.cells {w : World} {B : Nat} {a b c d e : Value} (h : Box w B a b c d e) : w.cell? ⟨B, 0, none⟩ = some a ∧ w.cell? ⟨B, 1, none⟩ = some b ∧ w.cell? ⟨B, 2, none⟩ = some c ∧ w.cell? ⟨B, 3, none⟩ = some d ∧ w.cell? ⟨B, 4, none⟩ = some e := ⟨h.cell 0, h.cell 1, h.cell 2, h.cell 3, h.cell 4⟩
theorem Box.frozen {w : World} {B : Nat} {a b c d e : Value} (h : Box w B a b c d e) (j : Nat) : w.frozen? ⟨B, j, none⟩ = false := by
  have := h.at_
  simp [World.frozen?, this]
theorem Box.other {w : World} {B : Nat} {a b c d e : Value} (h : Box w B a b c d e) (p : Addr) (u : Value) (hp : p.block ≠ B) : Box (w.setCell p u) B a b c d e := ⟨(Below.heap_setCell _ _ _ _ (fun h => hp h.symm)).trans h.at_⟩
theorem Box.set {w : World} {B : Nat} {a b c d e : Value} (h : Box w B a b c d e) (u : Value) : Box (w.setCell ⟨B, 1, none⟩ u) B a u c d e ∧ Box (w.setCell ⟨B, 2, none⟩ u) B a b u d e ∧ Box (w.setCell ⟨B, 3, none⟩ u) B a b c u e ∧ Box (w.setCell ⟨B, 4, none⟩ u) B a b c d u := by
  have hh := h.at_
  refine ⟨⟨?_⟩, ⟨?_⟩, ⟨?_⟩, ⟨?_⟩⟩ <;> simp [World.setCell, Array.getElem?_modify, hh]
/-- Another block than the reader's, and the row's. -/
theorem Rd.apart {w : World} {X : Nat} {s : ByteArray} {at_ : Nat} {v : Value} {l : List It} (h : Rd w X s at_ v l) : w.heap.size ≠ X ∧ some w.heap.size ≠ v.ownBlock := by
  refine ⟨by have := h.lt; omega, fun e => ?_⟩
  have := (h.row.lt _ e.symm).2
  omega

/-- .. of an item that was laid in a new block, in a region that draws. -/
theorem push_new {w : World} {X : Nat} {s : ByteArray} {at_ : Nat} {v : Value} {l : List It} (h : Rd w X s at_ v l) (d k n : Int) (key text : ByteArray) (hl : l.length ≤ 1000000) :
    ∃ ao m c w', (Builtin.append_ #[25, 25] 25 #[v, .slice (some ⟨w.heap.size, 0, none⟩) 1 1]).run Tryd.prog ((w.alloc (.cells #[.int .i64 d, .int .i64 k, .string key, .string text, .int .i64 n] 41)).drew) = .ok (.slice ao m c) w' ∧
      w'.cell? ⟨X, 2, none⟩ = some v ∧ w'.frozen? ⟨X, 2, none⟩ = false ∧ Rd (w'.setCell ⟨X, 2, none⟩ (.slice ao m c)) X s at_ (.slice ao m c) (l ++ [⟨d, k, key.data.toList, text.data.toList, n⟩]) ∧ Kp (· = X) w (w'.setCell ⟨X, 2, none⟩ (.slice ao m c)) v (.slice ao m c) ∧ ((w.alloc (.cells #[.int .i64 d, .int .i64 k, .string key, .string text, .int .i64 n] 41)).drew).grownBy w' v.ownBlock := by
  have hb := ((Below.refl w.heap.size w).alloc (Nat.le_refl _) (.cells #[.int .i64 d, .int .i64 k, .string key, .string text, .int .i64 n] 41)).drew
  obtain ⟨v', w', h1, h2, h3, h4, h5, h6⟩ := push_run (h.keep hb) ⟨d, k, key.data.toList, text.data.toList, n⟩ w.heap.size (by
    intro j u hj
    rw [itV_mk] at hj
    have e := cell_of_row ((w.alloc (.cells #[.int .i64 d, .int .i64 k, .string key, .string text, .int .i64 n] 41)).drew) w.heap.size j #[.int .i64 d, .int .i64 k, .string key, .string text, .int .i64 n] 41 (0, 0) (heap_alloc_new w _)
    rw [e]
    simpa using hj) 25 (by omega)
  have hv : ∃ ao m c, v' = .slice ao m c := by
    rcases h4.row with ⟨_, ⟨rfl, _⟩ | ⟨g, cap, cur, rfl, _⟩⟩
    · exact ⟨_, _, _, rfl⟩
    · exact ⟨_, _, _, rfl⟩
  obtain ⟨ao, m, c, rfl⟩ := hv
  exact ⟨ao, m, c, w', h1, h2, h3, h4, (Kp.of_below hb).trans h5, h6⟩

theorem box_pushed {w w' : World} {v : Value} {B : Nat} {a b c d e : Value} {o : Obj} (h : Box w B a b c d e) (hg : ((w.alloc o).drew).grownBy w' v.ownBlock) (hv : some B ≠ v.ownBlock) : Box w' B a b c d e := by
  have hl := h.lt
  refine ⟨(hg.block B (by show B < (w.alloc o).heap.size; simp; omega) hv).trans ?_⟩
  exact (heap_alloc_old w o hl).trans h.at_

/-- An append whose run is known, in a region that draws. -/
theorem step_append_run {P : Program} {w : World} {ops : Array Oper} {o : Oper} {a : Act} {K : Act → World → Prop} {Q : Exit → Act → World → Prop} {E : Prop} (hw : Region.wanted o (yielded ops a.tmps) = true) (s x : Operand) (t : TypeId)
    (ho : o.op = .call { callee := .builtin .append, args := #[s, x], argTypes := #[t, t] }) {v1 v2 v' : Value} {w' : World} (hs : a.eval s = v1) (hx : a.eval x = v2)
    (hrun : (Builtin.append_ #[t, t] o.type #[v1, v2]).run P w = .ok v' w') (h : K (a.put o.dst v') w') : if Region.wanted o (yielded ops a.tmps) = true then Oper.wp P o a w K Q else E := by
  rw [if_pos hw]
  unfold Oper.wp
  simp [execOp, ho, resolve, invoke, builtin, hs, hx, hrun, Result.andThen]
  exact h
end Go.Proofs.YtmnigdcgdebgoaaDoor
namespace Go.Proofs.YtmnigdcgdebgoaaDoor
open Go.RowKit
set_option linter.unusedVariables false

/-- Does a text begin with one of those bytes? -/
def standsL (those : List UInt8) : List UInt8 → Bool
  | [] => false
  | c :: _ => those.contains c

/-- What is left of a text from a place on. -/
def restB (s : ByteArray) (k : Nat) : List UInt8 := s.data.toList.drop k

theorem restB_cons (s : ByteArray) (k : Nat) (h : k < s.size) : restB s k = s[k] :: restB s (k + 1) := by
  unfold restB
  rw [List.drop_eq_getElem_cons (by simpa using h), bget s k h]
theorem restB_nil (s : ByteArray) (k : Nat) (h : ¬ k < s.size) : restB s k = [] := by
  unfold restB
  exact List.drop_eq_nil_of_le (by rw [list_len]; omega)
theorem restB_len (s : ByteArray) (k : Nat) : (restB s k).length = s.size - k := by
  unfold restB
  rw [List.length_drop, list_len]

set_option maxRecDepth 100000 in
set_option maxHeartbeats 800000 in
theorem stands_any {w : World} {X : Nat} {s : ByteArray} {k : Nat} {v : Value} {l : List It} (h : Rd w X s k v l) (those : ByteArray) (b : Bool) (hb : standsL those.data.toList (restB s k) = b) (hs : s.size ≤ 1000000) :
    Calls Tryd.prog 60 #[.pointer (some ⟨X, 0, none⟩), .string those] w fun e w' => e = .returned (.bool b) ∧ Below w.heap.size w w' := by
  have hx0 : ∀ x : Ext w, x.world.cell? ⟨X, 0, none⟩ = some (.string s) := fun x => (x.cell ⟨X, 0, none⟩ h.lt).trans h.c0
  have hx1 : ∀ x : Ext w, x.world.cell? ⟨X, 1, none⟩ = some (.int .i64 (k : Int)) := fun x => (x.cell ⟨X, 1, none⟩ h.lt).trans h.c1
  clear h
  by_cases hk : k < s.size
  · obtain ⟨i, hi⟩ : ∃ i, Lib.indexByte those.data.toList s[k] = i := ⟨_, rfl⟩
    have hsg : decide (0 ≤ i) = b := by
      rw [← hb, restB_cons s k hk]
      show _ = those.data.toList.contains s[k]
      cases hc : those.data.toList.contains s[k] with
      | true =>
        have := indexByte_some _ _ hc
        rw [hi] at this
        simpa using this
      | false =>
        have := indexByte_none _ _ hc
        rw [hi] at this
        rw [this]
        rfl
    have HI := Lib.hid hi
    clear hi hb
    have hd : decide (k < s.size) = true := by simpa using hk
    have hd2 : decide ((k : Int) < (s.size : Int)) = true := by simp; omega
    subst hsg
    go_enter Tryd.func60, Tryd.ntmps60
    go_wp2_with fail
    refine wp_region_ext (by kernel_rfl) (by kernel_rfl) ?_
    repeat (go_big_quiet_step (first
      | (go_at_call 82; refine (index_any those s[k] _ i _ rfl HI.out).mono ?_; rintro _ w1 ⟨rfl, hb1⟩; exact ⟨rfl, Ext.same _ hb1⟩)))
    refine wpQuiet_nil ?_
    rintro _ ⟨x, rfl⟩
    have hb1 := x.below
    go_wp2
    go_ret
    exact ⟨rfl, hb1⟩
  · have hbf : b = false := by
      rw [← hb, restB_nil s k hk]
      rfl
    subst hbf
    clear hb
    have hd : decide (k < s.size) = false := by simpa using hk
    have hd2 : decide ((k : Int) < (s.size : Int)) = false := by simp; omega
    go_enter Tryd.func60, Tryd.ntmps60
    go_wp2_with fail
    refine wp_region_ext (by kernel_rfl) (by kernel_rfl) ?_
    repeat (go_big_quiet_step (fail))
    refine wpQuiet_nil ?_
    rintro _ ⟨x, rfl⟩
    have hb1 := x.below
    go_wp2
    go_ret
    exact ⟨rfl, hb1⟩

/-- Where the reader stands, behind a call that went on in the text: what is left of it. -/
def Went (X : Nat) (s : ByteArray) (v : Value) (l : List It) (w : World) (r : List UInt8) (w' : World) : Prop :=
  ∃ k, k ≤ s.size ∧ restB s k = r ∧ Rd w' X s k v l ∧ Kp (· = X) w w' v v

theorem skip_blank (c : UInt8) (t : List UInt8) (h : standsL [9, 10, 13, 32] (c :: t) = true) : skipL (c :: t) = skipL t := by
  have hb : blankN c.toNat = true := by
    have h' : [9, 10, 13, 32].contains c = true := h
    simp only [List.contains_cons, List.contains_nil, Bool.or_false, Bool.or_eq_true, beq_iff_eq] at h'
    rcases h' with rfl | rfl | rfl | rfl <;> rfl
  show (if blankN c.toNat = true then skipL t else _) = _
  rw [if_pos hb]
theorem skip_done (r : List UInt8) (h : standsL [9, 10, 13, 32] r = false) : skipL r = r := by
  cases r with
  | nil => rfl
  | cons c t =>
    refine skip_not c t ?_
    have h' : [9, 10, 13, 32].contains c = false := h
    simp only [List.contains_cons, List.contains_nil, Bool.or_false, Bool.or_eq_false_iff, beq_eq_false_iff_ne] at h'
    obtain ⟨h1, h2, h3, h4⟩ := h'
    have n : ∀ d : UInt8, c ≠ d → c.toNat ≠ d.toNat := fun d hd e => hd (UInt8.toNat.inj e)
    have := n 9 h1
    have := n 10 h2
    have := n 13 h3
    have := n 32 h4
    unfold blankN
    simp_all

def SkipAt (X : Nat) (s : ByteArray) (v : Value) (l : List It) (w : World) (r : List UInt8) (n : Nat) (wr : World) : Prop :=
  ∃ k, k ≤ s.size ∧ s.size - k = n ∧ skipL (restB s k) = r ∧ Rd wr X s k v l ∧ Kp (· = X) w wr v v

set_option maxRecDepth 100000 in
set_option maxHeartbeats 800000 in
theorem skip_any {w : World} {X : Nat} {s : ByteArray} {k : Nat} {v : Value} {l : List It} (h : Rd w X s k v l) (hk : k ≤ s.size) (hs : s.size ≤ 1000000) :
    Calls Tryd.prog 41 #[.pointer (some ⟨X, 0, none⟩)] w fun e w' => e = .returned (.tuple #[]) ∧ Went X s v l w (skipL (restB s k)) w' := by
  obtain ⟨r, hr⟩ : ∃ r, skipL (restB s k) = r := ⟨_, rfl⟩
  rw [hr]
  have HS : Hid (SkipAt X s v l w r (s.size - k) w) := ⟨k, hk, rfl, hr, h, Kp.refl _ _ _⟩
  clear hr h
  go_enter Tryd.func41, Tryd.ntmps41
  go_wp2
  go_loopg [] (s.size - k) (fun n wr => SkipAt X s v l w r n wr)
  case atStart => exact HS.out
  case round =>
    obtain ⟨j, hj, hn, hr, hrd, hkp⟩ := hrel
    have HR := Lib.hid hr
    have HK := Lib.hid hkp
    have HD := Lib.hid hrd
    clear hr hkp hrd HS
    cases hb : standsL [9, 10, 13, 32] (restB s j) with
    | true =>
      have hlt : j < s.size := by
        rcases Nat.lt_or_ge j s.size with h | h
        · exact h
        · rw [restB_nil s j (by omega)] at hb
          cases hb
      have hr2 : skipL (restB s (j + 1)) = r := by
        rw [← HR.out]
        rw [restB_cons s j hlt] at hb ⊢
        exact (skip_blank _ _ hb).symm
      have HR2 := Lib.hid hr2
      clear hr2
      go_wp2_with fail
      refine (stands_any HD.out ⟨#[9, 10, 13, 32]⟩ true hb hs).mono ?_
      rintro _ w1 ⟨rfl, hb1⟩
      have hd1 := HD.out.keep hb1
      have c1 := hd1.c1
      have f1 := hd1.f1
      have HD2 := Lib.hid (hd1.move (j + 1) ((j : Int) + 1) (by omega))
      have HK2 := Lib.hid (HK.out.trans ((Kp.of_below hb1).trans (Kp.setCell (C := (· = X)) w1 v ⟨X, 1, none⟩ (.int .i64 ((j : Int) + 1)) rfl)))
      clear hb hd1 hb1 HK HD HR
      go_wp2
      go_roundg (gk - 1)
      case measure => omega
      case rel => exact ⟨j + 1, by omega, by omega, HR2.out, HD2.out, HK2.out⟩
    | false =>
      have hr2 : restB s j = r := by rw [← HR.out]; exact (skip_done _ hb).symm
      have HR2 := Lib.hid hr2
      clear hr2
      go_wp2_with fail
      refine (stands_any HD.out ⟨#[9, 10, 13, 32]⟩ false hb hs).mono ?_
      rintro _ w1 ⟨rfl, hb1⟩
      have HD2 := Lib.hid (HD.out.keep hb1)
      have HK2 := Lib.hid (HK.out.trans (Kp.of_below hb1))
      clear hb hb1 HK HD HR
      go_wp2
      exact bodyPost_end (v := .tuple #[]) (by simp [results, Tryd.results41, go_sem]) rfl ⟨rfl, j, hj, HR2.out, HD2.out, HK2.out⟩

/-- The sign that is to stand next, behind blanks. -/
def signF (c : UInt8) (r : List UInt8) : Bool := (skipL r).head? == some c
def signR (c : UInt8) (r : List UInt8) : List UInt8 := if signF c r then (skipL r).tail else skipL r

theorem stands_sign (c : UInt8) (r : List UInt8) : standsL [c] r = (r.head? == some c) := by
  cases r with
  | nil => rfl
  | cons d t =>
    show ((d == c) || false) = (some d == some c)
    rw [Bool.or_false]
    rfl

set_option maxRecDepth 100000 in
set_option maxHeartbeats 800000 in
theorem sign_any {w : World} {X : Nat} {s : ByteArray} {k : Nat} {v : Value} {l : List It} (h : Rd w X s k v l) (hk : k ≤ s.size) (hs : s.size ≤ 1000000) (c : UInt8) (sg : ByteArray) (hc : sg = ⟨#[c]⟩) (b : Bool) (hb : signF c (restB s k) = b) :
    Calls Tryd.prog 92 #[.pointer (some ⟨X, 0, none⟩), .string sg] w fun e w' => e = .returned (.bool b) ∧ Went X s v l w (signR c (restB s k)) w' := by
  obtain ⟨r, hr⟩ : ∃ r, signR c (restB s k) = r := ⟨_, rfl⟩
  rw [hr]
  have HR := Lib.hid hr
  have HD := Lib.hid h
  have HC := Lib.hid hc
  have HB := Lib.hid hb
  clear hr h hc hb
  go_enter Tryd.func92, Tryd.ntmps92
  go_wp2_with fail
  refine (skip_any HD.out hk hs).mono ?_
  rintro _ w1 ⟨rfl, j, hj, hrj, hd1, hk1⟩
  have HRJ := Lib.hid hrj
  have HD1 := Lib.hid hd1
  have HK1 := Lib.hid hk1
  have hst : standsL sg.data.toList (restB s j) = b := by
    rw [HC.out, hrj, ← HB.out]
    exact stands_sign c _
  have HST := Lib.hid hst
  clear hrj hd1 hk1 hst
  cases b with
  | true =>
    have hlt : j < s.size := by
      rcases Nat.lt_or_ge j s.size with h | h
      · exact h
      · have := HST.out
        rw [restB_nil s j (by omega)] at this
        cases this
    have hr2 : restB s (j + 1) = r := by
      rw [← HR.out]
      unfold signR
      rw [if_pos HB.out, ← HRJ.out, restB_cons s j hlt]
      rfl
    have HR2 := Lib.hid hr2
    clear hr2
    go_wp2_with fail
    refine (stands_any HD1.out sg true HST.out hs).mono ?_
    rintro _ w2 ⟨rfl, hb2⟩
    have hd2 := HD1.out.keep hb2
    have c1 := hd2.c1
    have f1 := hd2.f1
    have HD2 := Lib.hid (hd2.move (j + 1) ((j : Int) + 1) (by omega))
    have HK2 := Lib.hid (HK1.out.trans ((Kp.of_below hb2).trans (Kp.setCell (C := (· = X)) w2 v ⟨X, 1, none⟩ (.int .i64 ((j : Int) + 1)) rfl)))
    clear hd2 hb2
    go_wp2
    go_ret
    exact ⟨rfl, j + 1, by omega, HR2.out, HD2.out, HK2.out⟩
  | false =>
    have hr2 : restB s j = r := by
      rw [← HR.out]
      unfold signR
      rw [if_neg (by rw [HB.out]; decide), HRJ.out]
    have HR2 := Lib.hid hr2
    clear hr2
    go_wp2_with fail
    refine (stands_any HD1.out sg false HST.out hs).mono ?_
    rintro _ w2 ⟨rfl, hb2⟩
    have HD2 := Lib.hid (HD1.out.keep hb2)
    have HK2 := Lib.hid (HK1.out.trans (Kp.of_below hb2))
    clear hb2
    go_wp2
    go_ret
    exact ⟨rfl, j, hj, HR2.out, HD2.out, HK2.out⟩

/-- The closing sign of a kind. -/
theorem end_any (o : Bool) (w : World) : Calls Tryd.prog 37 #[.int .i64 (kindO o)] w fun e w' => e = .returned (.string ⟨#[shutO o]⟩) ∧ w = w' := by
  cases o with
  | true =>
    show Calls Tryd.prog _ #[.int .i64 7] w fun e w' => e = .returned (.string ⟨#[125]⟩) ∧ w = w'
    go_enter Tryd.func37, Tryd.ntmps37
    go_wp2
    go_ret
    exact ⟨rfl, rfl⟩
  | false =>
    show Calls Tryd.prog _ #[.int .i64 6] w fun e w' => e = .returned (.string ⟨#[93]⟩) ∧ w = w'
    go_enter Tryd.func37, Tryd.ntmps37
    go_wp2
    go_ret
    exact ⟨rfl, rfl⟩
end Go.Proofs.YtmnigdcgdebgoaaDoor
namespace Go.Proofs.YtmnigdcgdebgoaaDoor
open Go.RowKit
set_option linter.unusedVariables false

/-- What a reading call tells, and leaves: an error, or the items and what is left of the text. -/
def Tells (C : Nat → Prop) (X : Nat) (s : ByteArray) (v : Value) (l : List It) (w : World) (a : Nat × List It × List UInt8) (e : Ending) (w' : World) : Prop :=
  e = .returned (.int .i64 (a.1 : Int)) ∧ ∃ v', Kp C w w' v v' ∧ (a.1 = 0 → ∃ k, k ≤ s.size ∧ restB s k = a.2.2 ∧ Rd w' X s k v' (l ++ a.2.1))

/-- A number. -/
def numF (R : List UInt8 → Option Int) (d : Nat) (key l : List UInt8) : Nat × List It × List UInt8 :=
  match R (l.takeWhile numC) with | some n => (0, [⟨d, 4, key, [], n⟩], l.dropWhile numC) | none => (83, [], [])

/-- An item's value, as it is handed to the reader's methods. -/
def itA (d k : Int) (key text : ByteArray) (n : Int) : Value := .agg #[.int .i64 d, .int .i64 k, .string key, .string text, .int .i64 n]

theorem numC_cut (c : UInt8) : [48, 49, 50, 51, 52, 53, 54, 55, 56, 57, 43, 45, 46, 69, 101].contains c = numC c := by
  have h : ∀ n : Fin 256, [48, 49, 50, 51, 52, 53, 54, 55, 56, 57, 43, 45, 46, 69, 101].contains (UInt8.ofNat n.val) = numC (UInt8.ofNat n.val) := by decide +kernel
  have := h ⟨c.toNat, c.toNat_lt⟩
  simpa using this

theorem trim_num (l : List UInt8) : Lib.trimLeftS l [48, 49, 50, 51, 52, 53, 54, 55, 56, 57, 43, 45, 46, 69, 101] = l.dropWhile numC := by
  unfold Lib.trimLeftS
  congr 1
  funext c
  exact numC_cut c

theorem span_len {α : Type} (p : α → Bool) (l : List α) : (l.takeWhile p).length + (l.dropWhile p).length = l.length := by
  rw [← List.length_append, List.takeWhile_append_dropWhile]

theorem body_list (t : ByteArray) (n : Nat) (hn : n = (t.data.toList.dropWhile numC).length) : (t.extract 0 (t.size - n)).data.toList = t.data.toList.takeWhile numC ∧ n ≤ t.size := by
  have hl := span_len numC t.data.toList
  rw [list_len] at hl
  have e : t.size - n = (t.data.toList.takeWhile numC).length := by omega
  refine ⟨?_, by omega⟩
  rw [extract_list, List.drop_zero, Nat.sub_zero, e]
  have h := List.takeWhile_append_dropWhile (p := numC) (l := t.data.toList)
  generalize t.data.toList.takeWhile numC = a at *
  rw [← h]
  exact List.take_left' rfl
theorem body_rest (s : ByteArray) (k n : Nat) (hk : k ≤ s.size) (hn : n = ((restB s k).dropWhile numC).length) : restB s (k + (s.size - k - n)) = (restB s k).dropWhile numC := by
  have hl := span_len numC (restB s k)
  rw [restB_len] at hl
  have e : s.size - k - n = ((restB s k).takeWhile numC).length := by omega
  have e2 : restB s (k + (s.size - k - n)) = (restB s k).drop (s.size - k - n) := by
    unfold restB
    rw [List.drop_drop]
  rw [e2, e]
  have h := List.takeWhile_append_dropWhile (p := numC) (l := restB s k)
  generalize (restB s k).takeWhile numC = a at *
  generalize (restB s k).dropWhile numC = b at *
  rw [← h]
  exact List.drop_left' rfl
theorem restB_list (s : ByteArray) (k : Nat) : (s.extract k s.size).data.toList = restB s k := by
  rw [extract_list]
  unfold restB
  exact List.take_of_length_le (by rw [List.length_drop, list_len]; exact Nat.le_refl _)
theorem numeral_small : ∀ (j : Nat) b, (⟨#[48, 49, 50, 51, 52, 53, 54, 55, 56, 57, 43, 45, 46, 69, 101]⟩ : ByteArray).data.toList[j]? = some b → b.toNat < 128 := by
  intro j b h
  have hm := List.mem_of_getElem? h
  have : ∀ x ∈ (⟨#[48, 49, 50, 51, 52, 53, 54, 55, 56, 57, 43, 45, 46, 69, 101]⟩ : ByteArray).data.toList, x.toNat < 128 := by decide
  exact this b hm

theorem trim_at (s t : ByteArray) (w : World) (ht : bytesOf (s.data.toList.dropWhile numC) = t) :
    Calls Tryd.prog 94 #[.string s, .string ⟨#[48, 49, 50, 51, 52, 53, 54, 55, 56, 57, 43, 45, 46, 69, 101]⟩] w fun e w' => e = .returned (.string t) ∧ Below w.heap.size w w' := by
  subst ht
  refine (trimleft_any s _ w (by decide) numeral_small).mono ?_
  rintro _ w1 ⟨rfl, hb1⟩
  refine ⟨?_, hb1⟩
  rw [← trim_num]
  rfl

/-- dec.Read, by what it tells. -/
theorem dread_any (s : ByteArray) (w : World) (hs : s.size ≤ 1000000) : Calls Tryd.prog 95 #[.string s] w fun e w' => e = .returned (match readD s.data.toList with | some n => .tuple #[.int .i64 n, .bool true] | none => .tuple #[.int .i64 0, .bool false]) ∧ Below w.heap.size w w' := by
  cases h : readD s.data.toList with
  | some n =>
    obtain ⟨h1, h2, h3⟩ := readD_some h
    refine read_yes n s w h1 h2 (ba_ext ?_)
    rw [printB_list, h3]
  | none =>
    refine read_no s w (by unfold maxLen; omega) (fun n h1 h2 e => ?_)
    refine readD_none h n h1 h2 ?_
    rw [← e, printB_list]

set_option maxRecDepth 100000 in
set_option maxHeartbeats 1600000 in
theorem number_any {w : World} {X : Nat} {s : ByteArray} {k : Nat} {v : Value} {l : List It} (h : Rd w X s k v l) (hk : k ≤ s.size) (hs : s.size ≤ 1000000) (hl : l.length ≤ 1000000) (d : Nat) (key : ByteArray) :
    Calls Tryd.prog 80 #[.pointer (some ⟨X, 0, none⟩), itA d 0 key ByteArray.empty 0] w fun e w' => Tells (· = X) X s v l w (numF readD d key.data.toList (restB s k)) e w' := by
  obtain ⟨A, hA⟩ : ∃ A, numF readD d key.data.toList (restB s k) = A := ⟨_, rfl⟩
  rw [hA]
  have HA := Lib.hid hA
  have HD := Lib.hid (h.alloc (.cells #[.int .i64 (d : Int), .int .i64 0, .string key, .string ByteArray.empty, .int .i64 0] 41))
  have HB := Lib.hid (Box.new w (.int .i64 (d : Int)) (.int .i64 0) (.string key) (.string ByteArray.empty) (.int .i64 0))
  have HAP := Lib.hid h.apart
  have hlt := h.lt
  have hc0 := HD.out.c0
  have hc1 := HD.out.c1
  clear hA h
  unfold itA
  go_enter Tryd.func80, Tryd.ntmps80
  go_wp2_with fail
  go_quiet (fail)
  obtain ⟨rest, hrest⟩ : ∃ r, s.extract k s.size = r := ⟨_, rfl⟩
  rw [hrest]
  have hrl : rest.data.toList = restB s k := by rw [← hrest]; exact restB_list s k
  have hrz : rest.size = s.size - k := by rw [← list_len, hrl, restB_len]
  obtain ⟨t, ht⟩ : ∃ t, bytesOf (rest.data.toList.dropWhile numC) = t := ⟨_, rfl⟩
  have htn : t.size = (rest.data.toList.dropWhile numC).length := by rw [← list_len, ← ht, list_bytesOf]
  obtain ⟨hbody, htle⟩ := body_list rest t.size htn
  have HRL := Lib.hid hrl
  have HRZ := Lib.hid hrz
  have HTT := Lib.hid ht
  have HTN := Lib.hid htn
  have HBO := Lib.hid hbody
  have hrz2 : rest.size ≤ 1000000 := by omega
  clear hrest hrl hrz ht htn hbody hc0 hc1
  go_wp2_with fail
  refine (trim_at rest t _ HTT.out).mono ?_
  rintro _ w1 ⟨rfl, hb1⟩
  have hz1 : 0 ≤ (rest.size : Int) - (t.size : Int) := by omega
  go_wp2_with fail
  obtain ⟨body, hbo⟩ : ∃ b, rest.extract 0 (rest.size - t.size) = b := ⟨_, rfl⟩
  rw [hbo]
  have hbl : body.data.toList = (restB s k).takeWhile numC := by rw [← hbo, HBO.out, HRL.out]
  have hbz : body.size + t.size = rest.size := by
    have e := span_len numC rest.data.toList
    rw [← HTN.out, ← HBO.out, hbo, list_len, list_len] at e
    exact e
  have hbz2 : body.size ≤ 1000000 := by omega
  have hmv : restB s (k + body.size) = (restB s k).dropWhile numC := by
    have e := body_rest s k t.size hk (by rw [HTN.out, HRL.out])
    rw [← e]
    congr 2
    have := HRZ.out
    omega
  have hkz : k + body.size ≤ s.size := by
    have := HRZ.out
    omega
  have HMV := Lib.hid hmv
  have HBL := Lib.hid hbl
  have hb0 : Below w.heap.size w w1 := ((Below.refl w.heap.size w).alloc (Nat.le_refl _) (.cells #[.int .i64 (d : Int), .int .i64 0, .string key, .string ByteArray.empty, .int .i64 0] 41)).trans (Below.mono (B := _) ⟨hb1.os, hb1.tape, hb1.output, hb1.size, hb1.block⟩ (by simp))
  have hb1' : Below (w.alloc (.cells #[.int .i64 (d : Int), .int .i64 0, .string key, .string ByteArray.empty, .int .i64 0] 41)).heap.size (w.alloc (.cells #[.int .i64 (d : Int), .int .i64 0, .string key, .string ByteArray.empty, .int .i64 0] 41)) w1 := ⟨hb1.os, hb1.tape, hb1.output, hb1.size, hb1.block⟩
  have HD1 := Lib.hid (HD.out.keep hb1')
  have HB1 := Lib.hid (HB.out.keep hb1')
  clear hbo hbl hbz hmv HBO HTT HTN HRL HRZ HD HB hb1 hb1'
  have hdr := dread_any body w1 hbz2
  cases hR : readD body.data.toList with
  | none =>
    rw [hR] at hdr
    have HDR := Lib.hid hdr
    have hA2 : A = (83, [], []) := by
      rw [← HA.out]
      unfold numF
      rw [← HBL.out, hR]
    have HA2 := Lib.hid hA2
    clear hdr hA2 hR HA
    refine HDR.out.mono ?_
    rintro _ w2 ⟨rfl, hb2⟩
    have HK := Lib.hid (Kp.of_below (C := (· = X)) (v := v) (chain hb0 hb2))
    clear hb2 hb0 HDR
    go_wp2
    go_ret
    rw [HA2.out]
    exact ⟨rfl, v, HK.out, fun h => by cases h⟩
  | some n =>
    rw [hR] at hdr
    have HDR := Lib.hid hdr
    have hA2 : A = (0, [⟨d, 4, key.data.toList, [], n⟩], (restB s k).dropWhile numC) := by
      rw [← HA.out]
      unfold numF
      rw [← HBL.out, hR]
    have HA2 := Lib.hid hA2
    clear hdr hA2 hR HA
    refine HDR.out.mono ?_
    rintro _ w2 ⟨rfl, hb2⟩
    have HD2 := Lib.hid (HD1.out.keep hb2)
    have HB2 := Lib.hid (HB1.out.keep hb2)
    have c1 := HD2.out.c1
    have f1 := HD2.out.f1
    obtain ⟨b0, b1, b2, b3, b4⟩ := HB2.out.cells
    have g1 := HB2.out.frozen 1
    have g4 := HB2.out.frozen 4
    have hne := HAP.out.1
    have hne' : ¬ X = w.heap.size := fun h => hne h.symm
    have hK2 := Kp.of_below (C := (· = X)) (v := v) (chain hb0 hb2)
    have HK2 := Lib.hid hK2
    clear hb2 hb0 HDR HD1 HB1 hK2
    go_wp2_with fail
    obtain ⟨W, hW⟩ : ∃ W, ((w2.setCell ⟨X, 1, none⟩ (.int .i64 ((k : Int) + (body.size : Int)))).setCell ⟨w.heap.size, 1, none⟩ (.int .i64 4)).setCell ⟨w.heap.size, 4, none⟩ (.int .i64 n) = W := ⟨_, rfl⟩
    rw [hW]
    have hD3 : Rd W X s (k + body.size) v l := by
      rw [← hW]
      exact ((HD2.out.move (k + body.size) _ (by omega)).other _ _ hne HAP.out.2).other _ _ hne HAP.out.2
    have hB3 : Box W w.heap.size (.int .i64 (d : Int)) (.int .i64 4) (.string key) (.string ByteArray.empty) (.int .i64 n) := by
      rw [← hW]
      exact (((HB2.out.other ⟨X, 1, none⟩ _ hne').set (.int .i64 4)).1.set (.int .i64 n)).2.2.2
    have hK3 : Kp (· = X) w W v v := by
      rw [← hW]
      refine ⟨HK2.out.os, HK2.out.tape, HK2.out.output, by simp; exact HK2.out.size, fun i hi hc hv => ?_, .inl rfl⟩
      rw [Below.heap_setCell _ _ _ _ (by show i ≠ w.heap.size; omega), Below.heap_setCell _ _ _ _ (by show i ≠ w.heap.size; omega), Below.heap_setCell _ _ _ _ (by exact hc)]
      exact HK2.out.block i hi hc hv
    have HD3 := Lib.hid hD3
    have HB3 := Lib.hid hB3
    have HK3 := Lib.hid hK3
    clear hW hD3 hB3 hK3 HD2 HB2 HK2 c1 f1 b0 b1 b2 b3 b4 g1 g4
    have c2 := HD3.out.c2
    obtain ⟨b0, b1, b2, b3, b4⟩ := HB3.out.cells
    have f2 := HD3.out.f2
    have hlw := HD3.out.lt
    have hlb := HB3.out.lt
    obtain ⟨ao, m, c, w3, hrun, hc3, hf3, hrd3, hkp3, hg3⟩ := push_new HD3.out (d : Int) 4 n key ByteArray.empty hl
    have HRUN := Lib.hid hrun
    have HRD3 := Lib.hid hrd3
    have HKP3 := Lib.hid hkp3
    clear hrun hrd3 hkp3 hg3
    go_region_law (refine step_append_run (by rfl) _ _ 25 (by rfl) (by rfl) (by rfl) HRUN.out ?_)
    all_goals
      go_wp2
      go_ret
      rw [HA2.out]
      exact ⟨rfl, _, HK3.out.trans HKP3.out, fun _ => ⟨k + body.size, hkz, HMV.out, HRD3.out⟩⟩
end Go.Proofs.YtmnigdcgdebgoaaDoor
namespace Go.Proofs.YtmnigdcgdebgoaaDoor
open Go.RowKit
set_option linter.unusedVariables false

/-- The library's tables lie below X. -/
def TabX (X : Nat) : Prop := 1 < X ∧ 2 < X
theorem Tabs.under {w w' : World} {X : Nat} (h : Tabs w) (hX : TabX X) (hb : Below X w w') : Tabs w' :=
  ⟨fun c hc => (hb.cell hX.1).trans (h.1 c hc), fun i hi => ⟨(hb.cell hX.2).trans (h.2 i hi).1, (hb.cell hX.2).trans (h.2 i hi).2⟩⟩
theorem Tabs.kp {C : Nat → Prop} {w w' : World} {v v' : Value} {X k : Nat} {s : ByteArray} {l : List It} (h : Tabs w) (hX : TabX X) (hr : Rd w X s k v l) (hk : Kp C w w' v v') (hC : ∀ i, C i → X ≤ i) : Tabs w' :=
  h.under hX (hk.below hC hr.own (Nat.le_of_lt hr.lt))

/-- What quoted tells, and leaves. -/
def Quoted (X : Nat) (s : ByteArray) (v : Value) (l : List It) (w : World) (q : Nat × List UInt8 × List UInt8) (e : Ending) (w' : World) : Prop :=
  e = .returned (.tuple #[.string (bytesOf q.2.1), .int .i64 (q.1 : Int)]) ∧ Kp (· = X) w w' v v ∧ ∃ k, k ≤ s.size ∧ Rd w' X s k v l ∧ (q.1 = 0 → restB s k = q.2.2)

set_option maxRecDepth 100000 in
set_option maxHeartbeats 1600000 in
theorem rquoted_any {w : World} {X : Nat} {s : ByteArray} {k : Nat} {v : Value} {l : List It} (h : Rd w X s k v l) (hT : Tabs w) (hk : k ≤ s.size) (hs : s.size ≤ 1000000) :
    Calls Tryd.prog 93 #[.pointer (some ⟨X, 0, none⟩)] w fun e w' => Quoted X s v l w (quotF (restB s k)) e w' := by
  obtain ⟨E, u, n, hq, hn⟩ : ∃ E u n, readQ (restB s k) = (E, u, n) ∧ n ≤ (restB s k).length := by
    rcases readQ_cases (restB s k) with ⟨e, _, hr⟩ | ⟨rs, n, _, _, hn, hr, _⟩
    · exact ⟨e, [], 0, hr, Nat.zero_le _⟩
    · exact ⟨0, textU rs, n, hr, hn⟩
  have hqf : quotF (restB s k) = (E, u, (restB s k).drop n) := by unfold quotF; rw [hq]
  rw [hqf]
  rw [restB_len] at hn
  have hlist := restB_list s k
  have hsz : (s.extract k s.size).size = s.size - k := by rw [← list_len, hlist, restB_len]
  have hQ : ∀ x : Ext w, Calls Tryd.prog 103 #[.string (s.extract k s.size)] x.world fun e w' => e = .returned (.tuple #[.string (bytesOf u), .int .i64 (n : Int), .int .i64 (E : Int)]) ∧ Below x.world.heap.size x.world w' := by
    intro x
    have := qread_any (s.extract k s.size) x.world (hT.keep x.below) (by omega) (.inl (by omega))
    rw [hlist, hq] at this
    exact this
  have HQ := Lib.hid hQ
  have hx0 : ∀ x : Ext w, x.world.cell? ⟨X, 0, none⟩ = some (.string s) := fun x => (x.cell ⟨X, 0, none⟩ h.lt).trans h.c0
  have hx1 : ∀ x : Ext w, x.world.cell? ⟨X, 1, none⟩ = some (.int .i64 (k : Int)) := fun x => (x.cell ⟨X, 1, none⟩ h.lt).trans h.c1
  have HD := Lib.hid h
  clear hQ hlist hsz hq hqf h
  obtain ⟨U, hU⟩ : ∃ U, bytesOf u = U := ⟨_, rfl⟩
  have HU := Lib.hid hU
  rw [hU] at HQ
  clear hU
  go_enter Tryd.func93, Tryd.ntmps93
  go_wp2_with fail
  refine wp_region_ext (by kernel_rfl) (by kernel_rfl) ?_
  repeat (go_big_quiet_step (first
    | (go_at_call 103; refine (HQ.out _).mono ?_; rintro _ w1 ⟨rfl, hb1⟩; exact ⟨rfl, Ext.on _ hb1⟩)))
  refine wpQuiet_nil ?_
  rintro _ ⟨x, rfl⟩
  have hb1 := x.below
  obtain ⟨w1, hw1⟩ : ∃ w1, x.world = w1 := ⟨_, rfl⟩
  rw [hw1] at hb1 ⊢
  have HD1 := Lib.hid (HD.out.keep hb1)
  have c1 := HD1.out.c1
  have f1 := HD1.out.f1
  have HD2 := Lib.hid (HD1.out.move (k + n) ((k : Int) + (n : Int)) (by omega))
  have HK2 := Lib.hid ((Kp.of_below hb1).trans (Kp.setCell (C := (· = X)) w1 v ⟨X, 1, none⟩ (.int .i64 ((k : Int) + (n : Int))) rfl))
  have hdr : restB s (k + n) = (restB s k).drop n := by
    unfold restB
    rw [List.drop_drop]
  have HDR := Lib.hid hdr
  clear hx0 hx1 hw1 hb1 hdr
  go_wp2
  go_ret2
  refine ⟨?_, HK2.out, k + n, by omega, HD2.out, fun _ => HDR.out⟩
  show _ = Ending.returned (.tuple #[.string (bytesOf u), _])
  rw [HU.out]
  rfl

set_option maxRecDepth 100000 in
set_option maxHeartbeats 1600000 in
theorem str_any {w : World} {X : Nat} {s : ByteArray} {k : Nat} {v : Value} {l : List It} (h : Rd w X s k v l) (hT : Tabs w) (hk : k ≤ s.size) (hs : s.size ≤ 1000000) (hl : l.length ≤ 1000000) (d : Nat) (key : ByteArray) :
    Calls Tryd.prog 79 #[.pointer (some ⟨X, 0, none⟩), itA d 0 key ByteArray.empty 0] w fun e w' => Tells (· = X) X s v l w (okThen (quotF (restB s k)) fun u r => (0, [⟨d, 5, key.data.toList, u, 0⟩], r)) e w' := by
  obtain ⟨E, u, r, hq⟩ : ∃ E u r, quotF (restB s k) = (E, u, r) := ⟨_, _, _, rfl⟩
  rw [hq]
  obtain ⟨U, hU⟩ : ∃ U, bytesOf u = U := ⟨_, rfl⟩
  have hU2 : u = U.data.toList := by rw [← hU, list_bytesOf]
  have HD := Lib.hid (h.alloc (.cells #[.int .i64 (d : Int), .int .i64 0, .string key, .string ByteArray.empty, .int .i64 0] 41))
  have HB := Lib.hid (Box.new w (.int .i64 (d : Int)) (.int .i64 0) (.string key) (.string ByteArray.empty) (.int .i64 0))
  have HAP := Lib.hid h.apart
  have HT := Lib.hid (hT.keep ((Below.refl w.heap.size w).alloc (Nat.le_refl _) (.cells #[.int .i64 (d : Int), .int .i64 0, .string key, .string ByteArray.empty, .int .i64 0] 41)))
  have HK := Lib.hid (Kp.alloc (· = X) w v (.cells #[.int .i64 (d : Int), .int .i64 0, .string key, .string ByteArray.empty, .int .i64 0] 41))
  have hlt := h.lt
  have HQ := Lib.hid (rquoted_any HD.out HT.out hk hs)
  rw [hq] at HQ
  unfold Quoted at HQ
  rw [show (E, u, r).2.1 = u from rfl, hU] at HQ
  have HU2 := Lib.hid hU2
  have hne := HAP.out.1
  have hne' : ¬ X = w.heap.size := fun h => hne h.symm
  clear h hT hq hU hU2
  unfold itA
  by_cases hE : E = 0
  · subst hE
    go_enter Tryd.func79, Tryd.ntmps79
    go_wp2_with fail
    refine HQ.out.mono ?_
    rintro _ w1 ⟨rfl, hK1, k1, hk1, hD1, hr1⟩
    have HR1 := Lib.hid (hr1 (by first | rfl | trivial))
    have HD1 := Lib.hid hD1
    have HK1 := Lib.hid hK1
    have HB1 := Lib.hid (HB.out.kp hK1 hne HAP.out.2)
    clear hr1 hD1 hK1 HQ
    obtain ⟨b0, b1, b2, b3, b4⟩ := HB1.out.cells
    have g1 := HB1.out.frozen 1
    have g3 := HB1.out.frozen 3
    go_wp2_with fail
    obtain ⟨W, hW⟩ : ∃ W, (w1.setCell ⟨w.heap.size, 1, none⟩ (.int .i64 5)).setCell ⟨w.heap.size, 3, none⟩ (.string U) = W := ⟨_, rfl⟩
    rw [hW]
    have hD3 : Rd W X s k1 v l := by
      rw [← hW]
      exact (HD1.out.other _ _ hne HAP.out.2).other _ _ hne HAP.out.2
    have hB3 : Box W w.heap.size (.int .i64 (d : Int)) (.int .i64 5) (.string key) (.string U) (.int .i64 0) := by
      rw [← hW]
      exact ((HB1.out.set (.int .i64 5)).1.set (.string U)).2.2.1
    have hK3 : Kp (· = X) w W v v := by
      have hk := HK.out.trans HK1.out
      rw [← hW]
      refine ⟨hk.os, hk.tape, hk.output, by simp; exact hk.size, fun i hi hc hv => ?_, .inl rfl⟩
      rw [Below.heap_setCell _ _ _ _ (by show i ≠ w.heap.size; omega), Below.heap_setCell _ _ _ _ (by show i ≠ w.heap.size; omega)]
      exact hk.block i hi hc hv
    have HD3 := Lib.hid hD3
    have HB3 := Lib.hid hB3
    have HK3 := Lib.hid hK3
    clear hW hD3 hB3 hK3 HD1 HB1 HK1 HK HB HD HT b0 b1 b2 b3 b4 g1 g3
    have c2 := HD3.out.c2
    obtain ⟨b0, b1, b2, b3, b4⟩ := HB3.out.cells
    have f2 := HD3.out.f2
    have hlw := HD3.out.lt
    have hlb := HB3.out.lt
    obtain ⟨ao, m, c, w3, hrun, hc3, hf3, hrd3, hkp3, hg3⟩ := push_new HD3.out (d : Int) 5 0 key U hl
    have HRUN := Lib.hid hrun
    have HRD3 := Lib.hid hrd3
    have HKP3 := Lib.hid hkp3
    clear hrun hrd3 hkp3 hg3
    go_region_law (refine step_append_run (by rfl) _ _ 25 (by rfl) (by rfl) (by rfl) HRUN.out ?_)
    all_goals
      go_wp2
      go_ret
      exact ⟨rfl, _, HK3.out.trans HKP3.out, fun _ => ⟨k1, hk1, HR1.out, by rw [okThen_ok, HU2.out]; exact HRD3.out⟩⟩
  · have z1 : ((E : Int) == 0) = false := by rw [beq_eq_false_iff_ne]; omega
    have z2 : ((E : Int) != 0) = true := by simp; omega
    have z3 : ¬ (E : Int) = 0 := by omega
    go_enter Tryd.func79, Tryd.ntmps79
    go_wp2_with fail
    refine HQ.out.mono ?_
    rintro _ w1 ⟨rfl, hK1, k1, hk1, hD1, hr1⟩
    have HK1 := Lib.hid (HK.out.trans hK1)
    clear hr1 hD1 hK1 HQ
    go_wp2
    go_ret
    have e : okThen (E, u, r) (fun u r => (0, [(⟨d, 5, key.data.toList, u, 0⟩ : It)], r)) = (E, [], []) := by
      unfold okThen
      rw [if_neg hE]
    rw [e]
    exact ⟨rfl, v, HK1.out, fun h => absurd h hE⟩
end Go.Proofs.YtmnigdcgdebgoaaDoor
namespace Go.Proofs.YtmnigdcgdebgoaaDoor
open Go.RowKit
set_option linter.unusedVariables false

theorem jword_any (kk : Nat) (K : Int) (hK : K = (kk : Int)) (h1 : 1 ≤ kk) (h3 : kk ≤ 3) (W : ByteArray) (hW : bytesOf (wordL kk) = W) (w : World) :
    Calls Tryd.prog 56 #[.int .i64 K] w fun e w' => e = .returned (.string W) ∧ w = w' := by
  subst hK hW
  have : kk = 1 ∨ kk = 2 ∨ kk = 3 := by omega
  rcases this with rfl | rfl | rfl
  · show Calls Tryd.prog _ #[.int .i64 1] w fun e w' => e = .returned (.string ⟨#[110, 117, 108, 108]⟩) ∧ w = w'
    go_enter Tryd.func56, Tryd.ntmps56
    go_wp2
    go_ret
    exact ⟨rfl, rfl⟩
  · show Calls Tryd.prog _ #[.int .i64 2] w fun e w' => e = .returned (.string ⟨#[102, 97, 108, 115, 101]⟩) ∧ w = w'
    go_enter Tryd.func56, Tryd.ntmps56
    go_wp2
    go_ret
    exact ⟨rfl, rfl⟩
  · show Calls Tryd.prog _ #[.int .i64 3] w fun e w' => e = .returned (.string ⟨#[116, 114, 117, 101]⟩) ∧ w = w'
    go_enter Tryd.func56, Tryd.ntmps56
    go_wp2
    go_ret
    exact ⟨rfl, rfl⟩

theorem wordF_hit (d : Nat) (key l : List UInt8) (kk : Nat) (h1 : 1 ≤ kk) (h3 : kk ≤ 3) (hno : ∀ j, 1 ≤ j → j < kk → (wordL j).isPrefixOf l = false) (h : (wordL kk).isPrefixOf l = true) : wordF d key l = (0, [⟨d, kk, key, [], 0⟩], l.drop (wordL kk).length) := by
  unfold wordF
  have : kk = 1 ∨ kk = 2 ∨ kk = 3 := by omega
  rcases this with rfl | rfl | rfl
  · rw [if_pos h]; rfl
  · rw [if_neg (by rw [hno 1 (by omega) (by omega)]; decide), if_pos h]; rfl
  · rw [if_neg (by rw [hno 1 (by omega) (by omega)]; decide), if_neg (by rw [hno 2 (by omega) (by omega)]; decide), if_pos h]; rfl
theorem wordF_miss (d : Nat) (key l : List UInt8) (hno : ∀ j, 1 ≤ j → j < 4 → (wordL j).isPrefixOf l = false) : wordF d key l = (80, [], []) := by
  unfold wordF
  rw [if_neg (by rw [hno 1 (by omega) (by omega)]; decide), if_neg (by rw [hno 2 (by omega) (by omega)]; decide), if_neg (by rw [hno 3 (by omega) (by omega)]; decide)]

def WordAt (X : Nat) (s : ByteArray) (k : Nat) (v : Value) (l : List It) (d : Nat) (key : ByteArray) (w : World) (n : Nat) (wr : World) : Prop :=
  ∃ kk : Nat, 1 ≤ kk ∧ kk ≤ 4 ∧ kk + n = 4 ∧ Box wr w.heap.size (.int .i64 (d : Int)) (.int .i64 (kk : Int)) (.string key) (.string ByteArray.empty) (.int .i64 0) ∧ Rd wr X s k v l ∧ Kp (· = X) w wr v v ∧ ∀ j, 1 ≤ j → j < kk → (wordL j).isPrefixOf (restB s k) = false

theorem hasPrefix_is (l p : List UInt8) : Lib.hasPrefix l p = p.isPrefixOf l := by
  rfl

set_option maxRecDepth 100000 in
set_option maxHeartbeats 1600000 in
theorem rword_any {w : World} {X : Nat} {s : ByteArray} {k : Nat} {v : Value} {l : List It} (h : Rd w X s k v l) (hk : k ≤ s.size) (hs : s.size ≤ 1000000) (hl : l.length ≤ 1000000) (d : Nat) (key : ByteArray) :
    Calls Tryd.prog 81 #[.pointer (some ⟨X, 0, none⟩), itA d 0 key ByteArray.empty 0] w fun e w' => Tells (· = X) X s v l w (wordF d key.data.toList (restB s k)) e w' := by
  obtain ⟨A, hA⟩ : ∃ A, wordF d key.data.toList (restB s k) = A := ⟨_, rfl⟩
  rw [hA]
  have HA := Lib.hid hA
  have HAP := Lib.hid h.apart
  have hne := HAP.out.1
  have hne' : ¬ X = w.heap.size := fun h => hne h.symm
  have HW : Hid (WordAt X s k v l d key w 3 (w.alloc (.cells #[.int .i64 (d : Int), .int .i64 1, .string key, .string ByteArray.empty, .int .i64 0] 41))) :=
    ⟨1, by omega, by omega, by omega, Box.new w _ _ _ _ _, h.alloc _, Kp.alloc _ _ _ _, fun j h1 h2 => by omega⟩
  clear hA h
  unfold itA
  go_enter Tryd.func81, Tryd.ntmps81
  go_wp2
  go_loopg [] 3 (fun n wr => WordAt X s k v l d key w n wr)
  case atStart => exact HW.out
  case round =>
    obtain ⟨kk, hk1, hk4, hkn, hB, hD, hK, hno⟩ := hrel
    have HB := Lib.hid hB
    have HD := Lib.hid hD
    have HK := Lib.hid hK
    have HNO := Lib.hid hno
    clear hB hD hK hno HW
    obtain ⟨b0, b1, b2, b3, b4⟩ := HB.out.cells
    by_cases h3 : kk ≤ 3
    · obtain ⟨W, hW⟩ : ∃ W, bytesOf (wordL kk) = W := ⟨_, rfl⟩
      have HWW := Lib.hid hW
      have hWz : W.size ≤ 5 := by
        rw [← hW, ← list_len, list_bytesOf]
        unfold wordL
        split
        · decide
        · split <;> decide
      clear hW
      obtain ⟨p, hp⟩ : ∃ p, (wordL kk).isPrefixOf (restB s k) = p := ⟨_, rfl⟩
      have HP : Hid (Lib.hasPrefix (s.extract k s.size).data.toList W.data.toList = p) := by
        show _ = _
        rw [hasPrefix_is, restB_list, ← HWW.out, list_bytesOf]
        exact hp
      have HPP := Lib.hid hp
      clear hp
      have c0 := HD.out.c0
      have c1 := HD.out.c1
      have g1 := HB.out.frozen 1
      go_wp2_with fail
      refine (jword_any kk _ rfl hk1 h3 W HWW.out _).mono ?_
      rintro _ w1 ⟨rfl, rfl⟩
      cases p with
      | true =>
        have hrl : W.size ≤ s.size - k := by
          have h1 := (List.isPrefixOf_iff_prefix.1 HPP.out).length_le
          rw [restB_len] at h1
          have h2 : W.size = (wordL kk).length := by rw [← HWW.out, ← list_len, list_bytesOf]
          omega
        have hmv : restB s (k + W.size) = (restB s k).drop (wordL kk).length := by
          have h2 : W.size = (wordL kk).length := by rw [← HWW.out, ← list_len, list_bytesOf]
          rw [h2]
          unfold restB
          rw [List.drop_drop]
        have HMV := Lib.hid hmv
        have hA2 : A = (0, [⟨d, kk, key.data.toList, [], 0⟩], (restB s k).drop (wordL kk).length) := by
          rw [← HA.out]
          exact wordF_hit d _ _ kk hk1 h3 HNO.out HPP.out
        have HA2 := Lib.hid hA2
        clear hmv hA2
        go_wp2_with fail
        go_quiet ((go_at_call 45; refine (prefix_at _ _ true _ HP.out).mono ?_; rintro _ w2 ⟨rfl, rfl⟩; exact ⟨rfl, _, rfl⟩))
        obtain ⟨w5, hw5⟩ : ∃ w5, wr.drewN nq = w5 := ⟨_, rfl⟩
        rw [hw5]
        have hb5 : Below wr.heap.size wr w5 := by rw [← hw5]; exact ⟨rfl, rfl, rfl, Nat.le_refl _, fun _ _ => rfl⟩
        have HD5 := Lib.hid (HD.out.keep hb5)
        have HB5 := Lib.hid (HB.out.keep hb5)
        have HK5 := Lib.hid (HK.out.trans (Kp.of_below hb5))
        clear hw5 hb5 HD HB HK HP HPP b0 b1 b2 b3 b4 c0 c1 g1
        have c1 := HD5.out.c1
        have f1 := HD5.out.f1
        go_wp2_with fail
        obtain ⟨W6, hW6⟩ : ∃ W6, w5.setCell ⟨X, 1, none⟩ (.int .i64 ((k : Int) + (W.size : Int))) = W6 := ⟨_, rfl⟩
        rw [hW6]
        have hD3 : Rd W6 X s (k + W.size) v l := by
          rw [← hW6]
          exact HD5.out.move (k + W.size) _ (by omega)
        have hB3 : Box W6 w.heap.size (.int .i64 (d : Int)) (.int .i64 (kk : Int)) (.string key) (.string ByteArray.empty) (.int .i64 0) := by
          rw [← hW6]
          exact HB5.out.other ⟨X, 1, none⟩ _ hne'
        have hK3 : Kp (· = X) w W6 v v := by
          rw [← hW6]
          exact HK5.out.trans (Kp.setCell (C := (· = X)) w5 v ⟨X, 1, none⟩ _ rfl)
        have HD3 := Lib.hid hD3
        have HB3 := Lib.hid hB3
        have HK3 := Lib.hid hK3
        clear hW6 hD3 hB3 hK3 HD5 HB5 HK5 c1 f1
        have c2 := HD3.out.c2
        obtain ⟨b0, b1, b2, b3, b4⟩ := HB3.out.cells
        have f2 := HD3.out.f2
        have hlw := HD3.out.lt
        have hlb := HB3.out.lt
        obtain ⟨ao, m, c, w3, hrun, hc3, hf3, hrd3, hkp3, hg3⟩ := push_new HD3.out (d : Int) (kk : Int) 0 key ByteArray.empty hl
        have HRUN := Lib.hid hrun
        have HRD3 := Lib.hid hrd3
        have HKP3 := Lib.hid hkp3
        clear hrun hrd3 hkp3 hg3
        go_region_law (refine step_append_run (by rfl) _ _ 25 (by rfl) (by rfl) (by rfl) HRUN.out ?_)
        all_goals
          go_wp2
          go_ret
          rw [HA2.out]
          exact ⟨rfl, _, HK3.out.trans HKP3.out, fun _ => ⟨k + W.size, by omega, HMV.out, HRD3.out⟩⟩
      | false =>
        go_wp2_with fail
        go_quiet ((go_at_call 45; refine (prefix_at _ _ false _ HP.out).mono ?_; rintro _ w2 ⟨rfl, rfl⟩; exact ⟨rfl, _, rfl⟩))
        obtain ⟨w5, hw5⟩ : ∃ w5, wr.drewN nq = w5 := ⟨_, rfl⟩
        rw [hw5]
        have hb5 : Below wr.heap.size wr w5 := by rw [← hw5]; exact ⟨rfl, rfl, rfl, Nat.le_refl _, fun _ _ => rfl⟩
        have hD5 := HD.out.keep hb5
        have hB5 := HB.out.keep hb5
        have hK5 := HK.out.trans (Kp.of_below hb5)
        have HD6 := Lib.hid (hD5.other ⟨w.heap.size, 1, none⟩ (.int .i64 ((kk : Int) + 1)) hne HAP.out.2)
        have HB6 := Lib.hid ((hB5.set (.int .i64 ((kk : Int) + 1))).1)
        have HK6 : Hid (Kp (· = X) w (w5.setCell ⟨w.heap.size, 1, none⟩ (.int .i64 ((kk : Int) + 1))) v v) := by
          refine ⟨hK5.os, hK5.tape, hK5.output, by simp; exact hK5.size, fun i hi hc hv => ?_, .inl rfl⟩
          rw [Below.heap_setCell _ _ _ _ (by show i ≠ w.heap.size; omega)]
          exact hK5.block i hi hc hv
        have HNO2 : Hid (∀ j, 1 ≤ j → j < kk + 1 → (wordL j).isPrefixOf (restB s k) = false) := fun j h1 h2 => by
          by_cases e : j = kk
          · rw [e]; exact HPP.out
          · exact HNO.out j h1 (by omega)
        obtain ⟨d0, d1, d2, d3, d4⟩ := hB5.cells
        have g5 := hB5.frozen 1
        clear hw5 hb5 HD HB HK HP HPP b0 b1 b2 b3 b4 c0 c1 g1 hD5 hB5 hK5 HNO
        go_wp2
        go_roundg (gk - 1)
        case measure => omega
        case rel => exact ⟨kk + 1, by omega, by omega, by omega, HB6.out, HD6.out, HK6.out, HNO2.out⟩
    · have hkk : kk = 4 := by omega
      have hA2 : A = (80, [], []) := by
        rw [← HA.out]
        exact wordF_miss d _ _ (fun j h1 h2 => HNO.out j h1 (by omega))
      have HA2 := Lib.hid hA2
      clear hA2 hkk
      go_wp2
      go_ret
      rw [HA2.out]
      exact ⟨rfl, v, HK.out, fun h => by cases h⟩
end Go.Proofs.YtmnigdcgdebgoaaDoor
namespace Go.Proofs.YtmnigdcgdebgoaaDoor
open Go.RowKit
set_option linter.unusedVariables false

/-- A key, without the : behind it. -/
def keyK (keys : List (List UInt8)) (l : List UInt8) : Nat × List UInt8 × List UInt8 :=
  if (skipL l).head? = some 34 then
    if (quotF (skipL l)).1 = 0 then
      if keys.contains (quotF (skipL l)).2.1 then (82, [], [])
      else (0, (quotF (skipL l)).2.1, (quotF (skipL l)).2.2)
    else ((quotF (skipL l)).1, [], [])
  else (80, [], [])
theorem keyF_keyK (keys : List (List UInt8)) (l : List UInt8) : keyF keys l = if (keyK keys l).1 = 0 then (if signF 58 (keyK keys l).2.2 then (0, (keyK keys l).2.1, signR 58 (keyK keys l).2.2) else (80, [], [])) else ((keyK keys l).1, [], []) := by
  unfold keyF keyK
  by_cases h1 : (skipL l).head? = some 34
  · rw [if_pos h1, if_pos h1]
    by_cases h2 : (quotF (skipL l)).1 = 0
    · rw [if_pos h2, if_pos h2]
      cases h3 : keys.contains (quotF (skipL l)).2.1 with
      | true => rfl
      | false =>
        simp only [Bool.false_eq_true, if_false, if_true]
        unfold signR signF
        by_cases h4 : (skipL (quotF (skipL l)).2.2).head? = some 58
        · rw [h4]
          rfl
        · have : ((skipL (quotF (skipL l)).2.2).head? == some 58) = false := by simpa using h4
          rw [this, if_neg h4]
          rfl
    · rw [if_neg h2, if_neg h2]
      simp only
      rw [if_neg h2]
  · rw [if_neg h1, if_neg h1]
    rfl

/-- What key tells, and leaves. -/
def KeyTold (X M : Nat) (s : ByteArray) (v : Value) (l : List It) (ks : List (List UInt8)) (w : World) (q : Nat × List UInt8 × List UInt8) (e : Ending) (w' : World) : Prop :=
  e = .returned (.tuple #[.string (bytesOf q.2.1), .int .i64 (q.1 : Int)]) ∧ Kp (fun i => i = X ∨ i = M) w w' v v ∧ (q.1 = 0 → ∃ k, k ≤ s.size ∧ restB s k = q.2.2 ∧ Rd w' X s k v l ∧ SetAt w' M (ks ++ [q.2.1]))

theorem SetAt.kp {C : Nat → Prop} {w w' : World} {v v' : Value} {M : Nat} {ks : List (List UInt8)} (h : SetAt w M ks) (hk : Kp C w w' v v') (hC : ¬ C M) (hv : some M ≠ v.ownBlock) : SetAt w' M ks := h.block (hk.block M h.lt hC hv)
theorem Rd.grown {w w' : World} {X M : Nat} {s : ByteArray} {k : Nat} {v : Value} {l : List It} (h : Rd w X s k v l) (hg : w.grownBy w' (some M)) (hM : M ≠ X) (hv : some M ≠ v.ownBlock) : Rd w' X s k v l := by
  have e : ∀ o, w'.cell? ⟨X, o, none⟩ = w.cell? ⟨X, o, none⟩ := fun o => World.cell?_of_block (hg.block X h.lt (fun e => hM (Option.some.inj e).symm))
  have e2 : ∀ o, w'.frozen? ⟨X, o, none⟩ = w.frozen? ⟨X, o, none⟩ := fun o => World.frozen?_of_block (hg.block X h.lt (fun e => hM (Option.some.inj e).symm))
  exact ⟨(e 0).trans h.c0, (e 1).trans h.c1, (e 2).trans h.c2, (e2 1).trans h.f1, (e2 2).trans h.f2, h.row.kept hg (.inr (fun e => hv e.symm))⟩
theorem Kp.map {C : Nat → Prop} {w w' : World} {v : Value} {M : Nat} (hg : w.grownBy w' (some M)) (hC : C M) : Kp C w w' v v :=
  ⟨hg.os, hg.tape, hg.output, hg.size, fun i hi hc _ => hg.block i hi (fun e => hc (Option.some.inj e ▸ hC)), .inl rfl⟩

set_option maxRecDepth 100000 in
set_option maxHeartbeats 1600000 in
theorem rkey_any {w : World} {X M : Nat} {s : ByteArray} {k : Nat} {v : Value} {l : List It} {ks : List (List UInt8)} (h : Rd w X s k v l) (hS : SetAt w M ks) (hM : M ≠ X) (hMv : some M ≠ v.ownBlock) (hT : Tabs w) (hTX : TabX X) (hk : k ≤ s.size) (hs : s.size ≤ 1000000) (hn : ks.length ≤ 1000000) :
    Calls Tryd.prog 91 #[.pointer (some ⟨X, 0, none⟩), .map (some M)] w fun e w' => KeyTold X M s v l ks w (keyK ks (restB s k)) e w' := by
  obtain ⟨A, hA⟩ : ∃ A, keyK ks (restB s k) = A := ⟨_, rfl⟩
  rw [hA]
  have HA := Lib.hid hA
  have HD := Lib.hid h
  have HS := Lib.hid hS
  have HT := Lib.hid hT
  clear hA h hS hT
  go_enter Tryd.func91, Tryd.ntmps91
  go_wp2_with fail
  refine (skip_any HD.out hk hs).mono ?_
  rintro _ w1 ⟨rfl, j, hj, hrj, hd1, hk1⟩
  have HRJ := Lib.hid hrj
  have HD1 := Lib.hid hd1
  have HT1 := Lib.hid (HT.out.kp hTX HD.out hk1 (fun i hi => Nat.le_of_eq hi.symm))
  have HS1 := Lib.hid (HS.out.kp hk1 hM hMv)
  have HK1 : Hid (Kp (fun i => i = X ∨ i = M) w w1 v v) := hk1.mono (fun i _ h => .inl h)
  clear hrj hd1 hk1 HD HT HS
  by_cases h34 : (restB s j).head? = some 34
  · have hst : standsL [34] (restB s j) = true := by rw [stands_sign, h34]; rfl
    have HST := Lib.hid hst
    have H34 : Hid ((skipL (restB s k)).head? = some 34) := by show _ = _; rw [← HRJ.out]; exact h34
    clear hst h34
    obtain ⟨E, u, r, hq⟩ : ∃ E u r, quotF (restB s j) = (E, u, r) := ⟨_, _, _, rfl⟩
    have hul := quot_size (restB s j)
    rw [hq, restB_len] at hul
    obtain ⟨U, hU⟩ : ∃ U, bytesOf u = U := ⟨_, rfl⟩
    have hU2 : U.data.toList = u := by rw [← hU, list_bytesOf]
    have hUz : U.size ≤ 140737488355328 := by
      rw [← list_len, hU2]
      have : u.length ≤ 4 * (s.size - j) := hul
      omega
    have hA2 : A = if E = 0 then (if ks.contains u then (82, [], []) else (0, u, r)) else (E, [], []) := by
      rw [← HA.out]
      unfold keyK
      rw [if_pos H34.out, ← HRJ.out, hq]
    have HA2 := Lib.hid hA2
    have HU2 := Lib.hid hU2
    have HQF := Lib.hid hq
    clear hq hul hA2 HA hU2
    go_wp2_with fail
    refine (stands_any HD1.out ⟨#[34]⟩ true HST.out hs).mono ?_
    rintro _ w2 ⟨rfl, hb2⟩
    have HD2 := Lib.hid (HD1.out.keep hb2)
    have HT2 := Lib.hid (HT1.out.keep hb2)
    have HS2 := Lib.hid (HS1.out.keep hb2)
    have HK2 := Lib.hid (HK1.out.trans (Kp.of_below hb2))
    clear HD1 HT1 HS1 HK1 hb2
    have HQ := Lib.hid (rquoted_any HD2.out HT2.out hj hs)
    rw [HQF.out] at HQ
    unfold Quoted at HQ
    rw [show (E, u, r).2.1 = u from rfl, hU] at HQ
    clear hU
    by_cases hE : E = 0
    · subst hE
      rw [if_pos rfl] at HA2
      go_wp2_with fail
      refine HQ.out.mono ?_
      rintro _ w3 ⟨rfl, hK3, k1, hk1, hD3, hr3⟩
      have HR3 := Lib.hid (hr3 (by first | rfl | trivial))
      have HD3 := Lib.hid hD3
      have hS3 := HS2.out.kp hK3 hM hMv
      have HS3 := Lib.hid hS3
      have HK3 : Hid (Kp (fun i => i = X ∨ i = M) w w3 v v) := HK2.out.trans (hK3.mono (fun i _ h => .inl h))
      have hlk := hS3.lookup U hUz
      rw [HU2.out] at hlk
      clear hr3 hD3 hS3 hK3 HQ HD2 HT2 HS2 HK2
      cases hc : ks.contains u with
      | true =>
        rw [hc] at hlk HA2
        have HA3 : Hid (A = (82, [], [])) := HA2.out
        clear HA2 hc
        go_wp2
        go_ret2
        rw [HA3.out]
        exact ⟨rfl, HK3.out, fun h => by cases h⟩
      | false =>
        rw [hc] at hlk HA2
        have HA3 : Hid (A = (0, u, r)) := HA2.out
        obtain ⟨w4, hup, hS4, hg4⟩ := HS3.out.update U hUz (by omega)
        rw [HU2.out] at hS4
        have HS4 := Lib.hid hS4
        have HD4 := Lib.hid (HD3.out.grown hg4 hM hMv)
        have HK4 := Lib.hid (HK3.out.trans (Kp.map (v := v) hg4 (Or.inr rfl)))
        clear HA2 hc hS4 hg4 HS3 HD3 HK3
        go_wp2
        go_ret2
        rw [HA3.out]
        refine ⟨?_, HK4.out, fun _ => ⟨k1, hk1, HR3.out, HD4.out, HS4.out⟩⟩
        show _ = Ending.returned (.tuple #[.string (bytesOf u), _])
        rw [show bytesOf u = U from by rw [← HU2.out, bytesOf_list]]
        rfl
    · have z1 : ((E : Int) == 0) = false := by rw [beq_eq_false_iff_ne]; omega
      have z2 : ((E : Int) != 0) = true := by simp; omega
      have z3 : ¬ (E : Int) = 0 := by omega
      rw [if_neg hE] at HA2
      go_wp2_with fail
      refine HQ.out.mono ?_
      rintro _ w3 ⟨rfl, hK3, k1, hk1, hD3, hr3⟩
      have HK3 : Hid (Kp (fun i => i = X ∨ i = M) w w3 v v) := HK2.out.trans (hK3.mono (fun i _ h => .inl h))
      clear hr3 hD3 hK3 HQ HD2 HT2 HS2 HK2
      go_wp2
      go_ret2
      rw [HA2.out]
      exact ⟨rfl, HK3.out, fun h => absurd h hE⟩
  · have hst : standsL [34] (restB s j) = false := by
      rw [stands_sign]
      simpa using h34
    have HST := Lib.hid hst
    have hA2 : A = (80, [], []) := by
      rw [← HA.out]
      unfold keyK
      rw [if_neg (by rw [← HRJ.out]; exact h34)]
    have HA2 := Lib.hid hA2
    clear hst h34 hA2
    go_wp2_with fail
    refine (stands_any HD1.out ⟨#[34]⟩ false HST.out hs).mono ?_
    rintro _ w2 ⟨rfl, hb2⟩
    have HK2 := Lib.hid (HK1.out.trans (Kp.of_below hb2))
    clear HD1 HT1 HS1 HK1 hb2
    go_wp2
    go_ret2
    rw [HA2.out]
    exact ⟨rfl, HK2.out, fun h => by cases h⟩
end Go.Proofs.YtmnigdcgdebgoaaDoor
namespace Go.Proofs.YtmnigdcgdebgoaaDoor
open Go.RowKit
set_option linter.unusedVariables false

/-- The contract of value, by how deep it may go. -/
def ValueOk (f : Nat) : Prop := ∀ (w : World) (X : Nat) (s : ByteArray) (k : Nat) (v : Value) (l : List It) (d : Nat) (key : ByteArray), Rd w X s k v l → Tabs w → TabX X → k ≤ s.size → s.size ≤ 1000000 → l.length ≤ k → d ≤ 64 → 2 * (s.size - k) + 2 ≤ f →
  Calls Tryd.prog 40 #[.pointer (some ⟨X, 0, none⟩), itA d 0 key ByteArray.empty 0] w fun e w' => Tells (· = X) X s v l w (valueF readD f d key.data.toList (restB s k)) e w'

/-- What the function that reads an object's members has in hand: the reader, and the keys. -/
structure Cap (X B1 B2 M : Nat) (w : World) (v : Value) (ks : List (List UInt8)) : Prop where
  r : w.cell? ⟨B1, 0, none⟩ = some (.pointer (some ⟨X, 0, none⟩))
  m : w.cell? ⟨B2, 0, none⟩ = some (.map (some M))
  set : SetAt w M ks
  ne : B1 ≠ X ∧ B2 ≠ X ∧ X < M ∧ B1 ≠ M ∧ B2 ≠ M
  own : some B1 ≠ v.ownBlock ∧ some B2 ≠ v.ownBlock ∧ some M ≠ v.ownBlock

theorem own_new {C : Nat → Prop} {w w' : World} {v v' : Value} {B : Nat} (hk : Kp C w w' v v') (hB : B < w.heap.size) (h : some B ≠ v.ownBlock) : some B ≠ v'.ownBlock := by
  rcases hk.own with e | ⟨g, e, hg⟩
  · rw [e]; exact h
  · rw [e]
    intro h2
    have := Option.some.inj h2
    omega
theorem Cap.lt1 {X B1 B2 M : Nat} {w : World} {v : Value} {ks : List (List UInt8)} (h : Cap X B1 B2 M w v ks) : B1 < w.heap.size := World.block_lt_of_cell? w ⟨B1, 0, none⟩ h.r
theorem Cap.lt2 {X B1 B2 M : Nat} {w : World} {v : Value} {ks : List (List UInt8)} (h : Cap X B1 B2 M w v ks) : B2 < w.heap.size := World.block_lt_of_cell? w ⟨B2, 0, none⟩ h.m
theorem Cap.kp {X B1 B2 M : Nat} {w w' : World} {v v' : Value} {ks : List (List UInt8)} (h : Cap X B1 B2 M w v ks) (hk : Kp (· = X) w w' v v') : Cap X B1 B2 M w' v' ks :=
  ⟨(hk.cell (p := ⟨B1, 0, none⟩) h.lt1 h.ne.1 h.own.1).trans h.r, (hk.cell (p := ⟨B2, 0, none⟩) h.lt2 h.ne.2.1 h.own.2.1).trans h.m, h.set.kp hk (fun e => by have := h.ne.2.2.1; omega) h.own.2.2, h.ne, own_new hk h.lt1 h.own.1, own_new hk h.lt2 h.own.2.1, own_new hk h.set.lt h.own.2.2⟩
theorem Cap.kp2 {X B1 B2 M : Nat} {w w' : World} {v v' : Value} {ks ks' : List (List UInt8)} (h : Cap X B1 B2 M w v ks) (hk : Kp (fun i => i = X ∨ i = M) w w' v v') (hs : SetAt w' M ks') : Cap X B1 B2 M w' v' ks' :=
  ⟨(hk.cell (p := ⟨B1, 0, none⟩) h.lt1 (fun e => e.elim h.ne.1 h.ne.2.2.2.1) h.own.1).trans h.r, (hk.cell (p := ⟨B2, 0, none⟩) h.lt2 (fun e => e.elim h.ne.2.1 h.ne.2.2.2.2) h.own.2.1).trans h.m, hs, h.ne, own_new hk h.lt1 h.own.1, own_new hk h.lt2 h.own.2.1, own_new hk h.set.lt h.own.2.2⟩

theorem Cap.set_ {X B1 B2 M : Nat} {w : World} {v : Value} {ks : List (List UInt8)} (h : Cap X B1 B2 M w v ks) (p : Addr) (u : Value) (h1 : p.block ≠ B1) (h2 : p.block ≠ B2) (h3 : p.block ≠ M) : Cap X B1 B2 M (w.setCell p u) v ks :=
  ⟨(World.cell?_setCell_other w _ _ _ (fun e => h1 (by rw [e]))).trans h.r, (World.cell?_setCell_other w _ _ _ (fun e => h2 (by rw [e]))).trans h.m, h.set.block (Below.heap_setCell _ _ _ _ (fun e => h3 e.symm)), h.ne, h.own⟩

/-- What a member's reader tells, and leaves. -/
def MemTold (C : Nat → Prop) (I : World → Value → List (List UInt8) → Prop) (X : Nat) (s : ByteArray) (v : Value) (l : List It) (ks : List (List UInt8)) (w : World) (q : Nat × List UInt8 × List It × List UInt8) (e : Ending) (w' : World) : Prop :=
  e = .returned (.int .i64 (q.1 : Int)) ∧ ∃ v', Kp C w w' v v' ∧ (q.1 = 0 → ∃ k, k ≤ s.size ∧ restB s k = q.2.2.2 ∧ Rd w' X s k v' (l ++ q.2.2.1) ∧ I w' v' (ks ++ [q.2.1]))

/-- A store into a block of the call's own. -/
theorem Kp.own_set {C : Nat → Prop} {w w' : World} {v v' : Value} (h : Kp C w w' v v') (p : Addr) (u : Value) (hp : w.heap.size ≤ p.block) : Kp C w (w'.setCell p u) v v' := by
  refine ⟨h.os, h.tape, h.output, by simp; exact h.size, fun i hi hc hv => ?_, h.own⟩
  rw [Below.heap_setCell _ _ _ _ (by omega)]
  exact h.block i hi hc hv

set_option maxRecDepth 100000 in
set_option maxHeartbeats 1600000 in
theorem rmember_any {f : Nat} (HV : ValueOk f) {w : World} {X B1 B2 M : Nat} {s : ByteArray} {k : Nat} {v : Value} {l : List It} {ks : List (List UInt8)} (h : Rd w X s k v l) (hC : Cap X B1 B2 M w v ks) (hT : Tabs w) (hTX : TabX X) (hk : k ≤ s.size) (hs : s.size ≤ 1000000) (hn : ks.length ≤ 1000000) (hl : l.length ≤ k) (d : Nat) (hd : d ≤ 64) (hf : 2 * (s.size - k) + 2 ≤ f) :
    Calls Tryd.prog 90 #[itA d 0 ByteArray.empty ByteArray.empty 0, .pointer (some ⟨B1, 0, none⟩), .pointer (some ⟨B2, 0, none⟩)] w fun e w' => MemTold (fun i => i = X ∨ i = M) (Cap X B1 B2 M) X s v l ks w (memF readD f d true ks (restB s k)) e w' := by
  obtain ⟨A, hA⟩ : ∃ A, memF readD f d true ks (restB s k) = A := ⟨_, rfl⟩
  rw [hA]
  have HA := Lib.hid hA
  have HVV := Lib.hid HV
  have hMX : M ≠ X := by have := hC.ne.2.2.1; omega
  have hap := h.apart
  have hlt := h.lt
  have hKa := Kp.alloc (· = X) w v (.cells #[.int .i64 (d : Int), .int .i64 0, .string ByteArray.empty, .string ByteArray.empty, .int .i64 0] 41)
  have hba := (Below.refl w.heap.size w).alloc (Nat.le_refl _) (.cells #[.int .i64 (d : Int), .int .i64 0, .string ByteArray.empty, .string ByteArray.empty, .int .i64 0] 41)
  have HD := Lib.hid (h.keep hba)
  have HC := Lib.hid (hC.kp hKa)
  have HT := Lib.hid (hT.keep hba)
  have HB := Lib.hid (Box.new w (.int .i64 (d : Int)) (.int .i64 0) (.string ByteArray.empty) (.string ByteArray.empty) (.int .i64 0))
  have HKA : Hid (Kp (fun i => i = X ∨ i = M) w _ v v) := hKa.mono (fun i _ h => .inl h)
  have HAP := Lib.hid hap
  have hM2 : w.heap.size ≠ M := by have := hC.set.lt; omega
  have l1 := hC.lt1
  have l2 := hC.lt2
  have hr0 := HC.out.r
  have hm0 := HC.out.m
  clear hA HV h hC hT hba hKa hap
  obtain ⟨E, u, r, hq⟩ : ∃ E u r, keyK ks (restB s k) = (E, u, r) := ⟨_, _, _, rfl⟩
  have HKY := Lib.hid (rkey_any HD.out HC.out.set hMX HC.out.own.2.2 HT.out hTX hk hs hn)
  rw [hq] at HKY
  unfold KeyTold at HKY
  obtain ⟨U, hU⟩ : ∃ U, bytesOf u = U := ⟨_, rfl⟩
  rw [show (E, u, r).2.1 = u from rfl, hU] at HKY
  have hU2 : U.data.toList = u := by rw [← hU, list_bytesOf]
  have hkf := keyF_keyK ks (restB s k)
  rw [hq] at hkf
  simp only at hkf
  clear hq hU
  unfold itA
  by_cases hE : E = 0
  · subst hE
    rw [if_pos rfl] at hkf
    have HKF := Lib.hid hkf
    have HU2 := Lib.hid hU2
    clear hkf hU2
    go_enter Tryd.func90, Tryd.ntmps90
    go_wp2_with fail
    refine HKY.out.mono ?_
    rintro _ w1 ⟨rfl, hK1, h1⟩
    obtain ⟨k1, hk1, hr1, hD1, hS1⟩ := h1 (by first | rfl | trivial)
    have hC1 := HC.out.kp2 hK1 hS1
    have HC1 := Lib.hid hC1
    have HR1 := Lib.hid hr1
    have HD1 := Lib.hid hD1
    have HT1 := Lib.hid (HT.out.kp hTX HD.out hK1 (fun i hi => by rcases hi with e | e <;> (subst e; have := HC.out.ne.2.2.1; omega)))
    have HB1 := Lib.hid (HB.out.kp hK1 (fun e => e.elim HAP.out.1 hM2) HAP.out.2)
    have HK1 := Lib.hid (HKA.out.trans hK1)
    have r1 := hC1.r
    clear h1 hC1 hr1 hD1 hS1 hK1 HKY HD HC HT HB HKA hr0 hm0
    obtain ⟨b0, b1, b2, b3, b4⟩ := HB1.out.cells
    have g2 := HB1.out.frozen 2
    cases hsg : signF 58 r with
    | false =>
      have hA2 : A = (80, [], [], []) := by
        rw [← HA.out]
        have hkf := HKF.out
        rw [hsg] at hkf
        have : (keyF ks (restB s k)).1 = 80 := by rw [hkf]; rfl
        rw [mem_obj_no _ _ _ _ _ (by rw [this]; decide), this]
      have HA2 := Lib.hid hA2
      clear hA2
      go_wp2_with fail
      refine (sign_any HD1.out hk1 hs 58 ⟨#[58]⟩ rfl false (by rw [HR1.out]; exact hsg)).mono ?_
      rintro _ w2 ⟨rfl, j, hj, hrj, hd2, hk2⟩
      have HK2 : Hid (Kp (fun i => i = X ∨ i = M) w w2 v v) := HK1.out.trans (hk2.mono (fun i _ h => .inl h))
      clear hrj hd2 hk2
      go_wp2
      go_ret
      rw [HA2.out]
      exact ⟨rfl, v, HK2.out, fun h => by cases h⟩
    | true =>
      have hkf2 : keyF ks (restB s k) = (0, u, signR 58 r) := by
        have hkf := HKF.out
        rw [hsg] at hkf
        exact hkf
      have hle := key_len _ _ _ _ hkf2
      rw [restB_len] at hle
      obtain ⟨q, hq⟩ : ∃ q, valueF readD f d u (signR 58 r) = q := ⟨_, rfl⟩
      have hA2 : A = (q.1, u, q.2.1, q.2.2) := by
        rw [← HA.out, mem_obj _ _ _ _ _ _ _ hkf2, hq]
      have HA2 := Lib.hid hA2
      have HQ := Lib.hid hq
      clear hA2 hkf2 hq
      go_wp2_with fail
      refine (sign_any HD1.out hk1 hs 58 ⟨#[58]⟩ rfl true (by rw [HR1.out]; exact hsg)).mono ?_
      rintro _ w2 ⟨rfl, j, hj, hrj, hd2, hk2⟩
      rw [HR1.out] at hrj
      have hjk : s.size - j + 1 ≤ s.size - k := by rw [← restB_len, hrj]; exact hle
      have HRJ := Lib.hid hrj
      have HK2 : Hid (Kp (fun i => i = X ∨ i = M) w w2 v v) := HK1.out.trans (hk2.mono (fun i _ h => .inl h))
      have hC2 := HC1.out.kp hk2
      have hB2 := HB1.out.kp hk2 HAP.out.1 HAP.out.2
      have hT2 := HT1.out.kp hTX HD1.out hk2 (fun i hi => Nat.le_of_eq hi.symm)
      have HC2 := Lib.hid hC2
      have HB2 := Lib.hid hB2
      have HT2 := Lib.hid hT2
      have HD2 := Lib.hid hd2
      clear hrj hd2 hk2 hC2 hB2 hT2 HC1 HB1 HT1 HD1 HK1 b0 b1 b2 b3 b4 g2 r1
      obtain ⟨b0, b1, b2, b3, b4⟩ := HB2.out.cells
      have g2 := HB2.out.frozen 2
      have r2 := HC2.out.r
      have hbx : ¬ B1 = w.heap.size := by omega
      go_wp2_with fail
      obtain ⟨W, hW⟩ : ∃ W, w2.setCell ⟨w.heap.size, 2, none⟩ (.string U) = W := ⟨_, rfl⟩
      rw [hW]
      have hD3 : Rd W X s j v l := by rw [← hW]; exact HD2.out.other _ _ HAP.out.1 HAP.out.2
      have hK3 : Kp (fun i => i = X ∨ i = M) w W v v := by rw [← hW]; exact HK2.out.own_set _ _ (Nat.le_refl _)
      have hbl : Below X w2 W := by rw [← hW]; exact ⟨rfl, rfl, rfl, by simp, fun i hi => Below.heap_setCell _ _ _ _ (by show i ≠ w.heap.size; omega)⟩
      have hC3 : Cap X B1 B2 M W v (ks ++ [u]) := by
        rw [← hW]
        exact HC2.out.set_ _ _ (by show w.heap.size ≠ B1; omega) (by show w.heap.size ≠ B2; omega) hM2
      have HT3 := Lib.hid (HT2.out.under hTX hbl)
      have HC3 := Lib.hid hC3
      have HD3 := Lib.hid hD3
      have HK3 := Lib.hid hK3
      clear hW hD3 hK3 hbl hC3 HT2 HC2 HD2 HK2
      have hval := HVV.out W X s j v l d U HD3.out HT3.out hTX hj hs (by omega) hd (by omega)
      rw [HU2.out, HRJ.out, HQ.out] at hval
      have HVAL := Lib.hid hval
      clear hval
      refine HVAL.out.mono ?_
      rintro _ w4 ⟨rfl, v', hK4, h4⟩
      have HK4 : Hid (Kp (fun i => i = X ∨ i = M) w w4 v v') := HK3.out.trans (hK4.mono (fun i _ h => .inl h))
      have HC4 := Lib.hid (HC3.out.kp hK4)
      have H4 := Lib.hid h4
      clear hK4 h4
      go_wp2
      go_ret
      rw [HA2.out]
      refine ⟨rfl, v', HK4.out, fun h => ?_⟩
      obtain ⟨k5, h5, h6, h7⟩ := H4.out h
      exact ⟨k5, h5, h6, h7, HC4.out⟩
  · have z1 : ((E : Int) == 0) = false := by rw [beq_eq_false_iff_ne]; omega
    have z2 : ((E : Int) != 0) = true := by simp; omega
    have z3 : ¬ (E : Int) = 0 := by omega
    rw [if_neg hE] at hkf
    have hA2 : A = (E, [], [], []) := by
      have h1 : (keyF ks (restB s k)).1 = E := by rw [hkf]
      rw [← HA.out, mem_obj_no _ _ _ _ _ (by rw [h1]; exact hE), h1]
    have HA2 := Lib.hid hA2
    clear hkf hA2 hU2
    go_enter Tryd.func90, Tryd.ntmps90
    go_wp2_with fail
    refine HKY.out.mono ?_
    rintro _ w1 ⟨rfl, hK1, h1⟩
    have HK1 := Lib.hid (HKA.out.trans hK1)
    clear h1 hK1 HKY
    go_wp2
    go_ret
    rw [HA2.out]
    exact ⟨rfl, v, HK1.out, fun h => absurd h hE⟩
end Go.Proofs.YtmnigdcgdebgoaaDoor
