/-
  Small facts that every stage's texts use.
  Rows of bytes that a call makes itself, and appends to.
  A region that draws its order, and whose calls make memory but hand back plain values: ONE walk in the order of the text, in the class of all worlds that are as they were below a block.
  Slices of ints: what they hold; rows that a call makes itself; one that came in as an argument.
  Appending several bytes to a row of bytes of the call's own.
-/
import Derived.Test.YtmnigdcgdebgoaaDoorRows
import Derived.ProofKit
import Derived.WalkKit
import Derived.WalkSpells
import Derived.WalkLawsBesides
import Derived.Lib.Hide
import Derived.WalkMore
import Derived.Deep.LoopGhost
import Derived.Laws.Bits64
import Derived.Laws.BitsLemmas
import Derived.Laws.IdiomStrings
import Derived.Laws.BytesArg
import Derived.BigQuiet
import Derived.Below
import Derived.ChangeSlices
import Derived.SizedLaws
import Derived.Carry
import Derived.OpenShut
import Derived.ArgAppend
import Derived.Deep.Upon
namespace Go.Proofs.YtmnigdcgdebgoaaDoor
open Go.RowKit
set_option linter.unusedVariables false

theorem ret_bool {a b : Bool} (h : a = b) : Ending.returned (.bool a) = .returned (.bool b) := by rw [h]
theorem ret_str {a b : ByteArray} (h : a = b) : Ending.returned (.string a) = .returned (.string b) := by rw [h]
theorem ret_i64 {a b : Int} (h : a = b) : Ending.returned (.int .i64 a) = .returned (.int .i64 b) := by rw [h]
theorem ret_u64 {a b : Int} (h : a = b) : Ending.returned (.int .u64 a) = .returned (.int .u64 b) := by rw [h]
theorem ret_u64b {a b : Int} (x : Bool) (h : a = b) : Ending.returned (.tuple #[.int .u64 a, .bool x]) = .returned (.tuple #[.int .u64 b, .bool x]) := by rw [h]
theorem ret_i64b {a b : Int} (x : Bool) (h : a = b) : Ending.returned (.tuple #[.int .i64 a, .bool x]) = .returned (.tuple #[.int .i64 b, .bool x]) := by rw [h]

theorem chain {w w1 w2 : World} (h1 : Below w.heap.size w w1) (h2 : Below w1.heap.size w1 w2) : Below w.heap.size w w2 := h1.trans (h2.mono h1.size)

theorem ba_ext {a b : ByteArray} (h : a.data.toList = b.data.toList) : a = b := by
  obtain ⟨⟨a⟩⟩ := a
  obtain ⟨⟨b⟩⟩ := b
  simp at h
  rw [h]

theorem ba_list (a : ByteArray) : a = ⟨a.data.toList.toArray⟩ := ba_ext (by simp)

theorem bget (s : ByteArray) (k : Nat) (h : k < s.size) : s.data.toList[k]'(by simpa using h) = s[k] := by rw [Array.getElem_toList]; rfl
theorem list_len (s : ByteArray) : s.data.toList.length = s.size := by simp

theorem take_snoc (s : ByteArray) (k : Nat) (h : k < s.size) : s.data.toList.take (k + 1) = s.data.toList.take k ++ [s[k]] := by
  rw [List.take_succ_eq_append_getElem (by simpa using h), bget s k h]

theorem drop_cons (s : ByteArray) (k : Nat) (h : k < s.size) : s.data.toList.drop k = s[k] :: s.data.toList.drop (k + 1) := by
  rw [List.drop_eq_getElem_cons (by simpa using h), bget s k h]

theorem isEmpty_size (s : ByteArray) : s.toList.isEmpty = decide (s.size = 0) := by
  rw [ByteArray.toList_eq, Bool.eq_iff_iff, List.isEmpty_iff, decide_eq_true_eq, ← List.length_eq_zero_iff, list_len]

theorem eq_toList (a b : ByteArray) : (a.toList == b.toList) = decide (a = b) := by
  rw [Bool.eq_iff_iff, beq_iff_eq, decide_eq_true_eq, ByteArray.toList_eq, ByteArray.toList_eq]
  exact ⟨fun h => ba_ext h, fun h => by rw [h]⟩

theorem extract_list (s : ByteArray) (i j : Nat) : (s.extract i j).data.toList = (s.data.toList.drop i).take (j - i) := by
  rw [ByteArray.data_extract, Array.toList_extract]

theorem ext1_list (s : ByteArray) (c : UInt8) (r : List UInt8) (h : s.data.toList = c :: r) : (s.extract 1 s.size).data.toList = r := by
  have hl := list_len s
  rw [h] at hl
  rw [extract_list, h, List.drop_one, List.tail_cons, List.take_of_length_le]
  simp at hl
  omega

theorem app_list (a b : ByteArray) : (a ++ b).data.toList = a.data.toList ++ b.data.toList := by simp

theorem wrap64_range (n : Int) : -9223372036854775808 ≤ wrap64 n ∧ wrap64 n ≤ 9223372036854775807 := by
  unfold wrap64
  omega
end Go.Proofs.YtmnigdcgdebgoaaDoor
namespace Go.Proofs.YtmnigdcgdebgoaaDoor
open Go.RowKit
set_option linter.unusedVariables false

theorem Tryd.infoU8 : (Tryd.prog.info? 5).map (fun i => (i.zero, i.size, i.bytes)) = some (some (.int .u8 0), 1, 1) := by kernel_rfl

/-- The bytes as cells. -/
def u8s (l : List UInt8) : List Value := l.map fun c => .int .u8 (c.toNat : Int)

/-- The slice v, made from block base on, holds the bytes l. -/
def RowB (w : World) (base : Nat) (v : Value) (l : List UInt8) : Prop := w.ownsRow base 5 1 v l.length (u8s l)

theorem RowB.nil (w : World) (base : Nat) : RowB w base (.slice none 0 0) [] := World.ownsRow_nil w base 5 1

theorem RowB.alloc {w : World} {base : Nat} {v : Value} {l : List UInt8} (h : RowB w base v l) (o : Obj) : RowB (w.alloc o) base v l := World.ownsRow.alloc h o

theorem RowB.block {w : World} {base : Nat} {v : Value} {l : List UInt8} (h : RowB w base v l) : ∀ k, v.ownBlock = some k → base ≤ k := fun k hk => (World.ownsRow.lt h k hk).1

theorem RowB.keep {w w' : World} {base : Nat} {v : Value} {l : List UInt8} (h : RowB w base v l) (hb : Below w.heap.size w w') : RowB w' base v l := by
  obtain ⟨h1, h2⟩ := h
  refine ⟨h1, ?_⟩
  rcases h2 with h2 | ⟨g, cap, cur, e, hbg, hg, h3⟩
  · exact .inl h2
  · have hlt : g < w.heap.size := (Array.getElem?_eq_some_iff.1 hg).1
    exact .inr ⟨g, cap, cur, e, hbg, by rw [hb.block g hlt]; exact hg, h3⟩

theorem RowB.back {w : World} {base : Nat} {v : Value} {l : List UInt8} (h : RowB w base v l) : Sem.run Tryd.prog (convert 58 9 v) w = .ok (.string ⟨l.toArray⟩) w := by
  have h0 := h
  obtain ⟨_, ⟨rfl, hn⟩ | ⟨g, cap, cur, rfl, _, _, _⟩⟩ := h
  · have e : l = [] := List.length_eq_zero_iff.1 hn
    subst e
    exact run_convert_bytes_nil (P := Tryd.prog) (w := w) 58 5 Tryd.underlying58 Tryd.underlying5 0 0 9 Tryd.underlying9
  · refine run_convert_bytes_back w 58 9 5 ⟨g, 0, none⟩ cap l Tryd.underlying58 Tryd.underlying5 Tryd.underlying9 (fun j hj => ?_)
    have hc := World.ownsRow.cellAt h0 j (by omega)
    have e : (⟨g, 0, none⟩ : Addr).add j = ⟨g, j, none⟩ := by cases j <;> simp [Addr.add]
    rw [e, hc]
    simp [u8s, List.getElem?_eq_getElem hj]

/-- string([]byte{..}). -/
theorem lit_back (l : List UInt8) (W : World) : Sem.run Tryd.prog (convert 58 9 (.slice (some ⟨W.heap.size, 0, none⟩) l.length l.length)) (W.alloc (.cells (u8s l).toArray 5)) = .ok (.string ⟨l.toArray⟩) (W.alloc (.cells (u8s l).toArray 5)) := by
  refine run_convert_bytes_back (P := Tryd.prog) _ 58 9 5 ⟨W.heap.size, 0, none⟩ l.length l Tryd.underlying58 Tryd.underlying5 Tryd.underlying9 (fun j hj => ?_)
  have e : (⟨W.heap.size, 0, none⟩ : Addr).add j = ⟨W.heap.size, j, none⟩ := by cases j <;> simp [Addr.add]
  rw [e]
  have := cell_of_row (W.alloc (.cells (u8s l).toArray 5)) W.heap.size j (u8s l).toArray 5 (0, 0) (heap_alloc_new W _)
  rw [this]
  simp [u8s, List.getElem?_eq_getElem hj]

theorem one_back (v : Int) (c : UInt8) (hv : v = (c.toNat : Int)) (W : World) : Sem.run Tryd.prog (convert 58 9 (.slice (some ⟨W.heap.size, 0, none⟩) 1 1)) (W.alloc (.cells #[.int .u8 v] 5)) = .ok (.string ⟨#[c]⟩) (W.alloc (.cells #[.int .u8 v] 5)) := by
  subst hv
  exact lit_back [c] W

theorem two_back (v0 v1 : Int) (c0 c1 : UInt8) (h0 : v0 = (c0.toNat : Int)) (h1 : v1 = (c1.toNat : Int)) (W : World) :
    Sem.run Tryd.prog (convert 58 9 (.slice (some ⟨W.heap.size, 0, none⟩) 2 2)) (W.alloc (.cells #[.int .u8 v0, .int .u8 v1] 5)) = .ok (.string ⟨#[c0, c1]⟩) (W.alloc (.cells #[.int .u8 v0, .int .u8 v1] 5)) := by
  subst h0 h1
  exact lit_back [c0, c1] W

theorem three_back (v0 v1 v2 : Int) (c0 c1 c2 : UInt8) (h0 : v0 = (c0.toNat : Int)) (h1 : v1 = (c1.toNat : Int)) (h2 : v2 = (c2.toNat : Int)) (W : World) :
    Sem.run Tryd.prog (convert 58 9 (.slice (some ⟨W.heap.size, 0, none⟩) 3 3)) (W.alloc (.cells #[.int .u8 v0, .int .u8 v1, .int .u8 v2] 5)) = .ok (.string ⟨#[c0, c1, c2]⟩) (W.alloc (.cells #[.int .u8 v0, .int .u8 v1, .int .u8 v2] 5)) := by
  subst h0 h1 h2
  exact lit_back [c0, c1, c2] W

theorem four_back (v0 v1 v2 v3 : Int) (c0 c1 c2 c3 : UInt8) (h0 : v0 = (c0.toNat : Int)) (h1 : v1 = (c1.toNat : Int)) (h2 : v2 = (c2.toNat : Int)) (h3 : v3 = (c3.toNat : Int)) (W : World) :
    Sem.run Tryd.prog (convert 58 9 (.slice (some ⟨W.heap.size, 0, none⟩) 4 4)) (W.alloc (.cells #[.int .u8 v0, .int .u8 v1, .int .u8 v2, .int .u8 v3] 5)) = .ok (.string ⟨#[c0, c1, c2, c3]⟩) (W.alloc (.cells #[.int .u8 v0, .int .u8 v1, .int .u8 v2, .int .u8 v3] 5)) := by
  subst h0 h1 h2 h3
  exact lit_back [c0, c1, c2, c3] W

/-- append of one byte. -/
theorem wpList_push {w : World} {ops : Array Oper} {rest : List Oper} {o : Oper} {a : Act} {Q : Exit → Act → World → Prop} (hgd : o.guard = none) (s x : Operand)
    (ho : o.op = .call { callee := .builtin .append, args := #[s, x], argTypes := #[58, 58] }) {base : Nat} {v : Value} {l : List UInt8} (hown : RowB w base v l) {c : UInt8} {i : Int} (hi : i = (c.toNat : Int))
    (hs : a.eval s = v) (hx : a.eval x = .slice (some ⟨w.heap.size, 0, none⟩) 1 1) (hl : l.length + 1 ≤ 140737488355328) (hbase : base ≤ w.heap.size)
    (h : ∀ v' w', RowB w' base v' (l ++ [c]) → (∀ B a0, Below B a0 w → B ≤ base → Below B a0 w') → base ≤ w'.heap.size → wpList Tryd.prog ops Q rest (a.put o.dst v') w') :
    wpList Tryd.prog ops Q (o :: rest) a (w.alloc (.cells #[.int .u8 i] 5)) := by
  subst hi
  obtain ⟨i0, hi, hz0, hz1, hz2⟩ := info_parts Tryd.infoU8
  refine wpList_append_own (P := Tryd.prog) _ hgd s x 58 ho base 5 i0 (.int .u8 0) 1 1 Tryd.underlying58 hi hz0 hz1 hz2 rfl (by decide) v l.length (u8s l) hs (hown.alloc _) ⟨w.heap.size, 0, none⟩ 1 1 [.int .u8 (c.toNat : Int)] hx rfl ?_ ?_ ?_ ?_ ?_ ?_
  · intro j u hj
    match j, hj with
    | 0, hj => simp at hj; subst hj; simp [Addr.add]
  · intro u hu
    simp at hu
    subst hu
    rfl
  · unfold maxLen; omega
  · omega
  · simp; omega
  · intro v' w' hown' hgrow _
    refine h v' w' ?_ ?_ ?_
    · show w'.ownsRow base 5 1 v' (l ++ [c]).length (u8s (l ++ [c]))
      rw [List.length_append]
      have e : u8s (l ++ [c]) = u8s l ++ [.int .u8 (c.toNat : Int)] := by simp [u8s]
      rw [e]
      exact hown'
    · intro B a0 hB hle
      refine (hB.alloc (by omega) _).grown hgrow (by simp; omega) (fun k hk => ?_)
      have := hown.block k hk
      omega
    · have := hgrow.size
      simp at this
      omega
/-- The first bytes of block g are l, and may be written. -/
def BytesAt (w : World) (g : Nat) (l : List UInt8) : Prop :=
  (∀ j (hj : j < l.length), w.cell? ⟨g, j, none⟩ = some (.int .u8 (l[j].toNat : Int))) ∧ (∀ j, j < l.length → w.frozen? ⟨g, j, none⟩ = false)

theorem BytesAt.set {w : World} {g : Nat} {l : List UInt8} (h : BytesAt w g l) (k : Nat) (hk : k < l.length) (c : UInt8) (v : Int) (hv : v = (c.toNat : Int)) :
    BytesAt (w.setCell ⟨g, k, none⟩ (.int .u8 v)) g (l.set k c) := by
  subst hv
  refine ⟨fun j hj => ?_, fun j hj => ?_⟩
  · have hj' : j < l.length := by simpa using hj
    by_cases e : j = k
    · subst e
      rw [World.cell?_setCell_same w _ _ (h.1 j hj')]
      simp
    · rw [World.cell?_setCell_other w _ _ _ (fun h => e (by injection h; omega)), h.1 j hj', List.getElem_set_ne (by omega)]
  · rw [World.frozen?_setCell]
    exact h.2 j (by simpa using hj)

theorem BytesAt.back {w : World} {g : Nat} {l : List UInt8} (h : BytesAt w g l) (n cap : Nat) (hn : n = l.length) : Sem.run Tryd.prog (convert 58 9 (.slice (some ⟨g, 0, none⟩) n cap)) w = .ok (.string ⟨l.toArray⟩) w := by
  subst hn
  exact run_convert_bytes_back w 58 9 5 ⟨g, 0, none⟩ cap l Tryd.underlying58 Tryd.underlying5 Tryd.underlying9 (fun j hj => by have := h.1 j hj; cases j <;> simpa [Addr.add] using this)

theorem bytes_made (s : ByteArray) (w : World) (cap : Nat) (_hc : s.size ≤ cap) : BytesAt ((w.alloc (.cells (bytesRow s cap) 5 ((bytesRow s cap).size, (bytesRow s cap).size + 1))).drew) w.heap.size s.data.toList := by
  refine ⟨fun j hj => ?_, fun j hj => ?_⟩
  · have hj' : j < s.data.size := by simpa using hj
    show (w.alloc (.cells (bytesRow s cap) 5 _)).cell? _ = _
    rw [World.cell?_alloc_mark, bytesRow_at s cap j hj']
    simp
  · show (w.alloc (.cells (bytesRow s cap) 5 _)).frozen? _ = _
    rw [World.frozen?_alloc_mark]
    have hz : (bytesRow s cap).size = s.data.size + (cap - s.size) := by simp [bytesRow]
    have hj' : j < s.data.size := by simpa using hj
    have hj2 : j < s.size := hj'
    rw [hz]
    have e1 : decide (s.data.size + (cap - s.size) ≤ j) = false := by simp; omega
    rw [e1]
    rfl
theorem BytesAt.drew {w : World} {g : Nat} {l : List UInt8} (h : BytesAt w g l) : BytesAt w.drew g l := ⟨fun j hj => h.1 j hj, fun j hj => h.2 j hj⟩

theorem BytesAt.keep {w w' : World} {g : Nat} {l : List UInt8} (h : BytesAt w g l) (hb : Below w.heap.size w w') : BytesAt w' g l := by
  have hlt : ∀ j (hj : j < l.length), g < w.heap.size := fun j hj => World.block_lt_of_cell? w ⟨g, j, none⟩ (h.1 j hj)
  refine ⟨fun j hj => ?_, fun j hj => ?_⟩
  · rw [hb.cell (p := ⟨g, j, none⟩) (hlt j hj)]
    exact h.1 j hj
  · rw [hb.frozen (p := ⟨g, j, none⟩) (hlt j hj)]
    exact h.2 j hj
end Go.Proofs.YtmnigdcgdebgoaaDoor
namespace Go.Proofs.YtmnigdcgdebgoaaDoor
open Go.RowKit
set_option linter.unusedVariables false

theorem wp_region_below {P : Program} {id : Nat} {Q : Exit → Act → World → Prop} {a : Act} {w w0 : World} {g : Nat} {l : List Oper} (hm : P.follows .mixedOrders = true) (hB : Region.lexB .any l.toArray = true) (hb : Below g w0 w)
    (h : (∃ x, Below g w0 x) → wpQuiet P l.toArray (fun w' => Below g w0 w') (fun a' => ∀ w', Below g w0 w' → Q .normal a' w') l a) : (Code.region id l.toArray true).wp P Q a w :=
  wp_region_quiet (C := fun w' => Below g w0 w') hm hB hb.drew (by simpa using h ⟨w, hb⟩)

/-- A world that is as w0 below its heap's end. -/
structure Ext (w0 : World) where
  world : World
  below : Below w0.heap.size w0 world

instance (w0 : World) : Nonempty (Ext w0) := ⟨⟨w0, Below.refl _ _⟩⟩

theorem Ext.on {w0 : World} (x : Ext w0) {w1 : World} (h : Below x.world.heap.size x.world w1) : ∃ y : Ext w0, w1 = y.world := ⟨⟨w1, chain x.below h⟩, rfl⟩
theorem Ext.same {w0 : World} (x : Ext w0) {w1 : World} (h : x.world = w1) : ∃ y : Ext w0, w1 = y.world := ⟨x, h.symm⟩

theorem Ext.cell {w0 : World} (x : Ext w0) (p : Addr) (h : p.block < w0.heap.size) : x.world.cell? p = w0.cell? p := x.below.cell h

/-- The same, where cells of old blocks are read: a fact 'for every x : Ext w, x.world.cell? p = ..' among the hypotheses serves. -/
theorem wp_region_ext {P : Program} {id : Nat} {Q : Exit → Act → World → Prop} {a : Act} {w : World} {l : List Oper} (hm : P.follows .mixedOrders = true) (hB : Region.lexB .any l.toArray = true)
    (h : wpQuiet P l.toArray (fun w' => ∃ x : Ext w, w' = x.world) (fun a' => ∀ w', (∃ x : Ext w, w' = x.world) → Q .normal a' w') l a) : (Code.region id l.toArray true).wp P Q a w :=
  wp_region_quiet (C := fun w' => ∃ x : Ext w, w' = x.world) hm hB ⟨⟨w.drew, (Below.refl _ _).drew⟩, rfl⟩ (by simpa using h)
/-- The walk stands still before a region that draws: 'go_wp2_with (refine wp_halt ?_)', then 'refine Halt.on ?_'. -/
def Halt (p : Prop) : Prop := p
theorem wp_halt {P : Program} {id : Nat} {ops : Array Oper} {Q : Exit → Act → World → Prop} {a : Act} {w : World} (h : Halt ((Code.region id ops true).wp P Q a w)) : (Code.region id ops true).wp P Q a w := h
theorem Halt.on {p : Prop} (h : p) : Halt p := h

/-- An append whose run is known, guarded or not. -/
theorem wpList_append_run {P : Program} {w : World} {ops : Array Oper} {rest : List Oper} {o : Oper} {a : Act} {Q : Exit → Act → World → Prop} (hw : Region.wanted o (yielded ops a.tmps) = true) (s x : Operand) (t : TypeId)
    (ho : o.op = .call { callee := .builtin .append, args := #[s, x], argTypes := #[t, t] }) {v1 v2 v' : Value} {w' : World} (hs : a.eval s = v1) (hx : a.eval x = v2)
    (hrun : (Builtin.append_ #[t, t] o.type #[v1, v2]).run P w = .ok v' w') (h : wpList P ops Q rest (a.put o.dst v') w') : wpList P ops Q (o :: rest) a w := by
  unfold wpList
  rw [if_pos hw]
  refine .inl ?_
  unfold Oper.wp
  simp [execOp, ho, resolve, invoke, builtin, hs, hx, hrun, Result.andThen]
  exact h
end Go.Proofs.YtmnigdcgdebgoaaDoor
namespace Go.Proofs.YtmnigdcgdebgoaaDoor
open Go.RowKit Go.ChangeShapes Go.WideShapes
set_option linter.unusedVariables false

/-- The numbers that a slice of ints holds. -/
def IntsAt (w : World) (v : Value) (l : List Int) : Prop :=
  (v = .slice none 0 0 ∧ l = []) ∨ ∃ ad cap, v = .slice (some ad) l.length cap ∧ l.length ≤ cap ∧ ∀ j (hj : j < l.length), w.cell? (ad.add j) = some (.int .i64 l[j])

theorem IntsAt.nil (w : World) : IntsAt w (.slice none 0 0) [] := .inl ⟨rfl, rfl⟩

theorem IntsAt.keep {w w' : World} {v : Value} {l : List Int} (h : IntsAt w v l) (hb : Below w.heap.size w w') : IntsAt w' v l := by
  rcases h with h | ⟨ad, cap, rfl, hle, hc⟩
  · exact .inl h
  · refine .inr ⟨ad, cap, rfl, hle, fun j hj => ?_⟩
    have h1 := hc j hj
    have hlt := World.block_lt_of_cell? w _ h1
    rw [hb.cell hlt]
    exact h1

/-- Its shape, for a walk. -/
theorem IntsAt.shape {w : World} {v : Value} {l : List Int} (h : IntsAt w v l) : ∃ ao n cap, v = .slice ao n cap ∧ n = l.length ∧ ∀ j (hj : j < l.length), ∃ ad, ao = some ad ∧ w.cell? (ad.add j) = some (.int .i64 l[j]) := by
  rcases h with ⟨rfl, rfl⟩ | ⟨ad, cap, rfl, _, hc⟩
  · exact ⟨none, 0, 0, rfl, rfl, fun j hj => by cases hj⟩
  · exact ⟨some ad, l.length, cap, rfl, rfl, fun j hj => ⟨ad, rfl, hc j hj⟩⟩

theorem Tryd.infoInt : (Tryd.prog.info? 3).map (fun i => (i.zero, i.size, i.bytes)) = some (some (.int .i64 0), 1, 8) := by kernel_rfl

def i64s (l : List Int) : List Value := l.map fun n => .int .i64 n

/-- The slice v, made from block base on, holds the numbers l. -/
def RowI (w : World) (base : Nat) (v : Value) (l : List Int) : Prop := w.ownsRow base 3 1 v l.length (i64s l)

theorem RowI.nil (w : World) (base : Nat) : RowI w base (.slice none 0 0) [] := World.ownsRow_nil w base 3 1
theorem RowI.alloc {w : World} {base : Nat} {v : Value} {l : List Int} (h : RowI w base v l) (o : Obj) : RowI (w.alloc o) base v l := World.ownsRow.alloc h o
theorem RowI.block {w : World} {base : Nat} {v : Value} {l : List Int} (h : RowI w base v l) : ∀ k, v.ownBlock = some k → base ≤ k := fun k hk => (World.ownsRow.lt h k hk).1

theorem RowI.keep {w w' : World} {base : Nat} {v : Value} {l : List Int} (h : RowI w base v l) (hb : Below w.heap.size w w') : RowI w' base v l := by
  obtain ⟨h1, h2⟩ := h
  refine ⟨h1, ?_⟩
  rcases h2 with h2 | ⟨g, cap, cur, e, hbg, hg, h3⟩
  · exact .inl h2
  · have hlt : g < w.heap.size := (Array.getElem?_eq_some_iff.1 hg).1
    exact .inr ⟨g, cap, cur, e, hbg, by rw [hb.block g hlt]; exact hg, h3⟩

theorem RowI.ints {w : World} {base : Nat} {v : Value} {l : List Int} (h : RowI w base v l) : IntsAt w v l := by
  have h0 := h
  obtain ⟨_, ⟨rfl, hn⟩ | ⟨g, cap, cur, rfl, _, _, hle, _⟩⟩ := h
  · exact .inl ⟨rfl, List.length_eq_zero_iff.1 hn⟩
  · refine .inr ⟨⟨g, 0, none⟩, cap, rfl, hle, fun j hj => ?_⟩
    have hc := World.ownsRow.cellAt h0 j (by omega)
    have e : (⟨g, 0, none⟩ : Addr).add j = ⟨g, j, none⟩ := by cases j <;> simp [Addr.add]
    rw [e, hc]
    simp [i64s, List.getElem?_eq_getElem hj]

/-- append of one int. -/
theorem wpList_pushI {w : World} {ops : Array Oper} {rest : List Oper} {o : Oper} {a : Act} {Q : Exit → Act → World → Prop} (hgd : o.guard = none) (s x : Operand)
    (ho : o.op = .call { callee := .builtin .append, args := #[s, x], argTypes := #[98, 98] }) {base : Nat} {v : Value} {l : List Int} (hown : RowI w base v l) {i : Int}
    (hs : a.eval s = v) (hx : a.eval x = .slice (some ⟨w.heap.size, 0, none⟩) 1 1) (hl : (l.length + 1) * 8 ≤ 140737488355328) (hbase : base ≤ w.heap.size)
    (h : ∀ v' w', RowI w' base v' (l ++ [i]) → (∀ B a0, Below B a0 w → B ≤ base → Below B a0 w') → base ≤ w'.heap.size → wpList Tryd.prog ops Q rest (a.put o.dst v') w') :
    wpList Tryd.prog ops Q (o :: rest) a (w.alloc (.cells #[.int .i64 i] 3)) := by
  obtain ⟨i0, hi, hz0, hz1, hz2⟩ := info_parts Tryd.infoInt
  refine wpList_append_own (P := Tryd.prog) _ hgd s x 98 ho base 3 i0 (.int .i64 0) 1 8 Tryd.underlying98 hi hz0 hz1 hz2 rfl (by decide) v l.length (i64s l) hs (hown.alloc _) ⟨w.heap.size, 0, none⟩ 1 1 [.int .i64 i] hx rfl ?_ ?_ ?_ ?_ ?_ ?_
  · intro j u hj
    match j, hj with
    | 0, hj => simp at hj; subst hj; simp [Addr.add]
  · intro u hu
    simp at hu
    subst hu
    rfl
  · unfold maxLen; omega
  · omega
  · simp; omega
  · intro v' w' hown' hgrow _
    refine h v' w' ?_ ?_ ?_
    · show w'.ownsRow base 3 1 v' (l ++ [i]).length (i64s (l ++ [i]))
      rw [List.length_append]
      have e : i64s (l ++ [i]) = i64s l ++ [.int .i64 i] := by simp [i64s]
      rw [e]
      exact hown'
    · intro B a0 hB hle
      refine (hB.alloc (by omega) _).grown hgrow (by simp; omega) (fun k hk => ?_)
      have := hown.block k hk
      omega
    · have := hgrow.size
      simp at this
      omega

theorem ints_cells {w : World} {ad : Addr} {l : List Int} (h : ∀ j (hj : j < l.length), w.cell? (ad.add j) = some (.int .i64 l[j])) : ∀ j u, (i64s l)[j]? = some u → w.cell? (ad.add j) = some u := by
  intro j u hu
  unfold i64s at hu
  rw [List.getElem?_map] at hu
  cases hj : l[j]? with
  | none => rw [hj] at hu; cases hu
  | some x =>
    rw [hj] at hu
    obtain ⟨h1, h2⟩ := List.getElem?_eq_some_iff.1 hj
    have := h j h1
    rw [h2] at this
    rw [this]
    exact hu

theorem ints_one (l : List Int) : ∀ u ∈ i64s l, u.oneCell' = true := by
  intro u hu
  unfold i64s at hu
  obtain ⟨x, _, rfl⟩ := List.mem_map.1 hu
  rfl

theorem src_none (w : World) (uo : Option Addr) (c : Nat) : Src Tryd.prog 1 98 (.slice uo 0 c) 0 [] w := by
  cases uo with
  | none => exact Src.ofNil w Tryd.underlying98 c
  | some a => exact Src.ofSlice w Tryd.underlying98 a 0 c [] (by simp) (fun j u h => by simp at h) (fun u h => by simp at h)

/-- append(l[:len(l):len(l)], m...). -/
theorem append_ints (w : World) (ty : TypeId) (so : Option Addr) (n : Nat) (hso : so = none → n = 0) (u : Value) (la lb : List Int) (hn : n = la.length) (hs : ∀ b, so = some b → ∀ j (hj : j < la.length), w.cell? (b.add j) = some (.int .i64 la[j])) (hu : IntsAt w u lb) (hz : (la.length + lb.length) * 8 ≤ 140737488355328) :
    ∃ v' w', (Builtin.append_ #[98, 98] ty #[.slice so n n, u]).run Tryd.prog w = .ok v' w' ∧ IntsAt w' v' (la ++ lb) ∧ Below w.heap.size w w' := by
  obtain ⟨i0, hi, hz0, hz1, hz2⟩ := info_parts Tryd.infoInt
  have hself : IntsAt w (.slice so n n) la := by
    cases so with
    | none =>
      have : n = 0 := hso rfl
      subst this
      exact .inl ⟨rfl, List.length_eq_zero_iff.1 hn.symm⟩
    | some b => exact .inr ⟨b, n, by rw [hn], by omega, hs b rfl⟩
  by_cases hb : lb = []
  · subst hb
    have hu' : ∃ uo c, u = .slice uo 0 c := by
      rcases hu with ⟨rfl, _⟩ | ⟨ad, c, rfl, _, _⟩
      · exact ⟨none, 0, rfl⟩
      · exact ⟨some ad, c, rfl⟩
    obtain ⟨uo, c, rfl⟩ := hu'
    have h := run_append_nothing (P := Tryd.prog) w 98 98 ty 3 i0 Tryd.underlying98 hi so n n (Nat.le_refl _) (.slice uo 0 c) (by rw [hz1]; exact src_none w uo c)
    exact ⟨_, _, h, by rw [List.append_nil]; exact hself, Below.refl _ _⟩
  · rcases hu with ⟨_, h⟩ | ⟨ad, c, rfl, _, hc⟩
    · exact absurd h hb
    · have hlb : 0 < lb.length := by
        cases lb with
        | nil => exact absurd rfl hb
        | cons x t => simp
      have done : ∀ v' w' base, base ≥ w.heap.size → w'.ownsRow base 3 1 v' (la.length + lb.length) (i64s la ++ i64s lb) → IntsAt w' v' (la ++ lb) := by
        intro v' w' base _ h
        have h' : RowI w' base v' (la ++ lb) := by
          show w'.ownsRow base 3 1 v' (la ++ lb).length (i64s (la ++ lb))
          rw [List.length_append]
          have e : i64s (la ++ lb) = i64s la ++ i64s lb := by simp [i64s]
          rw [e]
          exact h
        exact h'.ints
      cases so with
      | none =>
        have h0 : n = 0 := hso rfl
        subst h0
        have e : la = [] := List.length_eq_zero_iff.1 hn.symm
        subst e
        obtain ⟨v', w', h1, h2, h3, _⟩ := run_append_own (P := Tryd.prog) (w := w) w.heap.size 98 ty 3 i0 (.int .i64 0) 1 8 Tryd.underlying98 hi hz0 hz1 hz2 rfl (by decide) (.slice none 0 0) 0 [] (World.ownsRow_nil _ _ _ _) ad lb.length c (i64s lb) (by simp [i64s]) (ints_cells hc) (ints_one lb) (by simp at hz; unfold maxLen; omega) (by simpa using hz) (Nat.le_refl _)
        exact ⟨v', w', h1, done v' w' _ (Nat.le_refl _) h2, (Below.refl _ _).grown h3 (Nat.le_refl _) (fun k hk => by cases hk)⟩
      | some b =>
        subst hn
        obtain ⟨v', w', h1, h2, h3⟩ := run_append_arg_grows (P := Tryd.prog) (w := w) 98 ty 3 i0 (.int .i64 0) 1 8 Tryd.underlying98 hi hz0 hz1 hz2 rfl (by decide) b la.length la.length (i64s la) (by simp [i64s]) (ints_cells (hs b rfl)) ad lb.length c (i64s lb) (by simp [i64s]) (ints_cells hc) (by omega) (by unfold maxLen; omega) hz
        exact ⟨v', w', h1, done v' w' _ (Nat.le_refl _) h2, (Below.refl _ _).grown h3 (Nat.le_refl _) (fun k hk => by cases hk)⟩

theorem Tryd.cellsInt : Tryd.prog.cellsOf 3 = 1 := by kernel_rfl
theorem Tryd.bytesInt : Tryd.prog.bytesOf 3 = 8 := by kernel_rfl
theorem Tryd.laidOutI : laidOutB Tryd.prog = true := by kernel_rfl

/-- An argument that is a slice of ints. -/
theorem ints_opened {H : Type} {enc : TypeId × Value → H} {W : World} {v : Value} {d : DataW H} {ps : List MemPlace} {ts : List TypeId} {ds : List (DataW H)} {j : Nat}
    (h : DataW.Trod enc Tryd.prog W 0 (fun _ => true) true 98 v d ps) (hv : ∃ a len cap, v = .slice a len cap)
    (hsz : (DataW.weightsEach Tryd.prog ts ds).all (· ≤ reachBytes) = true) (ht : ts[j]? = some 98) (hd : ds[j]? = some d) :
    ∃ l : List Int, IntsAt W v l ∧ l.length * 8 ≤ 140737488351232 ∧ ∀ n ∈ l, -9223372036854775808 ≤ n ∧ n ≤ 9223372036854775807 := by
  obtain ⟨a0, len, cap, rfl⟩ := hv
  obtain ⟨fuel, hf⟩ := h
  rcases open_ints Tryd.underlying98 Tryd.underlying3 Tryd.cellsInt hf with ⟨hcs, hx⟩ | ⟨a, len', cap', zs, hcs, _, hl, hm, hz, hx, hcell, hws⟩
  · simp [Value.cells] at hcs
    obtain ⟨rfl, rfl, rfl⟩ := hcs
    exact ⟨[], IntsAt.nil W, by simp, by simp⟩
  · simp [Value.cells] at hcs
    obtain ⟨rfl, rfl, rfl⟩ := hcs
    simp only [if_true] at hz
    have e : d = .slice (lits .i64 (zs.take len)) (lits .i64 (zs.drop len)) := congrArg Prod.fst hx
    have hlen : (zs.take len).length = len := by rw [List.length_take]; omega
    have hw := sized_slice hsz ht (by rw [hd, e]) Tryd.underlying98
    refine ⟨zs.take len, .inr ⟨a, cap, by rw [hlen], by rw [hlen]; exact hl, fun i hi => ?_⟩, ?_, fun n hn => ?_⟩
    · have hi' : i < zs.length := by rw [hlen] at hi; omega
      rw [hcell i hi', List.getElem_take, List.getD_eq_getElem?_getD, List.getElem?_eq_getElem hi']
      rfl
    · rw [Tryd.bytesInt] at hw
      simp only [lits, List.length_map, List.length_take, List.length_drop, reachBytes] at hw
      rw [hlen]
      omega
    · exact bounds_i64 (hws n (List.mem_of_mem_take hn))
end Go.Proofs.YtmnigdcgdebgoaaDoor
namespace Go.Proofs.YtmnigdcgdebgoaaDoor
open Go.RowKit
set_option linter.unusedVariables false

/-- append of the bytes l2. -/
theorem wpList_pushN {w : World} {ops : Array Oper} {rest : List Oper} {o : Oper} {a : Act} {Q : Exit → Act → World → Prop} (hgd : o.guard = none) (s x : Operand)
    (ho : o.op = .call { callee := .builtin .append, args := #[s, x], argTypes := #[58, 58] }) {base : Nat} {v : Value} {l : List UInt8} (hown : RowB w base v l) (l2 : List UInt8) {cs : Array Value} {m : Nat} (hcs : cs = (u8s l2).toArray) (hm : m = l2.length)
    (hs : a.eval s = v) (hx : a.eval x = .slice (some ⟨w.heap.size, 0, none⟩) m m) (hl : l.length + l2.length ≤ 140737488355328) (hbase : base ≤ w.heap.size)
    (h : ∀ v' w', RowB w' base v' (l ++ l2) → (∀ B a0, Below B a0 w → B ≤ base → Below B a0 w') → base ≤ w'.heap.size → wpList Tryd.prog ops Q rest (a.put o.dst v') w') :
    wpList Tryd.prog ops Q (o :: rest) a (w.alloc (.cells cs 5)) := by
  subst hcs hm
  obtain ⟨i0, hi, hz0, hz1, hz2⟩ := info_parts Tryd.infoU8
  refine wpList_append_own (P := Tryd.prog) _ hgd s x 58 ho base 5 i0 (.int .u8 0) 1 1 Tryd.underlying58 hi hz0 hz1 hz2 rfl (by decide) v l.length (u8s l) hs (hown.alloc _) ⟨w.heap.size, 0, none⟩ l2.length l2.length (u8s l2) hx (by simp [u8s]) ?_ ?_ ?_ ?_ ?_ ?_
  · intro j u hj
    have e : (⟨w.heap.size, 0, none⟩ : Addr).add j = ⟨w.heap.size, j, none⟩ := by cases j <;> simp [Addr.add]
    rw [e, cell_of_row (w.alloc (.cells (u8s l2).toArray 5)) w.heap.size j (u8s l2).toArray 5 (0, 0) (heap_alloc_new w _)]
    rw [List.getElem?_toArray]
    exact hj
  · intro u hu
    unfold u8s at hu
    obtain ⟨c, _, rfl⟩ := List.mem_map.1 hu
    rfl
  · unfold maxLen; omega
  · omega
  · simp; omega
  · intro v' w' hown' hgrow _
    refine h v' w' ?_ ?_ ?_
    · show w'.ownsRow base 5 1 v' (l ++ l2).length (u8s (l ++ l2))
      rw [List.length_append]
      have e : u8s (l ++ l2) = u8s l ++ u8s l2 := by simp [u8s]
      rw [e]
      exact hown'
    · intro B a0 hB hle
      refine (hB.alloc (by omega) _).grown hgrow (by simp; omega) (fun k hk => ?_)
      have := hown.block k hk
      omega
    · have := hgrow.size
      simp at this
      omega

/-- A row that a literal makes. -/
theorem RowB.made (w : World) (l : List UInt8) (cs : Array Value) (hcs : cs = (u8s l).toArray) (hl : l.length ≤ 1000) : RowB (w.alloc (.cells cs 5)) w.heap.size (.slice (some ⟨w.heap.size, 0, none⟩) l.length l.length) l := by
  subst hcs
  refine ⟨by simp [u8s], .inr ⟨w.heap.size, l.length, (u8s l).toArray, rfl, Nat.le_refl _, heap_alloc_new w _, Nat.le_refl _, by unfold maxLen; omega, by simp [u8s], ?_⟩⟩
  rw [List.take_of_length_le (by simp [u8s])]
end Go.Proofs.YtmnigdcgdebgoaaDoor
