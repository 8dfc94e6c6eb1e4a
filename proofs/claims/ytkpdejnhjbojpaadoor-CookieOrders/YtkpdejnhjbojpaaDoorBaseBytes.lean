/-
  Rows of bytes that a call makes itself, and appends to.
-/
import Derived.Test.YtkpdejnhjbojpaaDoorBase
import Derived.Laws.IdiomStrings
import Derived.Laws.BytesArg
namespace Go.Proofs.YtkpdejnhjbojpaaDoor
open Go.RowKit
set_option linter.unusedVariables false

theorem Tryd.infoU8 : (Tryd.prog.info? 5).map (fun i => (i.zero, i.size, i.bytes)) = some (some (.int .u8 0), 1, 1) := by kernel_rfl

/-- The bytes as cells. -/
def u8s (l : List UInt8) : List Value := l.map fun c => .int .u8 (c.toNat : Int)

/-- The slice v, made from block base on, holds the bytes l. -/
def RowB (w : World) (base : Nat) (v : Value) (l : List UInt8) : Prop := w.ownsRow base 5 1 v l.length (u8s l)

theorem RowB.nil (w : World) (base : Nat) : RowB w base (.slice none 0 0) [] := World.ownsRow_nil w base 5 1

theorem RowB.alloc {w : World} {base : Nat} {v : Value} {l : List UInt8} (h : RowB w base v l) (o : Obj) : RowB (w.alloc o) base v l := World.ownsRow.alloc h o

theorem RowB.block {w : World} {base : Nat} {v : Value} {l : List UInt8} (h : RowB w base v l) : ∀ k, v.ownBlock = some k → base ≤ k := fun k hk => (World.ownsRow.lt h k hk).1

theorem RowB.keep {w w' : World} {base : Nat} {v : Value} {l : List UInt8} (h : RowB w base v l) (hb : Below w.heap.size w w') : RowB w' base v l := by
  obtain ⟨h1, h2⟩ := h
  refine ⟨h1, ?_⟩
  rcases h2 with h2 | ⟨g, cap, cur, e, hbg, hg, h3⟩
  · exact .inl h2
  · have hlt : g < w.heap.size := (Array.getElem?_eq_some_iff.1 hg).1
    exact .inr ⟨g, cap, cur, e, hbg, by rw [hb.block g hlt]; exact hg, h3⟩

theorem RowB.back {w : World} {base : Nat} {v : Value} {l : List UInt8} (h : RowB w base v l) : Sem.run Tryd.prog (convert 80 9 v) w = .ok (.string ⟨l.toArray⟩) w := by
  have h0 := h
  obtain ⟨_, ⟨rfl, hn⟩ | ⟨g, cap, cur, rfl, _, _, _⟩⟩ := h
  · have e : l = [] := List.length_eq_zero_iff.1 hn
    subst e
    exact run_convert_bytes_nil (P := Tryd.prog) (w := w) 80 5 Tryd.underlying80 Tryd.underlying5 0 0 9 Tryd.underlying9
  · refine run_convert_bytes_back w 80 9 5 ⟨g, 0, none⟩ cap l Tryd.underlying80 Tryd.underlying5 Tryd.underlying9 (fun j hj => ?_)
    have hc := World.ownsRow.cellAt h0 j (by omega)
    have e : (⟨g, 0, none⟩ : Addr).add j = ⟨g, j, none⟩ := by cases j <;> simp [Addr.add]
    rw [e, hc]
    simp [u8s, List.getElem?_eq_getElem hj]

/-- string([]byte{..}). -/
theorem lit_back (l : List UInt8) (W : World) : Sem.run Tryd.prog (convert 80 9 (.slice (some ⟨W.heap.size, 0, none⟩) l.length l.length)) (W.alloc (.cells (u8s l).toArray 5)) = .ok (.string ⟨l.toArray⟩) (W.alloc (.cells (u8s l).toArray 5)) := by
  refine run_convert_bytes_back (P := Tryd.prog) _ 80 9 5 ⟨W.heap.size, 0, none⟩ l.length l Tryd.underlying80 Tryd.underlying5 Tryd.underlying9 (fun j hj => ?_)
  have e : (⟨W.heap.size, 0, none⟩ : Addr).add j = ⟨W.heap.size, j, none⟩ := by cases j <;> simp [Addr.add]
  rw [e]
  have := cell_of_row (W.alloc (.cells (u8s l).toArray 5)) W.heap.size j (u8s l).toArray 5 (0, 0) (heap_alloc_new W _)
  rw [this]
  simp [u8s, List.getElem?_eq_getElem hj]

theorem one_back (v : Int) (c : UInt8) (hv : v = (c.toNat : Int)) (W : World) : Sem.run Tryd.prog (convert 80 9 (.slice (some ⟨W.heap.size, 0, none⟩) 1 1)) (W.alloc (.cells #[.int .u8 v] 5)) = .ok (.string ⟨#[c]⟩) (W.alloc (.cells #[.int .u8 v] 5)) := by
  subst hv
  exact lit_back [c] W

theorem two_back (v0 v1 : Int) (c0 c1 : UInt8) (h0 : v0 = (c0.toNat : Int)) (h1 : v1 = (c1.toNat : Int)) (W : World) :
    Sem.run Tryd.prog (convert 80 9 (.slice (some ⟨W.heap.size, 0, none⟩) 2 2)) (W.alloc (.cells #[.int .u8 v0, .int .u8 v1] 5)) = .ok (.string ⟨#[c0, c1]⟩) (W.alloc (.cells #[.int .u8 v0, .int .u8 v1] 5)) := by
  subst h0 h1
  exact lit_back [c0, c1] W

theorem three_back (v0 v1 v2 : Int) (c0 c1 c2 : UInt8) (h0 : v0 = (c0.toNat : Int)) (h1 : v1 = (c1.toNat : Int)) (h2 : v2 = (c2.toNat : Int)) (W : World) :
    Sem.run Tryd.prog (convert 80 9 (.slice (some ⟨W.heap.size, 0, none⟩) 3 3)) (W.alloc (.cells #[.int .u8 v0, .int .u8 v1, .int .u8 v2] 5)) = .ok (.string ⟨#[c0, c1, c2]⟩) (W.alloc (.cells #[.int .u8 v0, .int .u8 v1, .int .u8 v2] 5)) := by
  subst h0 h1 h2
  exact lit_back [c0, c1, c2] W

theorem four_back (v0 v1 v2 v3 : Int) (c0 c1 c2 c3 : UInt8) (h0 : v0 = (c0.toNat : Int)) (h1 : v1 = (c1.toNat : Int)) (h2 : v2 = (c2.toNat : Int)) (h3 : v3 = (c3.toNat : Int)) (W : World) :
    Sem.run Tryd.prog (convert 80 9 (.slice (some ⟨W.heap.size, 0, none⟩) 4 4)) (W.alloc (.cells #[.int .u8 v0, .int .u8 v1, .int .u8 v2, .int .u8 v3] 5)) = .ok (.string ⟨#[c0, c1, c2, c3]⟩) (W.alloc (.cells #[.int .u8 v0, .int .u8 v1, .int .u8 v2, .int .u8 v3] 5)) := by
  subst h0 h1 h2 h3
  exact lit_back [c0, c1, c2, c3] W

/-- append of one byte. -/
theorem wpList_push {w : World} {ops : Array Oper} {rest : List Oper} {o : Oper} {a : Act} {Q : Exit → Act → World → Prop} (hgd : o.guard = none) (s x : Operand)
    (ho : o.op = .call { callee := .builtin .append, args := #[s, x], argTypes := #[80, 80] }) {base : Nat} {v : Value} {l : List UInt8} (hown : RowB w base v l) {c : UInt8} {i : Int} (hi : i = (c.toNat : Int))
    (hs : a.eval s = v) (hx : a.eval x = .slice (some ⟨w.heap.size, 0, none⟩) 1 1) (hl : l.length + 1 ≤ 140737488355328) (hbase : base ≤ w.heap.size)
    (h : ∀ v' w', RowB w' base v' (l ++ [c]) → (∀ B a0, Below B a0 w → B ≤ base → Below B a0 w') → base ≤ w'.heap.size → wpList Tryd.prog ops Q rest (a.put o.dst v') w') :
    wpList Tryd.prog ops Q (o :: rest) a (w.alloc (.cells #[.int .u8 i] 5)) := by
  subst hi
  obtain ⟨i0, hi, hz0, hz1, hz2⟩ := info_parts Tryd.infoU8
  refine wpList_append_own (P := Tryd.prog) _ hgd s x 80 ho base 5 i0 (.int .u8 0) 1 1 Tryd.underlying80 hi hz0 hz1 hz2 rfl (by decide) v l.length (u8s l) hs (hown.alloc _) ⟨w.heap.size, 0, none⟩ 1 1 [.int .u8 (c.toNat : Int)] hx rfl ?_ ?_ ?_ ?_ ?_ ?_
  · intro j u hj
    match j, hj with
    | 0, hj => simp at hj; subst hj; simp [Addr.add]
  · intro u hu
    simp at hu
    subst hu
    rfl
  · unfold maxLen; omega
  · omega
  · simp; omega
  · intro v' w' hown' hgrow _
    refine h v' w' ?_ ?_ ?_
    · show w'.ownsRow base 5 1 v' (l ++ [c]).length (u8s (l ++ [c]))
      rw [List.length_append]
      have e : u8s (l ++ [c]) = u8s l ++ [.int .u8 (c.toNat : Int)] := by simp [u8s]
      rw [e]
      exact hown'
    · intro B a0 hB hle
      refine (hB.alloc (by omega) _).grown hgrow (by simp; omega) (fun k hk => ?_)
      have := hown.block k hk
      omega
    · have := hgrow.size
      simp at this
      omega
/-- The first bytes of block g are l, and may be written. -/
def BytesAt (w : World) (g : Nat) (l : List UInt8) : Prop :=
  (∀ j (hj : j < l.length), w.cell? ⟨g, j, none⟩ = some (.int .u8 (l[j].toNat : Int))) ∧ (∀ j, j < l.length → w.frozen? ⟨g, j, none⟩ = false)

theorem BytesAt.set {w : World} {g : Nat} {l : List UInt8} (h : BytesAt w g l) (k : Nat) (hk : k < l.length) (c : UInt8) (v : Int) (hv : v = (c.toNat : Int)) :
    BytesAt (w.setCell ⟨g, k, none⟩ (.int .u8 v)) g (l.set k c) := by
  subst hv
  refine ⟨fun j hj => ?_, fun j hj => ?_⟩
  · have hj' : j < l.length := by simpa using hj
    by_cases e : j = k
    · subst e
      rw [World.cell?_setCell_same w _ _ (h.1 j hj')]
      simp
    · rw [World.cell?_setCell_other w _ _ _ (fun h => e (by injection h; omega)), h.1 j hj', List.getElem_set_ne (by omega)]
  · rw [World.frozen?_setCell]
    exact h.2 j (by simpa using hj)

theorem BytesAt.back {w : World} {g : Nat} {l : List UInt8} (h : BytesAt w g l) (n cap : Nat) (hn : n = l.length) : Sem.run Tryd.prog (convert 80 9 (.slice (some ⟨g, 0, none⟩) n cap)) w = .ok (.string ⟨l.toArray⟩) w := by
  subst hn
  exact run_convert_bytes_back w 80 9 5 ⟨g, 0, none⟩ cap l Tryd.underlying80 Tryd.underlying5 Tryd.underlying9 (fun j hj => by have := h.1 j hj; cases j <;> simpa [Addr.add] using this)

theorem bytes_made (s : ByteArray) (w : World) (cap : Nat) (_hc : s.size ≤ cap) : BytesAt ((w.alloc (.cells (bytesRow s cap) 5 ((bytesRow s cap).size, (bytesRow s cap).size + 1))).drew) w.heap.size s.data.toList := by
  refine ⟨fun j hj => ?_, fun j hj => ?_⟩
  · have hj' : j < s.data.size := by simpa using hj
    show (w.alloc (.cells (bytesRow s cap) 5 _)).cell? _ = _
    rw [World.cell?_alloc_mark, bytesRow_at s cap j hj']
    simp
  · show (w.alloc (.cells (bytesRow s cap) 5 _)).frozen? _ = _
    rw [World.frozen?_alloc_mark]
    have hz : (bytesRow s cap).size = s.data.size + (cap - s.size) := by simp [bytesRow]
    have hj' : j < s.data.size := by simpa using hj
    have hj2 : j < s.size := hj'
    rw [hz]
    have e1 : decide (s.data.size + (cap - s.size) ≤ j) = false := by simp; omega
    rw [e1]
    rfl
theorem BytesAt.drew {w : World} {g : Nat} {l : List UInt8} (h : BytesAt w g l) : BytesAt w.drew g l := ⟨fun j hj => h.1 j hj, fun j hj => h.2 j hj⟩

theorem BytesAt.keep {w w' : World} {g : Nat} {l : List UInt8} (h : BytesAt w g l) (hb : Below w.heap.size w w') : BytesAt w' g l := by
  have hlt : ∀ j (hj : j < l.length), g < w.heap.size := fun j hj => World.block_lt_of_cell? w ⟨g, j, none⟩ (h.1 j hj)
  refine ⟨fun j hj => ?_, fun j hj => ?_⟩
  · rw [hb.cell (p := ⟨g, j, none⟩) (hlt j hj)]
    exact h.1 j hj
  · rw [hb.frozen (p := ⟨g, j, none⟩) (hlt j hj)]
    exact h.2 j hj
end Go.Proofs.YtkpdejnhjbojpaaDoor
