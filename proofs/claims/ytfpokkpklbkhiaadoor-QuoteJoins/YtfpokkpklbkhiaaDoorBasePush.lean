/-
  Appending several bytes to a row of bytes of the call's own.
-/
import Derived.Test.YtfpokkpklbkhiaaDoorBaseBytes
namespace Go.Proofs.YtfpokkpklbkhiaaDoor
open Go.RowKit
set_option linter.unusedVariables false

/-- append of the bytes l2. -/
theorem wpList_pushN {w : World} {ops : Array Oper} {rest : List Oper} {o : Oper} {a : Act} {Q : Exit → Act → World → Prop} (hgd : o.guard = none) (s x : Operand)
    (ho : o.op = .call { callee := .builtin .append, args := #[s, x], argTypes := #[32, 32] }) {base : Nat} {v : Value} {l : List UInt8} (hown : RowB w base v l) (l2 : List UInt8) {cs : Array Value} {m : Nat} (hcs : cs = (u8s l2).toArray) (hm : m = l2.length)
    (hs : a.eval s = v) (hx : a.eval x = .slice (some ⟨w.heap.size, 0, none⟩) m m) (hl : l.length + l2.length ≤ 140737488355328) (hbase : base ≤ w.heap.size)
    (h : ∀ v' w', RowB w' base v' (l ++ l2) → (∀ B a0, Below B a0 w → B ≤ base → Below B a0 w') → base ≤ w'.heap.size → wpList Tryd.prog ops Q rest (a.put o.dst v') w') :
    wpList Tryd.prog ops Q (o :: rest) a (w.alloc (.cells cs 5)) := by
  subst hcs hm
  obtain ⟨i0, hi, hz0, hz1, hz2⟩ := info_parts Tryd.infoU8
  refine wpList_append_own (P := Tryd.prog) _ hgd s x 32 ho base 5 i0 (.int .u8 0) 1 1 Tryd.underlying32 hi hz0 hz1 hz2 rfl (by decide) v l.length (u8s l) hs (hown.alloc _) ⟨w.heap.size, 0, none⟩ l2.length l2.length (u8s l2) hx (by simp [u8s]) ?_ ?_ ?_ ?_ ?_ ?_
  · intro j u hj
    have e : (⟨w.heap.size, 0, none⟩ : Addr).add j = ⟨w.heap.size, j, none⟩ := by cases j <;> simp [Addr.add]
    rw [e, cell_of_row (w.alloc (.cells (u8s l2).toArray 5)) w.heap.size j (u8s l2).toArray 5 (0, 0) (heap_alloc_new w _)]
    rw [List.getElem?_toArray]
    exact hj
  · intro u hu
    unfold u8s at hu
    obtain ⟨c, _, rfl⟩ := List.mem_map.1 hu
    rfl
  · unfold maxLen; omega
  · omega
  · simp; omega
  · intro v' w' hown' hgrow _
    refine h v' w' ?_ ?_ ?_
    · show w'.ownsRow base 5 1 v' (l ++ l2).length (u8s (l ++ l2))
      rw [List.length_append]
      have e : u8s (l ++ l2) = u8s l ++ u8s l2 := by simp [u8s]
      rw [e]
      exact hown'
    · intro B a0 hB hle
      refine (hB.alloc (by omega) _).grown hgrow (by simp; omega) (fun k hk => ?_)
      have := hown.block k hk
      omega
    · have := hgrow.size
      simp at this
      omega

/-- A row that a literal makes. -/
theorem RowB.made (w : World) (l : List UInt8) (cs : Array Value) (hcs : cs = (u8s l).toArray) (hl : l.length ≤ 1000) : RowB (w.alloc (.cells cs 5)) w.heap.size (.slice (some ⟨w.heap.size, 0, none⟩) l.length l.length) l := by
  subst hcs
  refine ⟨by simp [u8s], .inr ⟨w.heap.size, l.length, (u8s l).toArray, rfl, Nat.le_refl _, heap_alloc_new w _, Nat.le_refl _, by unfold maxLen; omega, by simp [u8s], ?_⟩⟩
  rw [List.take_of_length_le (by simp [u8s])]
end Go.Proofs.YtfpokkpklbkhiaaDoor
