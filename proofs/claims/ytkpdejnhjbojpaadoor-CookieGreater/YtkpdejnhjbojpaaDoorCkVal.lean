/-
  A cookie's value, and a cookie in memory.
-/
import Derived.Test.YtkpdejnhjbojpaaDoorCkMa
import Derived.Test.YtkpdejnhjbojpaaDoorBaseOfL
namespace Go.Proofs.YtkpdejnhjbojpaaDoor
open Go.RowKit
set_option linter.unusedVariables false

/-- A cookie's value. -/
abbrev ckV (c : Ck) : Value := .agg #[.string c.dom, .string c.path, .string c.name, .string c.val, .int .i64 c.cr, .int .i64 c.ac, .int .i64 c.ex, .bool c.ho, .bool c.se, .bool c.hp, .int .i64 c.ss]

abbrev ckCells (c : Ck) : Array Value := #[.string c.dom, .string c.path, .string c.name, .string c.val, .int .i64 c.cr, .int .i64 c.ac, .int .i64 c.ex, .bool c.ho, .bool c.se, .bool c.hp, .int .i64 c.ss]

/-- A cookie lies in block g. -/
def CkAt (w : World) (g : Nat) (c : Ck) : Prop :=
  w.cell? ⟨g, 0, none⟩ = some (.string c.dom) ∧ w.cell? ⟨g, 1, none⟩ = some (.string c.path) ∧ w.cell? ⟨g, 2, none⟩ = some (.string c.name) ∧ w.cell? ⟨g, 3, none⟩ = some (.string c.val) ∧
  w.cell? ⟨g, 4, none⟩ = some (.int .i64 c.cr) ∧ w.cell? ⟨g, 5, none⟩ = some (.int .i64 c.ac) ∧ w.cell? ⟨g, 6, none⟩ = some (.int .i64 c.ex) ∧
  w.cell? ⟨g, 7, none⟩ = some (.bool c.ho) ∧ w.cell? ⟨g, 8, none⟩ = some (.bool c.se) ∧ w.cell? ⟨g, 9, none⟩ = some (.bool c.hp) ∧ w.cell? ⟨g, 10, none⟩ = some (.int .i64 c.ss)

theorem CkAt.new (w : World) (c : Ck) (t : TypeId) : CkAt (w.alloc (.cells (ckCells c) t)) w.heap.size c := by
  refine ⟨?_, ?_, ?_, ?_, ?_, ?_, ?_, ?_, ?_, ?_, ?_⟩ <;> simp [ckCells]

theorem CkAt.keep {w w' : World} {g : Nat} {c : Ck} (h : CkAt w g c) (hb : Below w.heap.size w w') : CkAt w' g c := by
  obtain ⟨c0, c1, c2, c3, c4, c5, c6, c7, c8, c9, c10⟩ := h
  have hg : g < w.heap.size := World.block_lt_of_cell? w _ c0
  refine ⟨?_, ?_, ?_, ?_, ?_, ?_, ?_, ?_, ?_, ?_, ?_⟩ <;> rw [hb.cell hg] <;> assumption

/-- What an int64 is. -/
def int64C (n : Int) : Prop := -9223372036854775808 ≤ n ∧ n ≤ 9223372036854775807
end Go.Proofs.YtkpdejnhjbojpaaDoor
