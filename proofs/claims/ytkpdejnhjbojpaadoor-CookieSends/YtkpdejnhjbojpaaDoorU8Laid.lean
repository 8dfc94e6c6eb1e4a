/-
  The library's two tables of utf8, as the statements list them, where nothing that the proof walks reads them: a world in which they lie.
-/
import Derived.Test.YtkpdejnhjbojpaaDoorRows
import Derived.Lib.LaidU8T
import Derived.Lib.LaidIn
import Derived.LaidMore
import Derived.MakeChecks
namespace Go.Proofs.YtkpdejnhjbojpaaDoor
open Go.RowKit Go.Shelf
set_option linter.unusedVariables false


/-- The list of the rows. -/
def listed : List (String × DataW Unit) := Rows.cookieRightRow.laid

/-- Nothing is asked of them. -/
def Tabs (_ : World) : Prop := True
theorem Tabs.keep {w w' : World} (_ : Tabs w) (_ : Below w.heap.size w w') : Tabs w' := trivial
theorem tabs_listed {W : World} (_ : laidMetH Tryd.prog listed W) : Tabs W := trivial

/-- The cells of block g are cs. -/
def putAt (h : Array Obj) (g : Nat) (cs : Array Value) : Array Obj := h.modify g fun
  | .cells _ t frozen => .cells cs t frozen
  | o => o

/-- A world in which they lie. -/
def laidOver (w : World) : World :=
  { w with heap := putAt (putAt w.heap 1 (Lib.firstTab.map fun z => Value.int .u8 z).toArray) 2 ((List.range 16).flatMap fun i => [Value.int .u8 (Lib.accLo i), Value.int .u8 (Lib.accHi i)]).toArray }

set_option maxRecDepth 100000 in
theorem laid_over (os : Os) (args : Array Value) : laidMetH Tryd.prog listed ((laidOver (World.holding Tryd.prog os ⟨#[], #[], []⟩)).forCall (fun _ _ => 0) ⟨#[], args, []⟩).memory := by
  rw [MakeChecks.laidMetH_plain _ _ _ (by kernel_rfl)]
  exact (LaidIn.of_run (l := listed) [1, 2] 8 (by kernel_rfl) (by kernel_rfl) (by kernel_rfl) (by kernel_rfl)).met
end Go.Proofs.YtkpdejnhjbojpaaDoor
