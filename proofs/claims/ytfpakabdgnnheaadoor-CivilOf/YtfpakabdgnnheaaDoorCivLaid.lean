/-
  The program's table of months' lengths, as the statements list it: where it is listed it lies in the world; a world in which it lies.
-/
import Derived.Test.YtfpakabdgnnheaaDoorCivTab
import Derived.Test.YtfpakabdgnnheaaDoorRows
import Derived.Lib.LaidTab
import Derived.Lib.LaidIn
import Derived.LaidMore
import Derived.MakeChecks
namespace Go.Proofs.YtfpakabdgnnheaaDoor
open Go.RowKit
set_option linter.unusedVariables false

/-- What the statements ask of the world. -/
abbrev Tabs (w : World) : Prop := CTabs w

theorem lengths_data : (Rows.laid_cracknel_civil_lengths : DataW Unit) = Lib.tabData .i64 lens := by kernel_rfl

/-- The list of the rows. -/
def listed : List (String × DataW Unit) := Rows.civilDaysRow.laid

theorem listed_eq : listed = [("cracknel/civil.lengths", Lib.tabData .i64 lens)] := by
  show [(_, Rows.laid_cracknel_civil_lengths)] = _
  rw [lengths_data]

/-- Where it is listed, it lies in the world. -/
theorem tabs_listed {W : World} (h : laidMetH Tryd.prog listed W) : Tabs W := by
  rw [MakeChecks.laidMetH_plain _ _ _ (by kernel_rfl), listed_eq] at h
  have ht := Lib.tabIs_of_head (g := 0) (t := 42) (e := 3) (by kernel_rfl) (by kernel_rfl) Tryd.underlying42 Tryd.underlying3 (by kernel_rfl) (by kernel_rfl) h
  intro i hi
  exact ht.cell (by kernel_rfl) i hi

/-- The cells of block g are cs. -/
def putAt (h : Array Obj) (g : Nat) (cs : Array Value) : Array Obj := h.modify g fun
  | .cells _ t frozen => .cells cs t frozen
  | o => o

/-- A world in which it lies. -/
def laidOver (w : World) : World :=
  { w with heap := putAt w.heap 0 (lens.map fun z => Value.int .i64 z).toArray }

set_option maxRecDepth 100000 in
theorem laid_over (os : Os) (args : Array Value) : laidMetH Tryd.prog listed ((laidOver (World.holding Tryd.prog os ⟨#[], #[], []⟩)).forCall (fun _ _ => 0) ⟨#[], args, []⟩).memory := by
  rw [MakeChecks.laidMetH_plain _ _ _ (by kernel_rfl)]
  exact (LaidIn.of_run (l := listed) [0] 8 (by kernel_rfl) (by kernel_rfl) (by kernel_rfl) (by kernel_rfl)).met
end Go.Proofs.YtfpakabdgnnheaaDoor
