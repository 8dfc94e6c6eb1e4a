/-
  The program's table of months' lengths (a package-level variable of civil) in a world.
-/
import Derived.Test.YtmmkokomffclmaaDoorCivRepoch
import Derived.Below
namespace Go.Proofs.YtmmkokomffclmaaDoor
open Go.RowKit
set_option linter.unusedVariables false

/-- The lengths of months that are not longer in a leap year. -/
def lens : List Int := [31, 28, 31, 30, 31, 30, 31, 31, 30, 31, 30, 31]

/-- The table lies in the world. -/
def CTabs (w : World) : Prop := ∀ i, i < 12 → w.cell? ⟨2, i, none⟩ = some (.int .i64 (lens.getD i 0))

theorem CTabs.keep {w w' : World} (h : CTabs w) (hb : Below w.heap.size w w') : CTabs w' := fun i hi => by
  rw [hb.cell (World.block_lt_of_cell? w _ (h i hi))]
  exact h i hi

theorem CTabs.alloc {w : World} (h : CTabs w) (o : Obj) : CTabs (w.alloc o) := h.keep ((Below.refl _ _).alloc (Nat.le_refl _) o)
end Go.Proofs.YtmmkokomffclmaaDoor
