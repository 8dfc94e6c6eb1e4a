/-
  The program's tables that package date reads: civil's lengths of months, and the names of days and months.
-/
import Derived.Test.YtmmkokomffclmaaDoorCivTab
import Derived.Test.YtmmkokomffclmaaDoorDatRefF
namespace Go.Proofs.YtmmkokomffclmaaDoor
open Go.RowKit
set_option linter.unusedVariables false

/-- The names of months lie in the world. -/
def MTabs (w : World) : Prop := ∀ i, i < 12 → w.cell? ⟨1, i, none⟩ = some (.string (monHB i))
/-- The names of days lie in the world. -/
def WTabs (w : World) : Prop := ∀ i, i < 7 → w.cell? ⟨0, i, none⟩ = some (.string (dayB i))

theorem MTabs.keep {w w' : World} (h : MTabs w) (hb : Below w.heap.size w w') : MTabs w' := fun i hi => cell_keep (h i hi) hb
theorem WTabs.keep {w w' : World} (h : WTabs w) (hb : Below w.heap.size w w') : WTabs w' := fun i hi => cell_keep (h i hi) hb

/-- The program's tables lie in the world. -/
def DTabs (w : World) : Prop := CTabs w ∧ MTabs w ∧ WTabs w

theorem DTabs.civ {w : World} (h : DTabs w) : CTabs w := h.1
theorem DTabs.mon {w : World} (h : DTabs w) : MTabs w := h.2.1
theorem DTabs.day {w : World} (h : DTabs w) : WTabs w := h.2.2
theorem DTabs.keep {w w' : World} (h : DTabs w) (hb : Below w.heap.size w w') : DTabs w' := ⟨h.1.keep hb, h.2.1.keep hb, h.2.2.keep hb⟩
theorem DTabs.alloc {w : World} (h : DTabs w) (o : Obj) : DTabs (w.alloc o) := h.keep ((Below.refl _ _).alloc (Nat.le_refl _) o)
theorem DTabs.drew {w : World} (h : DTabs w) : DTabs w.drew := h.keep (Below.refl _ _).drew
end Go.Proofs.YtmmkokomffclmaaDoor
