/-
  The library's two tables, as the statements list them: where they are listed they lie in the world; a world in which they lie.
-/
import Derived.Test.YtmnigdcgdebgoaaDoorUtfN
import Derived.Test.YtmnigdcgdebgoaaDoorRows
import Derived.Lib.LaidIn
import Derived.LaidMore
import Derived.MakeChecks
namespace Go.Proofs.YtmnigdcgdebgoaaDoor
open Go.RowKit Go.Shelf
set_option linter.unusedVariables false

theorem first_data : Rows.laid_unicode_utf8_first = Lib.firstData := by kernel_rfl
theorem accept_data : (Rows.laid_unicode_utf8_acceptRanges : DataW Unit) = Lib.acceptData := by kernel_rfl

/-- The list of the rows. -/
def listed : List (String × DataW Unit) := Rows.jsonRightRow.laid

theorem listed_eq : listed = [(listed[0].1, Lib.acceptData), (listed[1].1, Lib.firstData)] := by
  show [(_, Rows.laid_unicode_utf8_acceptRanges), (_, Rows.laid_unicode_utf8_first)] = _
  rw [first_data, accept_data]
  rfl

theorem types : U8Types Tryd.prog numb := { t5 := lays.t5, t119 := lays.t119, t138 := lays.t138, t139 := lays.t139 }
theorem extra : U8Extra Tryd.prog numb := ⟨by kernel_rfl, by kernel_rfl, by kernel_rfl, by kernel_rfl, by kernel_rfl, by kernel_rfl, by kernel_rfl⟩

/-- Where they are listed, they lie in the world. -/
theorem tabs_listed {W : World} (h : laidMetH Tryd.prog listed W) : Tabs W := by
  rw [MakeChecks.laidMetH_plain _ _ _ (by kernel_rfl), listed_eq] at h
  exact utf8Tabs_of_readsT types extra (Lib.laidMet.reads h (.tail _ (.head _))) (Lib.laidMet.reads h (.head _))

/-- The cells of block g are cs. -/
def putAt (h : Array Obj) (g : Nat) (cs : Array Value) : Array Obj := h.modify g fun
  | .cells _ t frozen => .cells cs t frozen
  | o => o

/-- A world in which they lie. -/
def laidOver (w : World) : World :=
  { w with heap := putAt (putAt w.heap 1 (Lib.firstTab.map fun z => Value.int .u8 z).toArray) 2 ((List.range 16).flatMap fun i => [Value.int .u8 (Lib.accLo i), Value.int .u8 (Lib.accHi i)]).toArray }

set_option maxRecDepth 100000 in
theorem laid_over (os : Os) (args : Array Value) : laidMetH Tryd.prog listed ((laidOver (World.holding Tryd.prog os ⟨#[], #[], []⟩)).forCall (fun _ _ => 0) ⟨#[], args, []⟩).memory := by
  rw [MakeChecks.laidMetH_plain _ _ _ (by kernel_rfl)]
  exact (LaidIn.of_run (l := listed) [1, 2] 8 (by kernel_rfl) (by kernel_rfl) (by kernel_rfl) (by kernel_rfl)).met
end Go.Proofs.YtmnigdcgdebgoaaDoor
