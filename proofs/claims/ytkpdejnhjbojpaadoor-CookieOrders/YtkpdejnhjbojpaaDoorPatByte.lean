/-
  Bytes of a text; texts by their lists.
-/
import Derived.Test.YtkpdejnhjbojpaaDoorBaseOfL
namespace Go.Proofs.YtkpdejnhjbojpaaDoor
open Go.RowKit
set_option linter.unusedVariables false

theorem getD_b (s : ByteArray) (k : Nat) (h : k < s.size) : s.data.toList.getD k 0 = s[k] := by
  rw [← bget s k h, List.getD_eq_getElem?_getD, List.getElem?_eq_getElem (by simpa using h)]
  rfl

theorem list_is {a d : ByteArray} : a = d ↔ a.data.toList = d.data.toList := ⟨fun h => by rw [h], fun h => ba_ext h⟩
end Go.Proofs.YtkpdejnhjbojpaaDoor
