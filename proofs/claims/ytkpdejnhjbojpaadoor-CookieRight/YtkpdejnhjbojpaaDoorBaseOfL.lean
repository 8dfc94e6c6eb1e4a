/-
  Rows of bytes as texts; pieces of a text.
-/
import Derived.Test.YtkpdejnhjbojpaaDoorBaseRows
namespace Go.Proofs.YtkpdejnhjbojpaaDoor
open Go.RowKit
set_option linter.unusedVariables false

def ofL (l : List UInt8) : ByteArray := ⟨l.toArray⟩
def ofLs (ls : List (List UInt8)) : List ByteArray := ls.map ofL

theorem ofL_list (s : ByteArray) : ofL s.data.toList = s := (ba_list s).symm
theorem ofLs_snoc (ls : List (List UInt8)) (s : ByteArray) : ofLs (ls ++ [s.data.toList]) = ofLs ls ++ [s] := by
  unfold ofLs
  rw [List.map_append, List.map_singleton, ofL_list]

theorem ext_none (s : ByteArray) (k : Nat) : (s.extract k k).data.toList = [] := by
  rw [extract_list, Nat.sub_self, List.take_zero]

theorem ext_snoc (s : ByteArray) (f k : Nat) (hf : f ≤ k) (hk : k < s.size) : (s.extract f (k + 1)).data.toList = (s.extract f k).data.toList ++ [s[k]] := by
  have hl := list_len s
  rw [extract_list, extract_list, show k + 1 - f = (k - f) + 1 by omega, List.take_succ_eq_append_getElem (by rw [List.length_drop]; omega), List.getElem_drop]
  congr 2
  rw [← bget s k hk]
  congr 1
  omega

theorem u8_is {c d : UInt8} (h : c = d) (n : Int) (hn : (d.toNat : Int) = n) : (c.toNat : Int) = n := by rw [h]; exact hn
theorem u8_isnt {c d : UInt8} (h : c ≠ d) (n : Int) (hn : (d.toNat : Int) = n) : ¬ (c.toNat : Int) = n := fun e => h (UInt8.toNat.inj (by omega))
end Go.Proofs.YtkpdejnhjbojpaaDoor
