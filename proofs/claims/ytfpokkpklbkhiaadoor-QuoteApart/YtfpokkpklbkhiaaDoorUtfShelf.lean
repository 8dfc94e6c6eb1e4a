/-
  The library's DecodeRuneInString (unicode/utf8): the library's own contract of it, at this program; and what its two tables are in the world of a call.
-/
import Derived.Shelf.Unicode.DecodeAny
import Derived.Lib.LaidU8T
import Derived.Test.YtfpokkpklbkhiaaDoorUtfMath
import Derived.Test.YtfpokkpklbkhiaaDoorBase
namespace Go.Proofs.YtfpokkpklbkhiaaDoor
open Go.RowKit Go.Shelf
set_option linter.unusedVariables false

/-- The numbers that the functions, types and variables have here. -/
def numb : Go.Shelf.Ren := ⟨fun | 197 => 44 | 260 => 49 | n => n, fun | 0 => 0 | 3 => 3 | 4 => 4 | 5 => 5 | 9 => 9 | 21 => 21 | 46 => 31 | 105 => 65 | 119 => 71 | 138 => 73 | 139 => 74 | n => n, fun | 3 => 1 | 4 => 2 | n => n⟩

theorem lays : Go.Proofs.Lays.n197 Tryd.prog numb := {
  mixed := by kernel_rfl
  f197 := Tryd.func44.trans (congrArg some (by kernel_rfl))
  f260 := Tryd.func49.trans (congrArg some (by kernel_rfl))
  t0 := Tryd.underlying0
  a0 := Tryd.isAgg0
  z0 := Tryd.sizeOf0
  v0 := Tryd.zeroValue0
  t3 := Tryd.underlying3
  a3 := Tryd.isAgg3
  z3 := Tryd.sizeOf3
  v3 := Tryd.zeroValue3
  t4 := Tryd.underlying4
  a4 := Tryd.isAgg4
  z4 := Tryd.sizeOf4
  v4 := Tryd.zeroValue4
  t5 := Tryd.underlying5
  a5 := Tryd.isAgg5
  z5 := Tryd.sizeOf5
  v5 := Tryd.zeroValue5
  t9 := Tryd.underlying9
  a9 := Tryd.isAgg9
  z9 := Tryd.sizeOf9
  v9 := Tryd.zeroValue9
  t21 := Tryd.underlying21
  a21 := Tryd.isAgg21
  z21 := Tryd.sizeOf21
  v21 := Tryd.zeroValue21
  t46 := Tryd.underlying31
  a46 := Tryd.isAgg31
  z46 := Tryd.sizeOf31
  v46 := Tryd.zeroValue31
  t105 := Tryd.underlying65
  a105 := Tryd.isAgg65
  z105 := Tryd.sizeOf65
  v105 := Tryd.zeroValue65
  t119 := Tryd.underlying71
  a119 := Tryd.isAgg71
  z119 := Tryd.sizeOf71
  t138 := Tryd.underlying73
  a138 := Tryd.isAgg73
  z138 := Tryd.sizeOf73
  v138 := Tryd.zeroValue73
  t139 := Tryd.underlying74
  a139 := Tryd.isAgg74
  z139 := Tryd.sizeOf74
  v139 := Tryd.zeroValue74
  g3 := by kernel_rfl
  g4 := by kernel_rfl }

/-- The library's two tables lie in the world w. -/
def Tabs (w : World) : Prop := Lib.Utf8Tabs 1 2 w

theorem Tabs.keep {w w' : World} (h : Tabs w) (hb : Below w.heap.size w w') : Tabs w' := Utf8Tabs_below h hb

/-- What the library's call tells, by takeU: the letter, or 65533, and how long it is, or at most one. -/
def decB (s : ByteArray) : Nat × Nat := if (takeU s.data.toList).2.2 = true then ((takeU s.data.toList).1, (takeU s.data.toList).2.1) else (65533, if s.size = 0 then 0 else 1)

theorem dec_eq (s : ByteArray) : Lib.decodeGo s = decB s := by
  unfold Lib.decodeGo decB
  by_cases h : s.size = 0
  · have e : s.data.toList = [] := List.eq_nil_of_length_eq_zero (by rw [list_len]; exact h)
    rw [e]
    simp [h, takeU]
  · rw [if_neg h, decode_take s 0 (by omega), List.drop_zero]
    simp [h]

theorem lib_dec (s : ByteArray) (r n : Nat) (w : World) (hT : Tabs w) (h : decB s = (r, n)) :
    Calls Tryd.prog 44 #[.string s] w fun e w' => e = .returned (.tuple #[.int .i32 (r : Int), .int .i64 (n : Int)]) ∧ Below w.heap.size w w' := by
  have c : Calls Tryd.prog 44 #[.string s] w _ := Any.utf8_DecodeRuneInString lays s w hT
  rw [dec_eq, h] at c
  exact c
end Go.Proofs.YtfpokkpklbkhiaaDoor
