/-
  The library's DecodeRuneInString (unicode/utf8): the library's own contract of it, at this program; and what its two tables are in the world of a call.
-/
import Derived.Shelf.Unicode.DecodeAny
import Derived.Lib.LaidU8T
import Derived.Test.YtncgecelnndneaaDoorUtfMath
import Derived.Test.YtncgecelnndneaaDoorBase
namespace Go.Proofs.YtncgecelnndneaaDoor
open Go.RowKit Go.Shelf
set_option linter.unusedVariables false

/-- The numbers that the functions, types and variables have here. -/
def numb : Go.Shelf.Ren := ⟨fun | 197 => 22 | 260 => 25 | n => n, fun | 0 => 0 | 3 => 3 | 4 => 4 | 5 => 5 | 9 => 9 | 21 => 21 | 46 => 46 | 105 => 40 | 119 => 45 | 138 => 48 | 139 => 49 | n => n, fun | 3 => 0 | 4 => 1 | n => n⟩

theorem lays : Go.Proofs.Lays.n197 Tryd.prog numb := {
  mixed := by kernel_rfl
  f197 := Tryd.func22.trans (congrArg some (by kernel_rfl))
  f260 := Tryd.func25.trans (congrArg some (by kernel_rfl))
  t0 := Tryd.underlying0
  a0 := Tryd.isAgg0
  z0 := Tryd.sizeOf0
  v0 := Tryd.zeroValue0
  t3 := Tryd.underlying3
  a3 := Tryd.isAgg3
  z3 := Tryd.sizeOf3
  v3 := Tryd.zeroValue3
  t4 := Tryd.underlying4
  a4 := Tryd.isAgg4
  z4 := Tryd.sizeOf4
  v4 := Tryd.zeroValue4
  t5 := Tryd.underlying5
  a5 := Tryd.isAgg5
  z5 := Tryd.sizeOf5
  v5 := Tryd.zeroValue5
  t9 := Tryd.underlying9
  a9 := Tryd.isAgg9
  z9 := Tryd.sizeOf9
  v9 := Tryd.zeroValue9
  t21 := Tryd.underlying21
  a21 := Tryd.isAgg21
  z21 := Tryd.sizeOf21
  v21 := Tryd.zeroValue21
  t46 := Tryd.underlying46
  a46 := Tryd.isAgg46
  z46 := Tryd.sizeOf46
  v46 := Tryd.zeroValue46
  t105 := Tryd.underlying40
  a105 := Tryd.isAgg40
  z105 := Tryd.sizeOf40
  v105 := Tryd.zeroValue40
  t119 := Tryd.underlying45
  a119 := Tryd.isAgg45
  z119 := Tryd.sizeOf45
  t138 := Tryd.underlying48
  a138 := Tryd.isAgg48
  z138 := Tryd.sizeOf48
  v138 := Tryd.zeroValue48
  t139 := Tryd.underlying49
  a139 := Tryd.isAgg49
  z139 := Tryd.sizeOf49
  v139 := Tryd.zeroValue49
  g3 := by kernel_rfl
  g4 := by kernel_rfl }

/-- The library's two tables lie in the world w. -/
def Tabs (w : World) : Prop := Lib.Utf8Tabs 0 1 w

theorem Tabs.keep {w w' : World} (h : Tabs w) (hb : Below w.heap.size w w') : Tabs w' := Utf8Tabs_below h hb

/-- What the library's call tells, by takeU: the letter, or 65533, and how long it is, or at most one. -/
def decB (s : ByteArray) : Nat × Nat := if (takeU s.data.toList).2.2 = true then ((takeU s.data.toList).1, (takeU s.data.toList).2.1) else (65533, if s.size = 0 then 0 else 1)

theorem dec_eq (s : ByteArray) : Lib.decodeGo s = decB s := by
  unfold Lib.decodeGo decB
  by_cases h : s.size = 0
  · have e : s.data.toList = [] := List.eq_nil_of_length_eq_zero (by rw [list_len]; exact h)
    rw [e]
    simp [h, takeU]
  · rw [if_neg h, decode_take s 0 (by omega), List.drop_zero]
    simp [h]

theorem lib_dec (s : ByteArray) (r n : Nat) (w : World) (hT : Tabs w) (h : decB s = (r, n)) :
    Calls Tryd.prog 22 #[.string s] w fun e w' => e = .returned (.tuple #[.int .i32 (r : Int), .int .i64 (n : Int)]) ∧ Below w.heap.size w w' := by
  have c : Calls Tryd.prog 22 #[.string s] w _ := Any.utf8_DecodeRuneInString lays s w hT
  rw [dec_eq, h] at c
  exact c
end Go.Proofs.YtncgecelnndneaaDoor
