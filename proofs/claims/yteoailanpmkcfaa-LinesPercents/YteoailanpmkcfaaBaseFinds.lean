/-
  strings.Contains of one byte, strings.HasSuffix: the library's own contracts of them, at this program.
-/
import Derived.Test.YteoailanpmkcfaaBaseIndex
import Derived.Shelf.Strings.Search3
import Derived.Shelf.Strings.Prefix
namespace Go.Proofs.Yteoailanpmkcfaa
open Go.RowKit Go.Shelf
set_option linter.unusedVariables false

def numb144 : Go.Shelf.Ren := ⟨fun | 144 => 31 | 143 => 49 | 219 => 60 | 217 => 67 | 225 => 68 | 224 => 69 | 267 => 70 | 266 => 73 | 314 => 74 | n => n, fun | 9 => 9 | 4 => 4 | 3 => 3 | 5 => 5 | 46 => 73 | 146 => 78 | 51 => 77 | n => n, fun | 1 => 0 | n => n⟩
theorem lays144 : Go.Proofs.Lays.n144 Try.prog numb144 := {
  mixed := by kernel_rfl
  f143 := Try.func49.trans (congrArg some (by kernel_rfl))
  f144 := Try.func31.trans (congrArg some (by kernel_rfl))
  f217 := Try.func67.trans (congrArg some (by kernel_rfl))
  f219 := Try.func60.trans (congrArg some (by kernel_rfl))
  f224 := Try.func69.trans (congrArg some (by kernel_rfl))
  f225 := Try.func68.trans (congrArg some (by kernel_rfl))
  f266 := Try.func73.trans (congrArg some (by kernel_rfl))
  f267 := Try.func70.trans (congrArg some (by kernel_rfl))
  f314 := Try.func74.trans (congrArg some (by kernel_rfl))
  t3 := Try.underlying3
  a3 := Try.isAgg3
  z3 := Try.sizeOf3
  v3 := Try.zeroValue3
  t4 := Try.underlying4
  a4 := Try.isAgg4
  z4 := Try.sizeOf4
  v4 := Try.zeroValue4
  t5 := Try.underlying5
  a5 := Try.isAgg5
  z5 := Try.sizeOf5
  v5 := Try.zeroValue5
  t9 := Try.underlying9
  a9 := Try.isAgg9
  z9 := Try.sizeOf9
  v9 := Try.zeroValue9
  t46 := Try.underlying73
  a46 := Try.isAgg73
  z46 := Try.sizeOf73
  v46 := Try.zeroValue73
  t51 := Try.underlying77
  a51 := Try.isAgg77
  z51 := Try.sizeOf77
  v51 := Try.zeroValue77
  t146 := Try.underlying78
  a146 := Try.isAgg78
  z146 := Try.sizeOf78
  v146 := Try.zeroValue78
  g1 := by kernel_rfl }
def numb100 : Go.Shelf.Ren := ⟨fun | 100 => 32 | 207 => 50 | n => n, fun | 9 => 9 | 4 => 4 | 3 => 3 | n => n, fun | n => n⟩
theorem lays100 : Go.Proofs.Lays.n100 Try.prog numb100 := {
  mixed := by kernel_rfl
  f100 := Try.func32.trans (congrArg some (by kernel_rfl))
  f207 := Try.func50.trans (congrArg some (by kernel_rfl))
  t3 := Try.underlying3
  a3 := Try.isAgg3
  z3 := Try.sizeOf3
  v3 := Try.zeroValue3
  t4 := Try.underlying4
  a4 := Try.isAgg4
  z4 := Try.sizeOf4
  v4 := Try.zeroValue4
  t9 := Try.underlying9
  a9 := Try.isAgg9
  z9 := Try.sizeOf9
  v9 := Try.zeroValue9 }

theorem contains_at (s : ByteArray) (c : UInt8) (b : Bool) (w : World) (h : s.data.toList.contains c = b) :
    Calls Try.prog 31 #[.string s, .string ⟨#[c]⟩] w fun e w' => e = .returned (.bool b) ∧ w = w' := by
  have k : Calls Try.prog 31 #[.string s, .string ⟨#[c]⟩] w _ := Any.strings_Contains_one lays144 s c w
  refine k.mono fun e w' ⟨h1, h2⟩ => ⟨?_, h2.symm⟩
  rw [h1]
  refine ret_bool ?_
  cases b with
  | true => exact decide_eq_true (indexByte_some _ _ h)
  | false => rw [indexByte_none _ _ h]; rfl

theorem suffix_last (l : List UInt8) (c : UInt8) : Lib.hasSuffix l [c] = (l.getLast? == some c) := by
  unfold Lib.hasSuffix
  rw [Bool.eq_iff_iff, List.isSuffixOf_iff_suffix, beq_iff_eq]
  constructor
  · rintro ⟨t, rfl⟩
    simp
  · intro h
    obtain ⟨t, rfl⟩ := List.getLast?_eq_some_iff.1 h
    exact ⟨t, rfl⟩

theorem suffix_at (s : ByteArray) (c : UInt8) (b : Bool) (w : World) (hs : s.size ≤ 9223372036854775807) (h : (s.data.toList.getLast? == some c) = b) :
    Calls Try.prog 32 #[.string s, .string ⟨#[c]⟩] w fun e w' => e = .returned (.bool b) ∧ w = w' := by
  have k : Calls Try.prog 32 #[.string s, .string ⟨#[c]⟩] w _ := Any.strings_HasSuffix lays100 s ⟨#[c]⟩ w hs
  refine k.mono fun e w' ⟨h1, h2⟩ => ⟨?_, h2.symm⟩
  rw [h1]
  refine ret_bool ?_
  rw [← h]
  exact suffix_last _ c
end Go.Proofs.Yteoailanpmkcfaa
