/-
  strings.HasSuffix: the library's own contract of it, at this program.
-/
import Derived.Test.YtkpdejnhjbojpaaDoorBase
import Derived.Shelf.Strings.Prefix
namespace Go.Proofs.YtkpdejnhjbojpaaDoor
open Go.RowKit Go.Shelf
set_option linter.unusedVariables false

def numb100 : Go.Shelf.Ren := ⟨fun | 100 => 69 | 207 => 85 | n => n, fun | 3 => 3 | 4 => 4 | 9 => 9 | n => n, fun | n => n⟩
theorem lays100 : Go.Proofs.Lays.n100 Tryd.prog numb100 := {
  mixed := by kernel_rfl
  f100 := Tryd.func69.trans (congrArg some (by kernel_rfl))
  f207 := Tryd.func85.trans (congrArg some (by kernel_rfl))
  t3 := Tryd.underlying3
  a3 := Tryd.isAgg3
  z3 := Tryd.sizeOf3
  v3 := Tryd.zeroValue3
  t4 := Tryd.underlying4
  a4 := Tryd.isAgg4
  z4 := Tryd.sizeOf4
  v4 := Tryd.zeroValue4
  t9 := Tryd.underlying9
  a9 := Tryd.isAgg9
  z9 := Tryd.sizeOf9
  v9 := Tryd.zeroValue9 }

theorem suffix_at (s p : ByteArray) (b : Bool) (w : World) (hs : s.size ≤ 9223372036854775807) (h : Lib.hasSuffix s.data.toList p.data.toList = b) :
    Calls Tryd.prog 69 #[.string s, .string p] w fun e w' => e = .returned (.bool b) ∧ w = w' := by
  have k : Calls Tryd.prog 69 #[.string s, .string p] w _ := Any.strings_HasSuffix lays100 s p w hs
  refine k.mono fun e w' ⟨h1, h2⟩ => ⟨?_, h2.symm⟩
  rw [h1, h]
end Go.Proofs.YtkpdejnhjbojpaaDoor
