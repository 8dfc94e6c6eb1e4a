/-
  strings.HasPrefix: the library's own contract of it, at this program.
-/
import Derived.Test.YtkpdejnhjbojpaaDoorBase
import Derived.Shelf.Strings.Prefix
namespace Go.Proofs.YtkpdejnhjbojpaaDoor
open Go.RowKit Go.Shelf
set_option linter.unusedVariables false

def numb99 : Go.Shelf.Ren := ⟨fun | 99 => 52 | 206 => 75 | n => n, fun | 9 => 9 | 4 => 4 | 3 => 3 | n => n, fun | n => n⟩
theorem lays99 : Go.Proofs.Lays.n99 Tryd.prog numb99 := {
  mixed := by kernel_rfl
  f99 := Tryd.func52.trans (congrArg some (by kernel_rfl))
  f206 := Tryd.func75.trans (congrArg some (by kernel_rfl))
  t3 := Tryd.underlying3
  a3 := Tryd.isAgg3
  z3 := Tryd.sizeOf3
  v3 := Tryd.zeroValue3
  t4 := Tryd.underlying4
  a4 := Tryd.isAgg4
  z4 := Tryd.sizeOf4
  v4 := Tryd.zeroValue4
  t9 := Tryd.underlying9
  a9 := Tryd.isAgg9
  z9 := Tryd.sizeOf9
  v9 := Tryd.zeroValue9 }

theorem prefix_at (s p : ByteArray) (b : Bool) (w : World) (h : Lib.hasPrefix s.data.toList p.data.toList = b) :
    Calls Tryd.prog 52 #[.string s, .string p] w fun e w' => e = .returned (.bool b) ∧ w = w' := by
  have k : Calls Tryd.prog 52 #[.string s, .string p] w _ := Any.strings_HasPrefix lays99 s p w
  refine k.mono fun e w' ⟨h1, h2⟩ => ⟨?_, h2.symm⟩
  rw [h1, h]
end Go.Proofs.YtkpdejnhjbojpaaDoor
