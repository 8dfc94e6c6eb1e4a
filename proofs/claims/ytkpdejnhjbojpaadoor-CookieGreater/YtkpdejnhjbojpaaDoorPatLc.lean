/-
  The library's strings.CutPrefix, and whether a text begins or ends with a slash: contracts, at this program.
-/
import Derived.Test.YtkpdejnhjbojpaaDoorPatPm
import Derived.Test.YtkpdejnhjbojpaaDoorBasePrefix
import Derived.Test.YtkpdejnhjbojpaaDoorBaseSuffix
import Derived.Shelf.Small.Wraps
namespace Go.Proofs.YtkpdejnhjbojpaaDoor
open Go.RowKit Go.Shelf
set_option linter.unusedVariables false

def numb103 : Go.Shelf.Ren := ⟨fun | 103 => 68 | 206 => 75 | 210 => 84 | n => n, fun | 3 => 3 | 4 => 4 | 9 => 9 | 24 => 48 | n => n, fun | n => n⟩
theorem lays103 : Go.Proofs.Lays.n103 Tryd.prog numb103 := {
  mixed := by kernel_rfl
  f103 := Tryd.func68.trans (congrArg some (by kernel_rfl))
  f206 := Tryd.func75.trans (congrArg some (by kernel_rfl))
  f210 := Tryd.func84.trans (congrArg some (by kernel_rfl))
  t3 := Tryd.underlying3
  a3 := Tryd.isAgg3
  z3 := Tryd.sizeOf3
  v3 := Tryd.zeroValue3
  t4 := Tryd.underlying4
  a4 := Tryd.isAgg4
  z4 := Tryd.sizeOf4
  v4 := Tryd.zeroValue4
  t9 := Tryd.underlying9
  a9 := Tryd.isAgg9
  z9 := Tryd.sizeOf9
  v9 := Tryd.zeroValue9
  t24 := Tryd.underlying48
  a24 := Tryd.isAgg48
  z24 := Tryd.sizeOf48
  v24 := Tryd.zeroValue48 }

/-- What CutPrefix answers. -/
def cutV (l p : List UInt8) : Value := .tuple #[.string ⟨(if p.isPrefixOf l = true then l.drop p.length else l).toArray⟩, .bool (p.isPrefixOf l)]

theorem cut_any (s p : ByteArray) (w : World) :
    Calls Tryd.prog 68 #[.string s, .string p] w fun e w' => e = .returned (cutV s.data.toList p.data.toList) ∧ w' = w := by
  have k : Calls Tryd.prog 68 #[.string s, .string p] w _ := Any.strings_CutPrefix lays103 s p w
  exact k

theorem cutV_no (l p : List UInt8) (h : p.isPrefixOf l = false) : cutV l p = .tuple #[.string ⟨l.toArray⟩, .bool false] := by
  unfold cutV
  rw [h, if_neg (by decide)]
theorem cutV_yes (l p : List UInt8) (h : p.isPrefixOf l = true) : cutV l p = .tuple #[.string ⟨(l.drop p.length).toArray⟩, .bool true] := by
  unfold cutV
  rw [h, if_pos rfl]

/-- Does a text begin with a slash? -/
theorem slash_at (s : ByteArray) (b : Bool) (w : World) (h : ([47] : List UInt8).isPrefixOf s.data.toList = b) :
    Calls Tryd.prog 52 #[.string s, .string ⟨#[47]⟩] w fun e w' => e = .returned (.bool b) ∧ w = w' := prefix_at s ⟨#[47]⟩ b w h
theorem ends_at (s : ByteArray) (b : Bool) (w : World) (hs : s.size ≤ 9223372036854775807) (h : ([47] : List UInt8).isSuffixOf s.data.toList = b) :
    Calls Tryd.prog 69 #[.string s, .string ⟨#[47]⟩] w fun e w' => e = .returned (.bool b) ∧ w = w' := suffix_at s ⟨#[47]⟩ b w hs h
end Go.Proofs.YtkpdejnhjbojpaaDoor
