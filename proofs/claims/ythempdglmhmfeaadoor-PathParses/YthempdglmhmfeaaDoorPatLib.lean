/-
  The library's strings.LastIndex at a slash and strings.CutPrefix: contracts, at this program.
-/
import Derived.Test.YthempdglmhmfeaaDoorPatPm
import Derived.Test.YthempdglmhmfeaaDoorPatDef
import Derived.Test.YthempdglmhmfeaaDoorBasePrefix
import Derived.Test.YthempdglmhmfeaaDoorBaseSuffix
import Derived.Shelf.Strings.LastIndex
import Derived.Shelf.Small.Wraps
namespace Go.Proofs.YthempdglmhmfeaaDoor
open Go.RowKit Go.Shelf
set_option linter.unusedVariables false

def numb148 : Go.Shelf.Ren := ⟨fun | 148 => 20 | 222 => 33 | 223 => 34 | 269 => 48 | n => n, fun | 3 => 3 | 4 => 4 | 5 => 5 | 9 => 9 | 46 => 64 | 51 => 58 | 146 => 59 | n => n, fun | n => n⟩
theorem lays148 : Go.Proofs.Lays.n148 Tryd.prog numb148 := {
  mixed := by kernel_rfl
  f148 := Tryd.func20.trans (congrArg some (by kernel_rfl))
  f222 := Tryd.func33.trans (congrArg some (by kernel_rfl))
  f223 := Tryd.func34.trans (congrArg some (by kernel_rfl))
  f269 := Tryd.func48.trans (congrArg some (by kernel_rfl))
  t3 := Tryd.underlying3
  a3 := Tryd.isAgg3
  z3 := Tryd.sizeOf3
  v3 := Tryd.zeroValue3
  t4 := Tryd.underlying4
  a4 := Tryd.isAgg4
  z4 := Tryd.sizeOf4
  v4 := Tryd.zeroValue4
  t5 := Tryd.underlying5
  a5 := Tryd.isAgg5
  z5 := Tryd.sizeOf5
  v5 := Tryd.zeroValue5
  t9 := Tryd.underlying9
  a9 := Tryd.isAgg9
  z9 := Tryd.sizeOf9
  v9 := Tryd.zeroValue9
  t46 := Tryd.underlying64
  a46 := Tryd.isAgg64
  z46 := Tryd.sizeOf64
  v46 := Tryd.zeroValue64
  t51 := Tryd.underlying58
  a51 := Tryd.isAgg58
  z51 := Tryd.sizeOf58
  v51 := Tryd.zeroValue58
  t146 := Tryd.underlying59
  a146 := Tryd.isAgg59
  z146 := Tryd.sizeOf59
  v146 := Tryd.zeroValue59 }
def numb103 : Go.Shelf.Ren := ⟨fun | 103 => 24 | 206 => 35 | 210 => 38 | n => n, fun | 3 => 3 | 4 => 4 | 9 => 9 | 24 => 35 | n => n, fun | n => n⟩
theorem lays103 : Go.Proofs.Lays.n103 Tryd.prog numb103 := {
  mixed := by kernel_rfl
  f103 := Tryd.func24.trans (congrArg some (by kernel_rfl))
  f206 := Tryd.func35.trans (congrArg some (by kernel_rfl))
  f210 := Tryd.func38.trans (congrArg some (by kernel_rfl))
  t3 := Tryd.underlying3
  a3 := Tryd.isAgg3
  z3 := Tryd.sizeOf3
  v3 := Tryd.zeroValue3
  t4 := Tryd.underlying4
  a4 := Tryd.isAgg4
  z4 := Tryd.sizeOf4
  v4 := Tryd.zeroValue4
  t9 := Tryd.underlying9
  a9 := Tryd.isAgg9
  z9 := Tryd.sizeOf9
  v9 := Tryd.zeroValue9
  t24 := Tryd.underlying35
  a24 := Tryd.isAgg35
  z24 := Tryd.sizeOf35
  v24 := Tryd.zeroValue35 }

theorem last_any (s : ByteArray) (w : World) (hs : s.size < 4611686018427387904) :
    Calls Tryd.prog 20 #[.string s, .string ⟨#[47]⟩] w fun e w' => e = .returned (.int .i64 (Lib.lastIndexByte s 47)) ∧ w' = w := by
  have k : Calls Tryd.prog 20 #[.string s, .string ⟨#[47]⟩] w _ := Any.strings_LastIndex_one lays148 s ⟨#[47]⟩ rfl hs w
  exact k

/-- What CutPrefix answers. -/
def cutV (l p : List UInt8) : Value := .tuple #[.string ⟨(if p.isPrefixOf l = true then l.drop p.length else l).toArray⟩, .bool (p.isPrefixOf l)]

theorem cut_any (s p : ByteArray) (w : World) :
    Calls Tryd.prog 24 #[.string s, .string p] w fun e w' => e = .returned (cutV s.data.toList p.data.toList) ∧ w' = w := by
  have k : Calls Tryd.prog 24 #[.string s, .string p] w _ := Any.strings_CutPrefix lays103 s p w
  exact k

theorem cutV_no (l p : List UInt8) (h : p.isPrefixOf l = false) : cutV l p = .tuple #[.string ⟨l.toArray⟩, .bool false] := by
  unfold cutV
  rw [h, if_neg (by decide)]
theorem cutV_yes (l p : List UInt8) (h : p.isPrefixOf l = true) : cutV l p = .tuple #[.string ⟨(l.drop p.length).toArray⟩, .bool true] := by
  unfold cutV
  rw [h, if_pos rfl]

/-- Does a text begin with a slash? -/
theorem slash_at (s : ByteArray) (b : Bool) (w : World) (h : ([47] : List UInt8).isPrefixOf s.data.toList = b) :
    Calls Tryd.prog 21 #[.string s, .string ⟨#[47]⟩] w fun e w' => e = .returned (.bool b) ∧ w = w' := prefix_at s ⟨#[47]⟩ b w h
theorem ends_at (s : ByteArray) (b : Bool) (w : World) (hs : s.size ≤ 9223372036854775807) (h : ([47] : List UInt8).isSuffixOf s.data.toList = b) :
    Calls Tryd.prog 25 #[.string s, .string ⟨#[47]⟩] w fun e w' => e = .returned (.bool b) ∧ w = w' := suffix_at s ⟨#[47]⟩ b w hs h
end Go.Proofs.YthempdglmhmfeaaDoor
