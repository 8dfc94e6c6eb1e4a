/-
  strings.IndexByte: the library's own contract of it, at this program.
-/
import Derived.Test.YtfpokkpklbkhiaaDoorBase
import Derived.Shelf.Small.Strs
namespace Go.Proofs.YtfpokkpklbkhiaaDoor
open Go.RowKit Go.Shelf
set_option linter.unusedVariables false

def numb137 : Go.Shelf.Ren := ⟨fun | 137 => 32 | 217 => 41 | 266 => 47 | n => n, fun | 9 => 9 | 5 => 5 | 3 => 3 | n => n, fun | n => n⟩
theorem lays137 : Go.Proofs.Lays.n137 Tryd.prog numb137 := {
  mixed := by kernel_rfl
  f137 := Tryd.func32.trans (congrArg some (by kernel_rfl))
  f217 := Tryd.func41.trans (congrArg some (by kernel_rfl))
  f266 := Tryd.func47.trans (congrArg some (by kernel_rfl))
  t3 := Tryd.underlying3
  a3 := Tryd.isAgg3
  z3 := Tryd.sizeOf3
  v3 := Tryd.zeroValue3
  t5 := Tryd.underlying5
  a5 := Tryd.isAgg5
  z5 := Tryd.sizeOf5
  v5 := Tryd.zeroValue5
  t9 := Tryd.underlying9
  a9 := Tryd.isAgg9
  z9 := Tryd.sizeOf9
  v9 := Tryd.zeroValue9 }

theorem index_any (s : ByteArray) (c : UInt8) (C i : Int) (w : World) (hC : C = (c.toNat : Int)) (hi : Lib.indexByte s.data.toList c = i) :
    Calls Tryd.prog 32 #[.string s, .int .u8 C] w fun e w' => e = .returned (.int .i64 i) ∧ w = w' := by
  subst hC hi
  have k : Calls Tryd.prog 32 #[.string s, .int .u8 (c.toNat : Int)] w _ := Any.strings_IndexByte lays137 s (c.toNat : Int) w
  refine k.mono fun e w' ⟨h1, h2⟩ => ⟨?_, h2.symm⟩
  rw [h1]
  simp

/-- The place of a byte in a text is -1 just if the text has it not. -/
theorem indexByte_none (l : List UInt8) (c : UInt8) (h : l.contains c = false) : Lib.indexByte l c = -1 := by
  induction l with
  | nil => rfl
  | cons b t ih =>
    simp only [List.contains_cons, Bool.or_eq_false_iff, beq_eq_false_iff_ne] at h
    have hb : (b == c) = false := by
      rw [beq_eq_false_iff_ne]
      exact fun e => h.1 e.symm
    unfold Lib.indexByte
    rw [ih h.2, hb]
    rfl
theorem indexByte_some (l : List UInt8) (c : UInt8) (h : l.contains c = true) : 0 ≤ Lib.indexByte l c := by
  induction l with
  | nil => cases h
  | cons b t ih =>
    unfold Lib.indexByte
    by_cases hb : b = c
    · rw [hb]
      simp
    · have ht : t.contains c = true := by
        simp only [List.contains_cons, Bool.or_eq_true, beq_iff_eq] at h
        exact h.resolve_left (fun e => hb e.symm)
      have := ih ht
      rw [if_neg (by simpa using hb), if_neg (by simp; omega)]
      omega
end Go.Proofs.YtfpokkpklbkhiaaDoor
