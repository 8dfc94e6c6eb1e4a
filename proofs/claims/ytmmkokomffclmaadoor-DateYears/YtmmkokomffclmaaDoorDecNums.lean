/-
  Numbers in decimal digits, plain; what digits come to, with the value as a variable.
-/
import Derived.Test.YtmmkokomffclmaaDoorDecDig
import Derived.Test.YtmmkokomffclmaaDoorDecWorth
namespace Go.Proofs.YtmmkokomffclmaaDoor
open Go.RowKit
set_option linter.unusedVariables false

theorem minus_pad (n : Nat) (k : Nat) : (⟨#[45]⟩ : ByteArray) ++ padB n k = ⟨(45 :: padK n k).toArray⟩ := by
  apply ba_ext
  simp [padB]

theorem printB_neg (n : Nat) (h : 1 ≤ n) : printB (-(n : Int)) = ⟨(45 :: padK n (nd n)).toArray⟩ := by
  unfold printB printL
  rw [if_pos (by omega)]
  simp

theorem printB_pos (n : Nat) : printB (n : Int) = padB n (nd n) := by
  unfold printB printL padB
  rw [if_neg (by omega)]
  simp

theorem nd_le19 (n : Nat) (h : n < 10000000000000000000) : nd n ≤ 19 := nd_le n 19 (by omega) (by omega) (by omega)

theorem at_worth {s : ByteArray} {n : Nat} (w : World) (hs : s.size ≤ maxLen) (h : allD s.data.toList = true) (hv : valN s.data.toList % 18446744073709551616 = n) :
    Calls Tryd.prog 59 #[.string s] w fun e w' => e = .returned (.tuple #[.int .u64 (n : Int), .bool true]) ∧ Below w.heap.size w w' := hv ▸ worth_yes s w hs h

def minusB : ByteArray := ⟨#[45]⟩

theorem pref_minus (s : ByteArray) : prefB s ⟨#[45]⟩ = true ↔ ∃ r, s.data.toList = 45 :: r := by
  unfold prefB
  have e1 : (ByteArray.mk #[45]).size = 1 := rfl
  have e2 : (ByteArray.mk #[45]).toList = [45] := by rw [ByteArray.toList_eq]
  rw [e1, e2, ByteArray.toList_eq, ByteArray.data_extract, Array.toList_extract, List.extract_eq_take_drop, Bool.and_eq_true, decide_eq_true_eq, beq_iff_eq]
  have hl := list_len s
  cases h : s.data.toList with
  | nil => simp
  | cons c r =>
    rw [h] at hl
    simp at hl ⊢
    omega

theorem val_pad_nd (n : Nat) (h : n < 18446744073709551616) : valN (padK n (nd n)) % 18446744073709551616 = n := by
  rw [valN_pad, Nat.mod_eq_of_lt (nd_spec n (by omega)).2.1]
  omega

end Go.Proofs.YtmmkokomffclmaaDoor
