/-
  Numbers in decimal digits, plain: what the program's contracts and the document's share.
-/
import Derived.Test.YtkpdejnhjbojpaaDoorCkMa
namespace Go.Proofs.YtkpdejnhjbojpaaDoor
open Go.RowKit
set_option linter.unusedVariables false

/-- Does s begin with p? -/
def prefB (s p : ByteArray) : Bool := decide (p.size ≤ s.size) && ((s.extract 0 p.size).toList == p.toList)

theorem padK_at (n : Nat) : ∀ k i, i < k → (padK n k)[i]? = some (UInt8.ofNat (48 + n / 10 ^ (k - 1 - i) % 10))
  | 0, i, h => by omega
  | k + 1, 0, h => by simp [padK]
  | k + 1, i + 1, h => by
    rw [padK, List.getElem?_cons_succ, padK_at n k i (by omega), show k + 1 - 1 - (i + 1) = k - 1 - i by omega]

theorem pow_step (n j q : Nat) (h : q = n / 10 ^ j) : q / 10 = n / 10 ^ (j + 1) := by
  rw [h, Nat.div_div_eq_div_mul, Nat.pow_succ]

theorem allD_snoc (l : List UInt8) (c : UInt8) (h : allD l = true) : allD (l ++ [c]) = isD c := by
  unfold allD at *
  rw [List.all_append, h]
  simp

theorem allD_take (l : List UInt8) (k : Nat) (h : allD (l.take k) = false) : allD l = false := by
  unfold allD at *
  rw [← Bool.not_eq_true] at *
  intro h2
  apply h
  rw [List.all_eq_true] at *
  intro x hx
  exact h2 x (List.mem_of_mem_take hx)

theorem minus_pad (n : Nat) (k : Nat) : (⟨#[45]⟩ : ByteArray) ++ padB n k = ⟨(45 :: padK n k).toArray⟩ := by
  apply ba_ext
  simp [padB]

theorem printB_neg (n : Nat) (h : 1 ≤ n) : printB (-(n : Int)) = ⟨(45 :: padK n (nd n)).toArray⟩ := by
  unfold printB printL
  rw [if_pos (by omega)]
  simp

theorem printB_pos (n : Nat) : printB (n : Int) = padB n (nd n) := by
  unfold printB printL padB
  rw [if_neg (by omega)]
  simp

theorem nd_le19 (n : Nat) (h : n < 10000000000000000000) : nd n ≤ 19 := nd_le n 19 (by omega) (by omega) (by omega)

def minusB : ByteArray := ⟨#[45]⟩

theorem pref_minus (s : ByteArray) : prefB s ⟨#[45]⟩ = true ↔ ∃ r, s.data.toList = 45 :: r := by
  unfold prefB
  have e1 : (ByteArray.mk #[45]).size = 1 := rfl
  have e2 : (ByteArray.mk #[45]).toList = [45] := by rw [ByteArray.toList_eq]
  rw [e1, e2, ByteArray.toList_eq, ByteArray.data_extract, Array.toList_extract, List.extract_eq_take_drop, Bool.and_eq_true, decide_eq_true_eq, beq_iff_eq]
  have hl := list_len s
  cases h : s.data.toList with
  | nil => simp
  | cons c r =>
    rw [h] at hl
    simp at hl ⊢
    omega

theorem val_pad_nd (n : Nat) (h : n < 18446744073709551616) : valN (padK n (nd n)) % 18446744073709551616 = n := by
  rw [valN_pad, Nat.mod_eq_of_lt (nd_spec n (by omega)).2.1]
  omega

end Go.Proofs.YtkpdejnhjbojpaaDoor
