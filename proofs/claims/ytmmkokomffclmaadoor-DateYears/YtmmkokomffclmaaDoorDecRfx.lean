/-
  The document's own Fixed and Read (package cracknelref02), and alive: contracts.
-/
import Derived.Test.YtmmkokomffclmaaDoorDecRef
import Derived.Test.YtmmkokomffclmaaDoorDecRunf
import Derived.Test.YtmmkokomffclmaaDoorDecFxd
namespace Go.Proofs.YtmmkokomffclmaaDoor
open Go.RowKit
set_option linter.unusedVariables false

theorem padB_nought (n j : Nat) (h : n < 10 ^ j) : (⟨#[48]⟩ : ByteArray) ++ padB n j = padB n (j + 1) :=
  padB_cons n j 48 (by rw [Nat.div_eq_of_lt h]; rfl)

def sizeOfStr : Value → Nat | .string s => s.size | _ => 0

set_option maxRecDepth 100000 in
set_option maxHeartbeats 800000 in
theorem rfixed_yes (n k : Nat) (w : World) (h1 : 1 ≤ k) (h2 : k ≤ 18) (h : n < 10 ^ k) :
    Calls Tryd.prog 38 #[.int .i64 (n : Int), .int .i64 (k : Int)] w fun e w' => e = .returned (.string (padB n k)) ∧ Below w.heap.size w w' := by
  have h18 : n < 1000000000000000000 := Nat.lt_of_lt_of_le h (Nat.pow_le_pow_right (n := 10) (by decide) h2)
  have hnk : nd n ≤ k := nd_le n k h1 (by omega) h
  obtain ⟨_, k2, _⟩ := nd_spec n (by omega)
  have H := Lib.hid h
  have K2 := Lib.hid k2
  have HP := Lib.hid (printB_pos n)
  clear h k2
  have hsz : (padB n (nd n)).size ≤ k := by rw [padB_size]; exact hnk
  go_enter Tryd.func38, Tryd.ntmps38
  go_wp2_with fail
  refine (rprint_pos n _ (by omega)).mono ?_
  rintro _ w1 ⟨rfl, hb1⟩
  rw [HP.out]
  go_wp2
  go_loop [5] (fun v => ∃ j, nd n ≤ j ∧ j ≤ k ∧ v = .string (padB n j)) (fun v => k - sizeOfStr v)
  case atStart => exact ⟨nd n, Nat.le_refl _, hnk, rfl⟩
  case round =>
    obtain ⟨j, hj1, hj2, rfl⟩ := hrel
    have hz := padB_size n j
    have HZ := Lib.hid hz
    have HZ2 := Lib.hid (padB_size n (j + 1))
    by_cases hlt : j < k
    · have g1 : (padB n j).size < k := by omega
      have hss : (ByteArray.mk #[48]).size + (padB n j).size ≤ 9223372036854775807 := by rw [hz]; show 1 + _ ≤ _; omega
      have HC := Lib.hid (padB_nought n j (Nat.lt_of_lt_of_le K2.out (Nat.pow_le_pow_right (by decide) hj1)))
      clear hz
      go_wp2
      go_round
      case rel => exact ⟨j + 1, by omega, by omega, by rw [HC.out]⟩
      case measure =>
        rw [HC.out]
        show k - (padB n (j + 1)).size < k - (padB n j).size
        rw [HZ.out, HZ2.out]
        omega
    · have g1 : k ≤ (padB n j).size := by omega
      have g2 : (padB n j).size ≤ 9223372036854775807 := by omega
      have e : j = k := by omega
      have HE := Lib.hid e
      clear hz e
      go_wp2
      go_ret
      exact ⟨ret_str (by rw [HE.out]), hb1⟩

set_option maxRecDepth 100000 in
set_option maxHeartbeats 400000 in
theorem rfixed_long (n k : Nat) (w : World) (hn : n ≤ 9223372036854775807) (h1 : 1 ≤ k) (h2 : k ≤ 18) (h : 10 ^ k ≤ n) :
    Calls Tryd.prog 38 #[.int .i64 (n : Int), .int .i64 (k : Int)] w fun e w' => e = .returned (.string ByteArray.empty) ∧ Below w.heap.size w w' := by
  have hk : k < nd n := by
    rcases Nat.lt_or_ge k (nd n) with h' | h'
    · exact h'
    · have := lt_of_nd n k (by omega) h'
      omega
  have hsz : k < (padB n (nd n)).size := by rw [padB_size]; exact hk
  have hsz2 : (padB n (nd n)).size ≤ 19 := by rw [padB_size]; exact nd_le19 n (by omega)
  have HP := Lib.hid (printB_pos n)
  clear h
  go_enter Tryd.func38, Tryd.ntmps38
  go_wp2_with fail
  refine (rprint_pos n _ hn).mono ?_
  rintro _ w1 ⟨rfl, hb1⟩
  rw [HP.out]
  go_wp2
  go_ret
  exact ⟨rfl, hb1⟩

set_option maxRecDepth 100000 in
set_option maxHeartbeats 400000 in
theorem rfixed_out (n k : Int) (w : World) (h : k < 1 ∨ 18 < k ∨ n < 0) :
    Calls Tryd.prog 38 #[.int .i64 n, .int .i64 k] w fun e w' => e = .returned (.string ByteArray.empty) ∧ Below w.heap.size w w' := by
  rcases (show k < 1 ∨ (¬ k < 1 ∧ 18 < k) ∨ (¬ k < 1 ∧ ¬ 18 < k ∧ n < 0) from by omega) with h | ⟨h, h'⟩ | ⟨h, h', h''⟩
  all_goals
    go_enter Tryd.func38, Tryd.ntmps38
    go_wp2
    go_ret
    exact ⟨rfl, Below.refl _ _⟩

theorem rfixed_any (n k : Int) (w : World) (hn : n ≤ 9223372036854775807) :
    Calls Tryd.prog 38 #[.int .i64 n, .int .i64 k] w fun e w' => e = .returned (.string (fixB n k)) ∧ Below w.heap.size w w' := by
  by_cases h : k < 1 ∨ 18 < k ∨ n < 0
  · rw [fixB_out n k h]
    exact rfixed_out n k w h
  · obtain ⟨m, rfl⟩ := Int.eq_ofNat_of_zero_le (show 0 ≤ n by omega)
    obtain ⟨j, rfl⟩ := Int.eq_ofNat_of_zero_le (show 0 ≤ k by omega)
    rcases Nat.lt_or_ge m (10 ^ j) with h' | h'
    · rw [fixB_yes m j (by omega) (by omega) h']
      exact rfixed_yes m j w (by omega) (by omega) h'
    · rw [fixB_long m j h']
      exact rfixed_long m j w (by omega) (by omega) (by omega) h'

end Go.Proofs.YtmmkokomffclmaaDoor
