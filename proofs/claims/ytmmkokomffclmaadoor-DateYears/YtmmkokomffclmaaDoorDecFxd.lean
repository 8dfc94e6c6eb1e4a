/-
  Numbers in so many digits: Fixed and Unfixed of the program.
-/
import Derived.Test.YtmmkokomffclmaaDoorDecNums
namespace Go.Proofs.YtmmkokomffclmaaDoor
open Go.RowKit
set_option linter.unusedVariables false

set_option maxRecDepth 100000 in
set_option maxHeartbeats 400000 in
theorem fixed_yes (n k : Nat) (w : World) (h1 : 1 ≤ k) (h2 : k ≤ 18) (h : n < 10 ^ k) :
    Calls Tryd.prog 33 #[.int .i64 (n : Int), .int .i64 (k : Int)] w fun e w' => e = .returned (.string (padB n k)) ∧ Below w.heap.size w w' := by
  have h18 : n < 1000000000000000000 := Nat.lt_of_lt_of_le h (Nat.pow_le_pow_right (n := 10) (by decide) h2)
  have H := Lib.hid h
  clear h
  have hsz : (padB n k).size ≤ k := Nat.le_of_eq (padB_size n k)
  go_enter Tryd.func33, Tryd.ntmps33
  go_wp2_with fail
  refine (digits_any n k k _ h1 (by omega) H.out (by omega) (by omega) (by omega) (.inl rfl)).mono ?_
  rintro _ w1 ⟨rfl, hb1⟩
  go_wp2
  go_ret
  exact ⟨rfl, hb1⟩

set_option maxRecDepth 100000 in
set_option maxHeartbeats 400000 in
theorem fixed_long (n k : Nat) (w : World) (hn : n ≤ 9223372036854775807) (h1 : 1 ≤ k) (h2 : k ≤ 18) (h : 10 ^ k ≤ n) :
    Calls Tryd.prog 33 #[.int .i64 (n : Int), .int .i64 (k : Int)] w fun e w' => e = .returned (.string ByteArray.empty) ∧ Below w.heap.size w w' := by
  have hk : k < nd n := by
    rcases Nat.lt_or_ge k (nd n) with h' | h'
    · exact h'
    · have := lt_of_nd n k (by omega) h'
      omega
  have H19 := nd_le19 n (by omega)
  obtain ⟨k1, k2, k3⟩ := nd_spec n (by omega)
  have K2 := Lib.hid k2
  have K3 := Lib.hid k3
  have hsz : k < (padB n (nd n)).size := by rw [padB_size]; exact hk
  clear k2 k3 h
  go_enter Tryd.func33, Tryd.ntmps33
  go_wp2_with fail
  refine (digits_any n k (nd n) _ k1 (by omega) K2.out (by omega) (by omega) (by omega) (.inr K3.out)).mono ?_
  rintro _ w1 ⟨rfl, hb1⟩
  go_wp2
  go_ret
  exact ⟨rfl, hb1⟩

set_option maxRecDepth 100000 in
set_option maxHeartbeats 400000 in
theorem fixed_out (n k : Int) (w : World) (h : k < 1 ∨ 18 < k ∨ n < 0) :
    Calls Tryd.prog 33 #[.int .i64 n, .int .i64 k] w fun e w' => e = .returned (.string ByteArray.empty) ∧ Below w.heap.size w w' := by
  rcases (show k < 1 ∨ (¬ k < 1 ∧ 18 < k) ∨ (¬ k < 1 ∧ ¬ 18 < k ∧ n < 0) from by omega) with h | ⟨h, h'⟩ | ⟨h, h', h''⟩
  all_goals
    go_enter Tryd.func33, Tryd.ntmps33
    go_wp2
    go_ret
    exact ⟨rfl, Below.refl _ _⟩

theorem fixB_yes (n k : Nat) (h1 : 1 ≤ k) (h2 : k ≤ 18) (h : n < 10 ^ k) : fixB n k = padB n k := by
  have h' : (n : Int) < 10 ^ (k : Int).toNat := by
    simp only [Int.toNat_natCast]
    exact_mod_cast h
  unfold fixB
  rw [if_pos ⟨by omega, by omega, by omega, h'⟩]
  simp

theorem fixB_long (n k : Nat) (h : 10 ^ k ≤ n) : fixB n k = ByteArray.empty := by
  unfold fixB
  rw [if_neg]
  rintro ⟨_, _, _, h4⟩
  simp only [Int.toNat_natCast] at h4
  have : n < 10 ^ k := by exact_mod_cast h4
  omega

theorem fixB_out (n k : Int) (h : k < 1 ∨ 18 < k ∨ n < 0) : fixB n k = ByteArray.empty := by
  unfold fixB
  rw [if_neg]
  rintro ⟨_, _, _, _⟩
  omega

theorem fixed_any (n k : Int) (w : World) (hn : n ≤ 9223372036854775807) :
    Calls Tryd.prog 33 #[.int .i64 n, .int .i64 k] w fun e w' => e = .returned (.string (fixB n k)) ∧ Below w.heap.size w w' := by
  by_cases h : k < 1 ∨ 18 < k ∨ n < 0
  · rw [fixB_out n k h]
    exact fixed_out n k w h
  · obtain ⟨m, rfl⟩ := Int.eq_ofNat_of_zero_le (show 0 ≤ n by omega)
    obtain ⟨j, rfl⟩ := Int.eq_ofNat_of_zero_le (show 0 ≤ k by omega)
    rcases Nat.lt_or_ge m (10 ^ j) with h' | h'
    · rw [fixB_yes m j (by omega) (by omega) h']
      exact fixed_yes m j w (by omega) (by omega) h'
    · rw [fixB_long m j h']
      exact fixed_long m j w (by omega) (by omega) (by omega) h'

set_option maxRecDepth 100000 in
set_option maxHeartbeats 400000 in
theorem unfixed_yes (s : ByteArray) (n : Nat) (w : World) (h1 : 1 ≤ s.size) (h2 : s.size ≤ 18) (h : allD s.data.toList = true) (hv : valN s.data.toList = n) :
    Calls Tryd.prog 40 #[.string s] w fun e w' => e = .returned (.tuple #[.int .i64 (n : Int), .bool true]) ∧ Below w.heap.size w w' := by
  have hl := valN_lt _ h
  rw [list_len, hv] at hl
  have hn : n < 1000000000000000000 := Nat.lt_of_lt_of_le hl (Nat.pow_le_pow_right (n := 10) (by decide) h2)
  have hm : valN s.data.toList % 18446744073709551616 = n := by rw [hv]; omega
  have H := Lib.hid h
  have HM := Lib.hid hm
  have he : s.toList.isEmpty = false := by rw [isEmpty_size, decide_eq_false_iff_not]; omega
  have he2 : s.toList ≠ [] := by intro h; rw [h] at he; cases he
  clear h hv hl hm
  go_enter Tryd.func40, Tryd.ntmps40
  go_wp2_with fail
  refine (at_worth (n := n) _ (by unfold maxLen; omega) H.out HM.out).mono ?_
  rintro _ w1 ⟨rfl, hb1⟩
  go_wp2
  go_ret2
  exact ⟨rfl, hb1⟩

set_option maxRecDepth 100000 in
set_option maxHeartbeats 400000 in
theorem unfixed_no (s : ByteArray) (w : World) (hs : s.size ≤ maxLen) (h : s.size = 0 ∨ 18 < s.size ∨ allD s.data.toList = false) :
    Calls Tryd.prog 40 #[.string s] w fun e w' => e = .returned (.tuple #[.int .i64 0, .bool false]) ∧ Below w.heap.size w w' := by
  rcases (show s.size = 0 ∨ (1 ≤ s.size ∧ 18 < s.size) ∨ (1 ≤ s.size ∧ s.size ≤ 18 ∧ allD s.data.toList = false) from by
    rcases h with h | h | h
    · exact .inl h
    · exact .inr (.inl ⟨by omega, h⟩)
    · by_cases h0 : s.size = 0
      · exact .inl h0
      · by_cases h1 : s.size ≤ 18
        · exact .inr (.inr ⟨by omega, h1, h⟩)
        · exact .inr (.inl ⟨by omega, by omega⟩)) with h | ⟨h1, h2⟩ | ⟨h1, h2, h3⟩
  · have he : s.toList.isEmpty = true := by rw [isEmpty_size]; simp [h]
    have he2 : s.toList = [] := List.isEmpty_iff.1 he
    clear h hs
    go_enter Tryd.func40, Tryd.ntmps40
    go_wp2
    go_ret2
    exact ⟨rfl, Below.refl _ _⟩
  · have he : s.toList.isEmpty = false := by rw [isEmpty_size, decide_eq_false_iff_not]; omega
    have he2 : s.toList ≠ [] := by intro h; rw [h] at he; cases he
    unfold maxLen at hs
    clear h
    go_enter Tryd.func40, Tryd.ntmps40
    go_wp2
    go_ret2
    exact ⟨rfl, Below.refl _ _⟩
  · have he : s.toList.isEmpty = false := by rw [isEmpty_size, decide_eq_false_iff_not]; omega
    have he2 : s.toList ≠ [] := by intro h; rw [h] at he; cases he
    have H := Lib.hid h3
    clear h h3
    go_enter Tryd.func40, Tryd.ntmps40
    go_wp2_with fail
    refine (worth_no s _ hs H.out).mono ?_
    rintro _ w1 ⟨rfl, hb1⟩
    go_wp2
    go_ret2
    exact ⟨rfl, hb1⟩
end Go.Proofs.YtmmkokomffclmaaDoor
