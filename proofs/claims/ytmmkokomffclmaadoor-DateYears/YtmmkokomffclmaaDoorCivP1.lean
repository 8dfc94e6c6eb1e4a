/-
  Package civil: Leap, Length, within, newYear, early, Weekday: contracts.
-/
import Derived.Test.YtmmkokomffclmaaDoorCivTab
namespace Go.Proofs.YtmmkokomffclmaaDoor
open Go.RowKit
set_option linter.unusedVariables false

set_option maxRecDepth 100000 in
theorem pleap_any (y : Int) (w : World) :
    Calls Tryd.prog 71 #[.int .i64 y] w fun e w' => e = .returned (.bool (leap y)) ∧ w' = w := by
  have HL := Lib.hid (leap_tmod y)
  by_cases h1 : y.tmod 400 = 0 <;> by_cases h2 : y.tmod 4 = 0 <;> by_cases h3 : y.tmod 100 = 0 <;>
  · go_enter Tryd.func71, Tryd.ntmps71
    go_wp2
    all_goals
      go_ret
      exact ⟨ret_bool (by rw [HL.out]; simp [h1, h2, h3]), rfl⟩

theorem leap_any (y : Int) (w : World) (h1 : -9223372036854775808 ≤ y) (h2 : y ≤ 9223372036854775807) : Calls Tryd.prog 71 #[.int .i64 y] w fun e w' => e = .returned (.bool (leap y)) ∧ Below w.heap.size w w' :=
  (pleap_any y w).mono fun e w' ⟨a, b⟩ => ⟨a, b ▸ Below.refl _ _⟩

set_option maxRecDepth 100000 in
theorem pwithin_any (n k : Int) (w : World) :
    Calls Tryd.prog 50 #[.int .i64 n, .int .i64 k] w fun e w' => e = .returned (.bool (decide (0 ≤ n) && decide (n < k))) ∧ w' = w := by
  by_cases h1 : 0 ≤ n <;> by_cases h2 : n < k <;>
  · go_enter Tryd.func50, Tryd.ntmps50
    go_wp2
    all_goals
      go_ret
      exact ⟨ret_bool (by simp [h1, h2]), rfl⟩

set_option maxRecDepth 100000 in
theorem plength_in (y m : Int) (w : World) (hT : CTabs w) (h1 : 1 ≤ y) (h2 : y ≤ 9999) (h3 : 1 ≤ m) (h4 : m ≤ 12) :
    Calls Tryd.prog 63 #[.int .i64 y, .int .i64 m] w fun e w' => e = .returned (.int .i64 (mlen (leap y) m)) ∧ w' = w := by
  have hm : m = 1 ∨ m = 2 ∨ m = 3 ∨ m = 4 ∨ m = 5 ∨ m = 6 ∨ m = 7 ∨ m = 8 ∨ m = 9 ∨ m = 10 ∨ m = 11 ∨ m = 12 := by omega
  have hc (i : Nat) (hi : i < 12) : w.cell? ⟨2, i, none⟩ = some (.int .i64 (lens.getD i 0)) := hT i hi
  have c0 : w.cell? ⟨2, 0, none⟩ = some (.int .i64 31) := hc 0 (by omega)
  have c1 : w.cell? ⟨2, 1, none⟩ = some (.int .i64 28) := hc 1 (by omega)
  have c2 : w.cell? ⟨2, 2, none⟩ = some (.int .i64 31) := hc 2 (by omega)
  have c3 : w.cell? ⟨2, 3, none⟩ = some (.int .i64 30) := hc 3 (by omega)
  have c4 : w.cell? ⟨2, 4, none⟩ = some (.int .i64 31) := hc 4 (by omega)
  have c5 : w.cell? ⟨2, 5, none⟩ = some (.int .i64 30) := hc 5 (by omega)
  have c6 : w.cell? ⟨2, 6, none⟩ = some (.int .i64 31) := hc 6 (by omega)
  have c7 : w.cell? ⟨2, 7, none⟩ = some (.int .i64 31) := hc 7 (by omega)
  have c8 : w.cell? ⟨2, 8, none⟩ = some (.int .i64 30) := hc 8 (by omega)
  have c9 : w.cell? ⟨2, 9, none⟩ = some (.int .i64 31) := hc 9 (by omega)
  have c10 : w.cell? ⟨2, 10, none⟩ = some (.int .i64 30) := hc 10 (by omega)
  have c11 : w.cell? ⟨2, 11, none⟩ = some (.int .i64 31) := hc 11 (by omega)
  clear hc hT h3 h4
  rcases hm with rfl | rfl | rfl | rfl | rfl | rfl | rfl | rfl | rfl | rfl | rfl | rfl
  case inr.inl =>
    go_enter Tryd.func63, Tryd.ntmps63
    go_wp2_with fail
    with_reducible refine (pleap_any y _).mono ?_
    rintro _ w1 ⟨rfl, rfl⟩
    cases h : leap y <;>
    · have HL : Hid (mlen (leap y) 2 = if leap y = true then 29 else 28) := rfl
      rw [h] at HL
      go_wp2
      go_ret
      exact ⟨ret_i64 (by rw [h, HL.out]; rfl), rfl⟩
  all_goals
    go_enter Tryd.func63, Tryd.ntmps63
    go_wp2
    go_ret
    exact ⟨ret_i64 rfl, rfl⟩

set_option maxRecDepth 100000 in
theorem plength_out (y m : Int) (w : World) (h : y < 1 ∨ (¬ y < 1 ∧ 9999 < y) ∨ (¬ y < 1 ∧ ¬ 9999 < y ∧ m < 1) ∨ (¬ y < 1 ∧ ¬ 9999 < y ∧ ¬ m < 1 ∧ 12 < m)) :
    Calls Tryd.prog 63 #[.int .i64 y, .int .i64 m] w fun e w' => e = .returned (.int .i64 0) ∧ w' = w := by
  rcases h with h1 | ⟨h1, h2⟩ | ⟨h1, h2, h3⟩ | ⟨h1, h2, h3, h4⟩
  all_goals
    go_enter Tryd.func63, Tryd.ntmps63
    go_wp2
    go_ret
    exact ⟨rfl, rfl⟩

theorem plength_any (y m : Int) (w : World) (hT : CTabs w) :
    Calls Tryd.prog 63 #[.int .i64 y, .int .i64 m] w fun e w' => e = .returned (.int .i64 (lengthOf y m)) ∧ w' = w := by
  by_cases h : 1 ≤ y ∧ y ≤ 9999 ∧ 1 ≤ m ∧ m ≤ 12
  · obtain ⟨h1, h2, h3, h4⟩ := h
    rw [lengthOf_in m h1 h2]
    exact plength_in y m w hT h1 h2 h3 h4
  · have e : lengthOf y m = 0 := by
      unfold lengthOf
      by_cases hy : y < 1 ∨ 9999 < y
      · rw [if_pos hy]
      · rw [if_neg hy, mlen_none _ m (by omega)]
    rw [e]
    exact plength_out y m w (by omega)

theorem length_any (y m : Int) (w : World) (h1 : -9223372036854775808 ≤ y) (h2 : y ≤ 9223372036854775807) (h3 : -9223372036854775808 ≤ m) (h4 : m ≤ 9223372036854775807) (hT : CTabs w) : Calls Tryd.prog 63 #[.int .i64 y, .int .i64 m] w fun e w' => e = .returned (.int .i64 (lengthOf y m)) ∧ Below w.heap.size w w' :=
  (plength_any y m w hT).mono fun e w' ⟨a, b⟩ => ⟨a, b ▸ Below.refl _ _⟩

theorem ys_tdiv (y : Int) (h : 1 ≤ y) : (y - 1) * 365 + (y - 1).tdiv 4 - (y - 1).tdiv 100 + (y - 1).tdiv 400 - 719162 = ys y := by
  unfold ys
  rw [Int.tdiv_eq_ediv_of_nonneg (by omega), Int.tdiv_eq_ediv_of_nonneg (by omega), Int.tdiv_eq_ediv_of_nonneg (by omega)]
  omega

theorem tdiv_range (n k : Int) (h : 0 ≤ n) (hk : 1 ≤ k) : 0 ≤ n.tdiv k ∧ n.tdiv k ≤ n := by
  rw [Int.tdiv_eq_ediv_of_nonneg h]
  exact ⟨Int.ediv_nonneg h (by omega), Int.ediv_le_self _ h⟩

set_option maxRecDepth 100000 in
theorem pnewYear_any (y : Int) (w : World) (h1 : 1 ≤ y) (h2 : y ≤ 10000) :
    Calls Tryd.prog 64 #[.int .i64 y] w fun e w' => e = .returned (.int .i64 (ys y)) ∧ w' = w := by
  have HY := Lib.hid (ys_tdiv y h1)
  obtain ⟨a1, a2⟩ := tdiv_range (y - 1) 4 (by omega) (by omega)
  obtain ⟨b1, b2⟩ := tdiv_range (y - 1) 100 (by omega) (by omega)
  obtain ⟨c1, c2⟩ := tdiv_range (y - 1) 400 (by omega) (by omega)
  go_enter Tryd.func64, Tryd.ntmps64
  go_wp2
  go_ret
  exact ⟨ret_i64 HY.out, rfl⟩

/-- The year that the counting begins with. -/
def earlyY (n : Int) : Int := 1 + (n + 719162) / 146097 * 400 + (n + 719162) % 146097 / 366

set_option maxRecDepth 100000 in
theorem pearly_any (n : Int) (w : World) (h1 : -719162 ≤ n) (h2 : n ≤ 2932896) :
    Calls Tryd.prog 73 #[.int .i64 n] w fun e w' => e = .returned (.int .i64 (earlyY n)) ∧ w' = w := by
  obtain ⟨k, hk⟩ : ∃ k, k = n + 719162 := ⟨_, rfl⟩
  have k1 : 0 ≤ k := by omega
  have k2 : k ≤ 3652058 := by omega
  have e1 : k.tdiv 146097 = k / 146097 := Int.tdiv_eq_ediv_of_nonneg k1
  have e2 : k.tmod 146097 = k % 146097 := Int.tmod_eq_emod_of_nonneg k1
  have e3 : (k % 146097).tdiv 366 = k % 146097 / 366 := Int.tdiv_eq_ediv_of_nonneg (by omega)
  have q1 : 0 ≤ k.tdiv 146097 ∧ k.tdiv 146097 ≤ 24 := by omega
  have q2 : 0 ≤ (k.tmod 146097).tdiv 366 ∧ (k.tmod 146097).tdiv 366 ≤ 399 := by rw [e2]; omega
  have HE : Hid (1 + k.tdiv 146097 * 400 + k % 146097 / 366 = earlyY n) := by
    show _ = _
    unfold earlyY
    rw [e1, hk]
  have hn : n = k - 719162 := by omega
  have HY1 := Lib.hid ys_first
  subst hn
  clear e1 e2 e3 hk h1 h2
  go_enter Tryd.func73, Tryd.ntmps73
  go_wp2_with fail
  with_reducible refine (pnewYear_any 1 _ (by decide) (by decide)).mono ?_
  rintro _ w1 ⟨rfl, rfl⟩
  rw [HY1.out]
  have HK : Hid (k - 719162 - -719162 = k) := by show _ = _; omega
  go_wp2
  go_ret
  exact ⟨ret_i64 HE.out, rfl⟩

theorem tmod_seven (n : Int) : n.tmod 7 = n % 7 ∨ n.tmod 7 = n % 7 - 7 := by
  rw [Int.tmod_eq_emod]
  split <;> simp

theorem wday_tmod (n : Int) : (n.tmod 7 + 7 + 4) % 7 = wday n := by
  unfold wday
  have h := tmod_seven n
  omega

set_option maxRecDepth 100000 in
theorem weekday_any (n : Int) (w : World) (h1 : -9223372036854775808 ≤ n) (h2 : n ≤ 9223372036854775807) : Calls Tryd.prog 32 #[.int .i64 n] w fun e w' => e = .returned (.int .i64 (wday n)) ∧ Below w.heap.size w w' := by
  have HW := Lib.hid (wday_tmod n)
  have hr : -7 ≤ n.tmod 7 ∧ n.tmod 7 ≤ 6 := by have := tmod_seven n; omega
  go_enter Tryd.func32, Tryd.ntmps32
  go_wp2
  go_ret
  exact ⟨ret_i64 HW.out, Below.refl _ _⟩
end Go.Proofs.YtmmkokomffclmaaDoor
