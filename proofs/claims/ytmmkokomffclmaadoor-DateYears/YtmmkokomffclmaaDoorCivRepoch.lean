/-
  The document's own answers (package cracknelref09): Epoch, Of: contracts.
-/
import Derived.Test.YtmmkokomffclmaaDoorCivRdate
import Derived.Laws.ResultCell
namespace Go.Proofs.YtmmkokomffclmaaDoor
open Go.RowKit
set_option linter.unusedVariables false

/-- A clock's value. -/
abbrev clkV (y m d h i s : Int) : Value := .agg #[.int .i64 y, .int .i64 m, .int .i64 d, .int .i64 h, .int .i64 i, .int .i64 s]

set_option maxRecDepth 100000 in
set_option maxHeartbeats 1600000 in
theorem repoch_yes (y m d h i s : Int) (w : World) (hc : IsClock y m d h i s) :
    Calls Tryd.prog 30 #[clkV y m d h i s] w fun e w' => e = .returned (.tuple #[.int .i64 (secs y m d h i s), .bool true]) ∧ Below w.heap.size w w' := by
  obtain ⟨hd, h1, h2, h3, h4, h5, h6⟩ := hc
  obtain ⟨n1, n2⟩ := hd.within
  obtain ⟨n, hn⟩ : ∃ n, n = dayNum y m d := ⟨_, rfl⟩
  have HN := Lib.hid hn
  have HD := Lib.hid (rdays_yes y m d · hd)
  rw [← hn] at n1 n2
  clear hn hd
  go_enter Tryd.func30, Tryd.ntmps30
  go_wp2_with fail
  refine (HD.out _).mono ?_
  rintro _ w1 ⟨rfl, rfl⟩
  rw [← HN.out]
  go_wp2
  go_ret2
  exact ⟨ret_i64b _ (by rw [HN.out]; rfl), (Below.refl _ _).alloc (Nat.le_refl _) _⟩

set_option maxRecDepth 100000 in
set_option maxHeartbeats 1600000 in
theorem repoch_no (y m d h i s : Int) (w : World) (hc : ¬ IsClock y m d h i s) :
    Calls Tryd.prog 30 #[clkV y m d h i s] w fun e w' => e = .returned (.tuple #[.int .i64 0, .bool false]) ∧ Below w.heap.size w w' := by
  by_cases hd : IsDay y m d
  · have HD := Lib.hid (rdays_yes y m d · hd)
    obtain ⟨n, hn⟩ : ∃ n, n = dayNum y m d := ⟨_, rfl⟩
    rw [← hn] at HD
    have hx : h < 0 ∨ (¬ h < 0 ∧ 23 < h) ∨ (¬ h < 0 ∧ ¬ 23 < h ∧ i < 0) ∨ (¬ h < 0 ∧ ¬ 23 < h ∧ ¬ i < 0 ∧ 59 < i) ∨ (¬ h < 0 ∧ ¬ 23 < h ∧ ¬ i < 0 ∧ ¬ 59 < i ∧ s < 0) ∨ (¬ h < 0 ∧ ¬ 23 < h ∧ ¬ i < 0 ∧ ¬ 59 < i ∧ ¬ s < 0 ∧ 59 < s) := by
      have : ¬ (0 ≤ h ∧ h ≤ 23 ∧ 0 ≤ i ∧ i ≤ 59 ∧ 0 ≤ s ∧ s ≤ 59) := fun a => hc ⟨hd, a⟩
      omega
    clear hn hd hc
    rcases hx with h1 | ⟨h1, h2⟩ | ⟨h1, h2, h3⟩ | ⟨h1, h2, h3, h4⟩ | ⟨h1, h2, h3, h4, h5⟩ | ⟨h1, h2, h3, h4, h5, h6⟩
    all_goals
      go_enter Tryd.func30, Tryd.ntmps30
      go_wp2_with fail
      refine (HD.out _).mono ?_
      rintro _ w1 ⟨rfl, rfl⟩
      go_wp2
      go_ret2
      exact ⟨rfl, (Below.refl _ _).alloc (Nat.le_refl _) _⟩
  · have HD := Lib.hid (rdays_no y m d · hd)
    clear hd hc
    go_enter Tryd.func30, Tryd.ntmps30
    go_wp2_with fail
    refine (HD.out _).mono ?_
    rintro _ w1 ⟨rfl, rfl⟩
    go_wp2
    go_ret2
    exact ⟨rfl, (Below.refl _ _).alloc (Nat.le_refl _) _⟩

theorem tdiv_day (t n : Int) (h : t.tdiv 86400 = n) : (n * 86400 > t → t / 86400 = n - 1) ∧ (¬ n * 86400 > t → t / 86400 = n) := by
  subst h
  rcases Int.lt_or_le t 0 with h | h
  · obtain ⟨u, rfl⟩ : ∃ u, t = -u := ⟨-t, by omega⟩
    rw [Int.neg_tdiv, Int.tdiv_eq_ediv_of_nonneg (by omega)]
    omega
  · rw [Int.tdiv_eq_ediv_of_nonneg h]
    omega

set_option maxRecDepth 100000 in
set_option maxHeartbeats 1600000 in
theorem rof_yes (t y m d h i s : Int) (w : World) (hs : Shows t y m d h i s) :
    Calls Tryd.prog 35 #[.int .i64 t] w fun e w' => e = .returned (.tuple #[clkV y m d h i s, .bool true]) ∧ Below w.heap.size w w' := by
  obtain ⟨t1, t2⟩ := hs.within
  obtain ⟨hd, hh, hi, hse⟩ := hs.day
  have HD := Lib.hid (rdate_yes (t / 86400) y m d · hd)
  have HR : Hid (h = t % 86400 / 3600 ∧ i = t % 86400 / 60 % 60 ∧ s = t % 86400 % 60) := ⟨hh, hi, hse⟩
  clear hd hh hi hse hs
  obtain ⟨q, hq⟩ : ∃ q, t.tdiv 86400 = q := ⟨_, rfl⟩
  obtain ⟨q1, q2⟩ := tdiv_day t q hq
  have hqr : -1000000 ≤ q ∧ q ≤ 3000000 := by omega
  by_cases hlt : t < q * 86400
  · have hr : 0 ≤ t - 86400 * (q - 1) ∧ t - 86400 * (q - 1) ≤ 86399 := by have := q1 hlt; omega
    have HQ := Lib.hid (q1 hlt)
    rw [q1 hlt] at HD
    clear q1 q2
    go_enter Tryd.func35, Tryd.ntmps35
    go_wp2_with fail
    refine (HD.out _).mono ?_
    rintro _ w1 ⟨rfl, rfl⟩
    go_wp2
    (try simp only [Exit.inBlock, Exit.then])
    refine bodyPost_ret (v := .tuple #[clkV y m d h i s, .bool true]) (by rw [results_cell_tmp rfl]; go_simp; have h1 := HR.out; have h2 := HQ.out; omega) rfl ?_
    exact ⟨rfl, (Below.refl _ _).alloc (Nat.le_refl _) _⟩
  · have hr : 0 ≤ t - 86400 * q ∧ t - 86400 * q ≤ 86399 := by have := q2 hlt; omega
    have HQ := Lib.hid (q2 hlt)
    rw [q2 hlt] at HD
    clear q1 q2
    go_enter Tryd.func35, Tryd.ntmps35
    go_wp2_with fail
    refine (HD.out _).mono ?_
    rintro _ w1 ⟨rfl, rfl⟩
    go_wp2
    (try simp only [Exit.inBlock, Exit.then])
    refine bodyPost_ret (v := .tuple #[clkV y m d h i s, .bool true]) (by rw [results_cell_tmp rfl]; go_simp; have h1 := HR.out; have h2 := HQ.out; omega) rfl ?_
    exact ⟨rfl, (Below.refl _ _).alloc (Nat.le_refl _) _⟩

set_option maxRecDepth 100000 in
theorem rof_no (t : Int) (w : World) (h : t < -62135596800 ∨ 253402300799 < t) :
    Calls Tryd.prog 35 #[.int .i64 t] w fun e w' => e = .returned (.tuple #[clkV 0 0 0 0 0 0, .bool false]) ∧ Below w.heap.size w w' := by
  rcases h with h | h
  all_goals
    go_enter Tryd.func35, Tryd.ntmps35
    go_wp2
    (try simp only [Exit.inBlock, Exit.then])
    refine bodyPost_ret (v := .tuple #[clkV 0 0 0 0 0 0, .bool false]) (by rw [results_cell_tmp rfl]; go_simp) rfl ?_
    exact ⟨rfl, (Below.refl _ _).alloc (Nat.le_refl _) _⟩
end Go.Proofs.YtmmkokomffclmaaDoor
