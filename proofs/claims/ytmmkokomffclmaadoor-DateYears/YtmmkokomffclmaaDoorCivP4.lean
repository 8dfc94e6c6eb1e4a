/-
  Package civil: Epoch, Of: contracts.
-/
import Derived.Test.YtmmkokomffclmaaDoorCivP3
namespace Go.Proofs.YtmmkokomffclmaaDoor
open Go.RowKit
set_option linter.unusedVariables false

theorem within_yes {n k : Int} (w : World) (h1 : 0 ≤ n) (h2 : n ≤ k - 1) :
    Calls Tryd.prog 50 #[.int .i64 n, .int .i64 k] w fun e w' => e = .returned (.bool true) ∧ w' = w := by
  have h := pwithin_any n k w
  rw [show (decide (0 ≤ n) && decide (n < k)) = true by simp; omega] at h
  exact h

theorem within_no {n k : Int} (w : World) (h : n < 0 ∨ k - 1 < n) :
    Calls Tryd.prog 50 #[.int .i64 n, .int .i64 k] w fun e w' => e = .returned (.bool false) ∧ w' = w := by
  have h' := pwithin_any n k w
  rw [show (decide (0 ≤ n) && decide (n < k)) = false by simp; omega] at h'
  exact h'

set_option maxRecDepth 100000 in
set_option maxHeartbeats 1600000 in
theorem epoch_yes (y m d h i s : Int) (w : World) (hc : IsClock y m d h i s) (hT : CTabs w) : Calls Tryd.prog 27 #[clkV y m d h i s] w fun e w' => e = .returned (.tuple #[.int .i64 (secs y m d h i s), .bool true]) ∧ Below w.heap.size w w' := by
  obtain ⟨hd, h1, h2', h3, h4', h5, h6'⟩ := hc
  have h2 : h ≤ 24 - 1 := by omega
  have h4 : i ≤ 60 - 1 := by omega
  have h6 : s ≤ 60 - 1 := by omega
  obtain ⟨n1, n2⟩ := hd.within
  obtain ⟨n, hn⟩ : ∃ n, n = dayNum y m d := ⟨_, rfl⟩
  have HN := Lib.hid hn
  have HD := Lib.hid (pdays_yes y m d · hd)
  rw [← hn] at n1 n2
  clear hn hd
  go_enter Tryd.func27, Tryd.ntmps27
  go_wp2_with fail
  refine (HD.out _ (hT.alloc _)).mono ?_
  rintro _ w1 ⟨rfl, rfl⟩
  rw [← HN.out]
  go_wp2_with fail
  with_reducible refine (within_yes (n := h) (k := 24) _ h1 h2).mono ?_
  rintro _ w1 ⟨rfl, rfl⟩
  go_wp2_with fail
  with_reducible refine (within_yes (n := i) (k := 60) _ h3 h4).mono ?_
  rintro _ w1 ⟨rfl, rfl⟩
  go_wp2_with fail
  with_reducible refine (within_yes (n := s) (k := 60) _ h5 h6).mono ?_
  rintro _ w1 ⟨rfl, rfl⟩
  go_wp2
  go_ret2
  exact ⟨ret_i64b _ (by rw [HN.out]; unfold secs; omega), (Below.refl _ _).alloc (Nat.le_refl _) _⟩

set_option maxRecDepth 100000 in
set_option maxHeartbeats 1600000 in
theorem pepoch_no (y m d h i s : Int) (w : World) (hc : ¬ IsClock y m d h i s) (hT : CTabs w) : Calls Tryd.prog 27 #[clkV y m d h i s] w fun e w' => e = .returned (.tuple #[.int .i64 0, .bool false]) ∧ Below w.heap.size w w' := by
  by_cases hd : IsDay y m d
  · have HD := Lib.hid (pdays_yes y m d · hd)
    obtain ⟨n, hn⟩ : ∃ n, n = dayNum y m d := ⟨_, rfl⟩
    rw [← hn] at HD
    have hx : (h < 0 ∨ 24 - 1 < h) ∨ ((0 ≤ h ∧ h ≤ 24 - 1) ∧ (i < 0 ∨ 60 - 1 < i)) ∨ ((0 ≤ h ∧ h ≤ 24 - 1) ∧ (0 ≤ i ∧ i ≤ 60 - 1) ∧ (s < 0 ∨ 60 - 1 < s)) := by
      have : ¬ (0 ≤ h ∧ h ≤ 23 ∧ 0 ≤ i ∧ i ≤ 59 ∧ 0 ≤ s ∧ s ≤ 59) := fun a => hc ⟨hd, a⟩
      omega
    clear hn hd hc
    rcases hx with h1 | ⟨⟨h1, h2⟩, h3⟩ | ⟨⟨h1, h2⟩, ⟨h3, h4⟩, h5⟩
    case _ =>
      go_enter Tryd.func27, Tryd.ntmps27
      go_wp2_with fail
      refine (HD.out _ (hT.alloc _)).mono ?_
      rintro _ w1 ⟨rfl, rfl⟩
      go_wp2_with fail
      with_reducible refine (within_no (n := h) (k := 24) _ h1).mono ?_
      rintro _ w1 ⟨rfl, rfl⟩
      go_wp2
      go_ret2
      exact ⟨rfl, (Below.refl _ _).alloc (Nat.le_refl _) _⟩
    case _ =>
      go_enter Tryd.func27, Tryd.ntmps27
      go_wp2_with fail
      refine (HD.out _ (hT.alloc _)).mono ?_
      rintro _ w1 ⟨rfl, rfl⟩
      go_wp2_with fail
      with_reducible refine (within_yes (n := h) (k := 24) _ h1 h2).mono ?_
      rintro _ w1 ⟨rfl, rfl⟩
      go_wp2_with fail
      with_reducible refine (within_no (n := i) (k := 60) _ h3).mono ?_
      rintro _ w1 ⟨rfl, rfl⟩
      go_wp2
      go_ret2
      exact ⟨rfl, (Below.refl _ _).alloc (Nat.le_refl _) _⟩
    case _ =>
      go_enter Tryd.func27, Tryd.ntmps27
      go_wp2_with fail
      refine (HD.out _ (hT.alloc _)).mono ?_
      rintro _ w1 ⟨rfl, rfl⟩
      go_wp2_with fail
      with_reducible refine (within_yes (n := h) (k := 24) _ h1 h2).mono ?_
      rintro _ w1 ⟨rfl, rfl⟩
      go_wp2_with fail
      with_reducible refine (within_yes (n := i) (k := 60) _ h3 h4).mono ?_
      rintro _ w1 ⟨rfl, rfl⟩
      go_wp2_with fail
      with_reducible refine (within_no (n := s) (k := 60) _ h5).mono ?_
      rintro _ w1 ⟨rfl, rfl⟩
      go_wp2
      go_ret2
      exact ⟨rfl, (Below.refl _ _).alloc (Nat.le_refl _) _⟩
  · have HD := Lib.hid (pdays_no y m d · hd)
    clear hd hc
    go_enter Tryd.func27, Tryd.ntmps27
    go_wp2_with fail
    refine (HD.out _ (hT.alloc _)).mono ?_
    rintro _ w1 ⟨rfl, rfl⟩
    go_wp2
    go_ret2
    exact ⟨rfl, (Below.refl _ _).alloc (Nat.le_refl _) _⟩

theorem epoch_no (y m d h i s : Int) (w : World) (hc : ¬ IsClock y m d h i s) (h0 : ∀ x ∈ [y, m, d, h, i, s], -9223372036854775808 ≤ x ∧ x ≤ 9223372036854775807) (hT : CTabs w) : Calls Tryd.prog 27 #[clkV y m d h i s] w fun e w' => e = .returned (.tuple #[.int .i64 0, .bool false]) ∧ Below w.heap.size w w' := pepoch_no y m d h i s w hc hT

theorem tmod_day (t q : Int) (h : t.tdiv 86400 = q) : t.tmod 86400 = t - 86400 * q := by
  have := Int.mul_tdiv_add_tmod t 86400
  rw [h] at this
  omega

set_option maxRecDepth 100000 in
set_option maxHeartbeats 1600000 in
theorem of_yes (t y m d h i s : Int) (w : World) (hs : Shows t y m d h i s) (hT : CTabs w) : Calls Tryd.prog 55 #[.int .i64 t] w fun e w' => e = .returned (.tuple #[clkV y m d h i s, .bool true]) ∧ Below w.heap.size w w' := by
  obtain ⟨t1, t2⟩ := hs.within
  obtain ⟨hd, hh, hi, hse⟩ := hs.day
  have HD := Lib.hid (pdate_yes (t / 86400) y m d · hd)
  have HR : Hid (h = t % 86400 / 3600 ∧ i = t % 86400 / 60 % 60 ∧ s = t % 86400 % 60) := ⟨hh, hi, hse⟩
  clear hd hh hi hse hs
  obtain ⟨q, hq⟩ : ∃ q, t.tdiv 86400 = q := ⟨_, rfl⟩
  obtain ⟨r, hr⟩ : ∃ r, t.tmod 86400 = r := ⟨_, rfl⟩
  obtain ⟨q1, q2⟩ := tdiv_day t q hq
  have hqr : -1000000 ≤ q ∧ q ≤ 3000000 := by omega
  have e := tmod_day t q hq
  rw [hr] at e
  by_cases hlt : r < 0
  · have hl := q1 (by omega)
    have hrr : 0 ≤ r + 86400 ∧ r + 86400 ≤ 86399 := by omega
    have HQ : Hid (t % 86400 = r + 86400) := by show _ = _; omega
    rw [hl] at HD
    clear q1 q2 hl e
    go_enter Tryd.func55, Tryd.ntmps55
    go_wp2_with fail
    refine (HD.out _ (hT.alloc _)).mono ?_
    rintro _ w1 ⟨rfl, rfl⟩
    go_wp2
    (try simp only [Exit.inBlock, Exit.then])
    refine bodyPost_ret (v := .tuple #[clkV y m d h i s, .bool true]) (by rw [results_cell_tmp rfl]; go_simp; have h1 := HR.out; have h2 := HQ.out; omega) rfl ?_
    exact ⟨rfl, (Below.refl _ _).alloc (Nat.le_refl _) _⟩
  · have hl := q2 (by omega)
    have hrr : 0 ≤ r ∧ r ≤ 86399 := by omega
    have HQ : Hid (t % 86400 = r) := by show _ = _; omega
    rw [hl] at HD
    clear q1 q2 hl e
    go_enter Tryd.func55, Tryd.ntmps55
    go_wp2_with fail
    refine (HD.out _ (hT.alloc _)).mono ?_
    rintro _ w1 ⟨rfl, rfl⟩
    go_wp2
    (try simp only [Exit.inBlock, Exit.then])
    refine bodyPost_ret (v := .tuple #[clkV y m d h i s, .bool true]) (by rw [results_cell_tmp rfl]; go_simp; have h1 := HR.out; have h2 := HQ.out; omega) rfl ?_
    exact ⟨rfl, (Below.refl _ _).alloc (Nat.le_refl _) _⟩

set_option maxRecDepth 100000 in
set_option maxHeartbeats 1600000 in
theorem of_no (t : Int) (w : World) (h : t < -62135596800 ∨ 253402300799 < t) (h1 : -9223372036854775808 ≤ t) (h2 : t ≤ 9223372036854775807) (hT : CTabs w) : Calls Tryd.prog 55 #[.int .i64 t] w fun e w' => e = .returned (.tuple #[clkV 0 0 0 0 0 0, .bool false]) ∧ Below w.heap.size w w' := by
  obtain ⟨q, hq⟩ : ∃ q, t.tdiv 86400 = q := ⟨_, rfl⟩
  obtain ⟨r, hr⟩ : ∃ r, t.tmod 86400 = r := ⟨_, rfl⟩
  obtain ⟨q1, q2⟩ := tdiv_day t q hq
  have e := tmod_day t q hq
  rw [hr] at e
  by_cases hlt : r < 0
  · have hl := q1 (by omega)
    have hqr : -106751991167301 ≤ q ∧ q ≤ 106751991167301 := by omega
    have hrr : 0 ≤ r + 86400 ∧ r + 86400 ≤ 86399 := by omega
    have HD := Lib.hid (pdate_no (q - 1) · (by omega))
    clear q1 q2 hl e h
    go_enter Tryd.func55, Tryd.ntmps55
    go_wp2_with fail
    refine (HD.out _).mono ?_
    rintro _ w1 ⟨rfl, rfl⟩
    go_wp2
    (try simp only [Exit.inBlock, Exit.then])
    refine bodyPost_ret (v := .tuple #[clkV 0 0 0 0 0 0, .bool false]) (by rw [results_cell_tmp rfl]; go_simp) rfl ?_
    exact ⟨rfl, (Below.refl _ _).alloc (Nat.le_refl _) _⟩
  · have hl := q2 (by omega)
    have hqr : -106751991167301 ≤ q ∧ q ≤ 106751991167301 := by omega
    have hrr : 0 ≤ r ∧ r ≤ 86399 := by omega
    have HD := Lib.hid (pdate_no q · (by omega))
    clear q1 q2 hl e h
    go_enter Tryd.func55, Tryd.ntmps55
    go_wp2_with fail
    refine (HD.out _).mono ?_
    rintro _ w1 ⟨rfl, rfl⟩
    go_wp2
    (try simp only [Exit.inBlock, Exit.then])
    refine bodyPost_ret (v := .tuple #[clkV 0 0 0 0 0 0, .bool false]) (by rw [results_cell_tmp rfl]; go_simp) rfl ?_
    exact ⟨rfl, (Below.refl _ _).alloc (Nat.le_refl _) _⟩
end Go.Proofs.YtmmkokomffclmaaDoor
