/-
  Package civil: Days: contracts.
-/
import Derived.Test.YtmmkokomffclmaaDoorCivP1
namespace Go.Proofs.YtmmkokomffclmaaDoor
open Go.RowKit
set_option linter.unusedVariables false

def PMonths (y m d : Int) (w0 : World) (gk : Nat) (n at' : Value) (wr : World) : Prop :=
  ∃ M : Int, n = .int .i64 (ys y + d - 1 + ms (leap y) M) ∧ at' = .int .i64 M ∧ 1 ≤ M ∧ M ≤ m ∧ M + gk = 14 ∧ wr = w0

set_option maxRecDepth 100000 in
set_option maxHeartbeats 1600000 in
theorem pdays_yes (y m d : Int) (w : World) (h : IsDay y m d) (hT : CTabs w) :
    Calls Tryd.prog 49 #[.int .i64 y, .int .i64 m, .int .i64 d] w fun e w' => e = .returned (.tuple #[.int .i64 (dayNum y m d), .bool true]) ∧ w' = w := by
  obtain ⟨y1, y2, m1, m2, d1, d2⟩ := h.range
  have hd31 := (mlen_range (leap y) m).2
  have hl : ¬ lengthOf y m < d := by have := h.2; omega
  have hys := ys_range y y1 (by omega)
  have hdd : d ≤ 31 := by omega
  clear h d2
  go_enter Tryd.func49, Tryd.ntmps49
  go_wp2_with fail
  with_reducible refine (plength_any y m _ hT).mono ?_
  rintro _ w1 ⟨rfl, rfl⟩
  go_wp2_with fail
  with_reducible refine (pnewYear_any y _ y1 (by omega)).mono ?_
  rintro _ w2 ⟨rfl, rfl⟩
  go_wp2_with fail
  go_loopg [8, 9] 13 (fun gk n at' wr => PMonths y m d w2 gk n at' wr)
  case atStart => exact ⟨1, by rw [ms_one]; go_num, rfl, by omega, by omega, by omega, rfl⟩
  case round =>
    obtain ⟨M, rfl, rfl, hM1, hM2, hg, rfl⟩ := hrel
    have hMs := ms_range (leap y) M hM1 (by omega)
    have hMl := lengthOf_range y M
    have HS : Hid (ms (leap y) (M + 1) = ms (leap y) M + lengthOf y M) := by
      show _ = _
      rw [lengthOf_in M y1 y2]
      exact ms_succ (leap y) M hM1 (by omega)
    by_cases hlt : M < m
    · go_wp2_with fail
      with_reducible refine (plength_any y M _ hT).mono ?_
      rintro _ w3 ⟨rfl, rfl⟩
      go_wp2
      go_roundg (gk - 1)
      case measure => omega
      case rel => exact ⟨M + 1, by rw [HS.out]; go_num, by go_num, by omega, by omega, by omega, rfl⟩
    · have HMm : Hid (M = m) := by show _ = _; omega
      clear HS
      go_wp2
      go_ret2
      exact ⟨ret_i64b _ (by unfold dayNum; rw [HMm.out]; omega), rfl⟩

set_option maxRecDepth 100000 in
theorem pdays_no (y m d : Int) (w : World) (h : ¬ IsDay y m d) (hT : CTabs w) :
    Calls Tryd.prog 49 #[.int .i64 y, .int .i64 m, .int .i64 d] w fun e w' => e = .returned (.tuple #[.int .i64 0, .bool false]) ∧ w' = w := by
  by_cases hd : d < 1
  · clear h
    go_enter Tryd.func49, Tryd.ntmps49
    go_wp2
    go_ret2
    exact ⟨rfl, rfl⟩
  · have hl : lengthOf y m < d := by
      rcases Int.lt_or_le (lengthOf y m) d with h' | h'
      · exact h'
      · exact absurd ⟨by omega, h'⟩ h
    clear h
    go_enter Tryd.func49, Tryd.ntmps49
    go_wp2_with fail
    with_reducible refine (plength_any y m _ hT).mono ?_
    rintro _ w1 ⟨rfl, rfl⟩
    go_wp2
    go_ret2
    exact ⟨rfl, rfl⟩

theorem days_yes (y m d : Int) (w : World) (h : IsDay y m d) (hT : CTabs w) : Calls Tryd.prog 49 #[.int .i64 y, .int .i64 m, .int .i64 d] w fun e w' => e = .returned (.tuple #[.int .i64 (dayNum y m d), .bool true]) ∧ Below w.heap.size w w' :=
  (pdays_yes y m d w h hT).mono fun e w' ⟨a, b⟩ => ⟨a, b ▸ Below.refl _ _⟩

theorem days_no (y m d : Int) (w : World) (h : ¬ IsDay y m d) (h1 : -9223372036854775808 ≤ y ∧ y ≤ 9223372036854775807) (h2 : -9223372036854775808 ≤ m ∧ m ≤ 9223372036854775807) (h3 : -9223372036854775808 ≤ d ∧ d ≤ 9223372036854775807) (hT : CTabs w) : Calls Tryd.prog 49 #[.int .i64 y, .int .i64 m, .int .i64 d] w fun e w' => e = .returned (.tuple #[.int .i64 0, .bool false]) ∧ Below w.heap.size w w' :=
  (pdays_no y m d w h hT).mono fun e w' ⟨a, b⟩ => ⟨a, b ▸ Below.refl _ _⟩
end Go.Proofs.YtmmkokomffclmaaDoor
