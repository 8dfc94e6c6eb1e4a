/-
  The document's own answers (package cracknelref09): Leap, Length, long, Weekday: contracts.
-/
import Derived.Test.YtmmkokomffclmaaDoorCivMath
import Derived.Test.YtmmkokomffclmaaDoorBase
import Derived.Test.YtmmkokomffclmaaDoorBaseDraw
namespace Go.Proofs.YtmmkokomffclmaaDoor
open Go.RowKit
set_option linter.unusedVariables false

theorem tmod0 (y : Int) (k : Int) : (y.tmod k = 0) ↔ (y % k = 0) := by
  rw [← Int.dvd_iff_tmod_eq_zero, Int.dvd_iff_emod_eq_zero]

/-- Leap, by Go's own rest. -/
theorem leap_tmod (y : Int) : leap y = (decide (y.tmod 400 = 0) || (decide (y.tmod 4 = 0) && decide (y.tmod 100 ≠ 0))) := by
  simp only [leap, tmod0, ne_eq]

set_option maxRecDepth 100000 in
theorem rleap_any (y : Int) (w : World) :
    Calls Tryd.prog 72 #[.int .i64 y] w fun e w' => e = .returned (.bool (leap y)) ∧ w' = w := by
  have HL := Lib.hid (leap_tmod y)
  by_cases h1 : y.tmod 400 = 0 <;> by_cases h2 : y.tmod 4 = 0 <;> by_cases h3 : y.tmod 100 = 0 <;>
  · go_enter Tryd.func72, Tryd.ntmps72
    go_wp2
    all_goals
      go_ret
      exact ⟨ret_bool (by rw [HL.out]; simp [h1, h2, h3]), rfl⟩

set_option maxRecDepth 100000 in
theorem rlong_any (y : Int) (w : World) :
    Calls Tryd.prog 66 #[.int .i64 y] w fun e w' => e = .returned (.int .i64 (long y)) ∧ w' = w := by
  have HL : Hid (long y = if leap y = true then 366 else 365) := rfl
  go_enter Tryd.func66, Tryd.ntmps66
  go_wp2_with fail
  refine (rleap_any y _).mono ?_
  rintro _ w1 ⟨rfl, rfl⟩
  cases h : leap y <;>
  · rw [h] at HL
    go_wp2
    go_ret
    exact ⟨ret_i64 (by rw [HL.out]; rfl), rfl⟩

theorem mlen_cases (l : Bool) (m : Int) : (m < 1 ∨ 12 < m) ∨ m = 1 ∨ m = 2 ∨ m = 3 ∨ m = 4 ∨ m = 5 ∨ m = 6 ∨ m = 7 ∨ m = 8 ∨ m = 9 ∨ m = 10 ∨ m = 11 ∨ m = 12 := by omega

set_option maxRecDepth 100000 in
theorem rlength_in (y m : Int) (w : World) (h1 : 1 ≤ y) (h2 : y ≤ 9999) :
    Calls Tryd.prog 65 #[.int .i64 y, .int .i64 m] w fun e w' => e = .returned (.int .i64 (lengthOf y m)) ∧ w' = w := by
  rw [lengthOf_in m h1 h2]
  rcases mlen_cases (leap y) m with h | rfl | rfl | rfl | rfl | rfl | rfl | rfl | rfl | rfl | rfl | rfl | rfl
  · have HN := Lib.hid (mlen_none (leap y) m h)
    have n1 : m ≠ 1 := by omega
    have n2 : m ≠ 2 := by omega
    have n3 : m ≠ 3 := by omega
    have n4 : m ≠ 4 := by omega
    have n5 : m ≠ 5 := by omega
    have n6 : m ≠ 6 := by omega
    have n7 : m ≠ 7 := by omega
    have n8 : m ≠ 8 := by omega
    have n9 : m ≠ 9 := by omega
    have n10 : m ≠ 10 := by omega
    have n11 : m ≠ 11 := by omega
    have n12 : m ≠ 12 := by omega
    clear h
    go_enter Tryd.func65, Tryd.ntmps65
    go_wp2
    go_ret
    exact ⟨ret_i64 HN.out.symm, rfl⟩
  case _ => 
    go_enter Tryd.func65, Tryd.ntmps65
    go_wp2
    go_ret
    exact ⟨ret_i64 rfl, rfl⟩
  case _ => 
    go_enter Tryd.func65, Tryd.ntmps65
    go_wp2_with fail
    refine (rleap_any y _).mono ?_
    rintro _ w1 ⟨rfl, rfl⟩
    cases h : leap y <;>
    · go_wp2
      go_ret
      exact ⟨ret_i64 (by rw [h]; rfl), rfl⟩
  all_goals
    go_enter Tryd.func65, Tryd.ntmps65
    go_wp2
    go_ret
    exact ⟨ret_i64 rfl, rfl⟩

set_option maxRecDepth 100000 in
theorem rlength_any (y m : Int) (w : World) :
    Calls Tryd.prog 65 #[.int .i64 y, .int .i64 m] w fun e w' => e = .returned (.int .i64 (lengthOf y m)) ∧ w' = w := by
  by_cases h : 1 ≤ y ∧ y ≤ 9999
  · exact rlength_in y m w h.1 h.2
  · have HN : Hid (lengthOf y m = 0) := by
      show _ = _
      unfold lengthOf
      rw [if_pos (by omega)]
    by_cases h1 : y < 1
    · clear h
      go_enter Tryd.func65, Tryd.ntmps65
      go_wp2
      go_ret
      exact ⟨ret_i64 HN.out.symm, rfl⟩
    · have h2 : 9999 < y := by omega
      clear h
      go_enter Tryd.func65, Tryd.ntmps65
      go_wp2
      go_ret
      exact ⟨ret_i64 HN.out.symm, rfl⟩

theorem tmod7 (n : Int) : -7 ≤ n.tmod 7 ∧ n.tmod 7 < 7 ∧ (n.tmod 7 < 0 → wday n = (n.tmod 7 + 7 + 4) % 7) ∧ (¬ n.tmod 7 < 0 → wday n = (n.tmod 7 + 4) % 7) := by
  unfold wday
  have h : n.tmod 7 = n % 7 ∨ (n.tmod 7 < 0 ∧ n.tmod 7 + 7 = n % 7) := by
    rw [Int.tmod_eq_emod]
    split <;> omega
  generalize n.tmod 7 = t at *
  refine ⟨?_, ?_, fun _ => ?_, fun _ => ?_⟩ <;> rcases h with h | h <;> omega

set_option maxRecDepth 100000 in
theorem rweekday_any (n : Int) (w : World) :
    Calls Tryd.prog 36 #[.int .i64 n] w fun e w' => e = .returned (.int .i64 (wday n)) ∧ w' = w := by
  obtain ⟨r1, r2, r3, r4⟩ := tmod7 n
  by_cases h : n.tmod 7 < 0
  · have HW := Lib.hid (r3 h)
    clear r3 r4
    go_enter Tryd.func36, Tryd.ntmps36
    go_wp2
    go_ret
    exact ⟨ret_i64 HW.out.symm, rfl⟩
  · have HW := Lib.hid (r4 h)
    clear r3 r4
    go_enter Tryd.func36, Tryd.ntmps36
    go_wp2
    go_ret
    exact ⟨ret_i64 HW.out.symm, rfl⟩
end Go.Proofs.YtmmkokomffclmaaDoor
