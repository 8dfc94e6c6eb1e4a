/-
  The document's own answers (package cracknelref09): Days: a contract.
-/
import Derived.Test.YtmmkokomffclmaaDoorCivRef
namespace Go.Proofs.YtmmkokomffclmaaDoor
open Go.RowKit
set_option linter.unusedVariables false

theorem lengthOf_range (y m : Int) : 0 ≤ lengthOf y m ∧ lengthOf y m ≤ 31 := by
  unfold lengthOf
  have := mlen_range (leap y) m
  split <;> omega

/-- The years' part of a day's number stays within bounds. -/
theorem ys_range (y : Int) (h1 : 1 ≤ y) (h2 : y ≤ 10000) : -719162 ≤ ys y ∧ ys y ≤ 2932897 := by
  have a := ys_mono h1
  have b := ys_mono h2
  rw [ys_first] at a
  rw [ys_last] at b
  omega

theorem ms_range (l : Bool) (m : Int) (h1 : 1 ≤ m) (h2 : m ≤ 13) : 0 ≤ ms l m ∧ ms l m ≤ 366 := by
  have a := ms_mono l (a := 1) (b := m) (by omega) h1 h2
  have b := ms_mono l (a := m) (b := 13) h1 h2 (by omega)
  rw [ms_one] at a
  have c : ms l 13 ≤ 366 := by cases l <;> decide
  omega

/-- The year where the counting ends. -/
def mxY (y : Int) : Int := if y < 1970 then 1970 else y

def RUp (d x : Int) (w0 : World) (gk : Nat) (n at' : Value) (wr : World) : Prop :=
  ∃ Y : Int, n = .int .i64 (d - 1 + ys Y) ∧ at' = .int .i64 Y ∧ 1970 ≤ Y ∧ Y ≤ x ∧ Y + gk = 10001 ∧ wr = w0

def RDown (y d x : Int) (w0 : World) (gk : Nat) (n at' : Value) (wr : World) : Prop :=
  ∃ Y : Int, n = .int .i64 (d - 1 + ys x + ys y - ys Y) ∧ at' = .int .i64 Y ∧ y ≤ Y ∧ Y ≤ x ∧ Y + gk = 10001 ∧ wr = w0

def RMonths (y m d : Int) (w0 : World) (gk : Nat) (n at' : Value) (wr : World) : Prop :=
  ∃ M : Int, n = .int .i64 (d - 1 + ys y + ms (leap y) M) ∧ at' = .int .i64 M ∧ 1 ≤ M ∧ M ≤ m ∧ M + gk = 14 ∧ wr = w0

set_option maxRecDepth 100000 in
set_option maxHeartbeats 1600000 in
theorem rdays_yes (y m d : Int) (w : World) (h : IsDay y m d) :
    Calls Tryd.prog 54 #[.int .i64 y, .int .i64 m, .int .i64 d] w fun e w' => e = .returned (.tuple #[.int .i64 (dayNum y m d), .bool true]) ∧ w' = w := by
  obtain ⟨y1, y2, m1, m2, d1, d2⟩ := h.range
  have hd31 := (mlen_range (leap y) m).2
  have hl : ¬ lengthOf y m < d := by have := h.2; omega
  obtain ⟨x, hx1, hx2, hx3⟩ : ∃ x : Int, (x = y ∧ 1970 ≤ y ∨ x = 1970 ∧ y < 1970) ∧ 1970 ≤ x ∧ y ≤ x :=
    ⟨if y < 1970 then 1970 else y, by split <;> omega, by split <;> omega, by split <;> omega⟩
  have hys := ys_range y y1 (by omega)
  have HX := Lib.hid hx1
  clear hx1 h
  have hx4 : x ≤ 9999 := by have := HX.out; omega
  have hxs := ys_range x (by omega) (by omega)
  go_enter Tryd.func54, Tryd.ntmps54
  go_wp2_with fail
  refine (rlength_any y m _).mono ?_
  rintro _ w1 ⟨rfl, rfl⟩
  go_wp2_with fail
  go_loopg [8, 9] 8031 (fun gk n at' wr => RUp d x w1 gk n at' wr)
  case atStart => exact ⟨1970, by rw [ys_1970]; go_num, rfl, by omega, hx2, by omega, rfl⟩
  case round =>
    obtain ⟨Y, rfl, rfl, hY1, hY2, hg, rfl⟩ := hrel
    have hYs := ys_range Y (by omega) (by omega)
    have hYl := long_pos Y
    have HS := Lib.hid (ys_succ Y)
    by_cases hlt : Y < y
    · go_wp2_with fail
      refine (rlong_any Y _).mono ?_
      rintro _ w2 ⟨rfl, rfl⟩
      go_wp2
      go_roundg (gk - 1)
      case measure => have := HX.out; omega
      case rel => exact ⟨Y + 1, by rw [HS.out]; go_num, by go_num, by omega, by have := HX.out; omega, by have := HX.out; omega, rfl⟩
    · have HYx : Hid (Y = x) := by show _ = _; have := HX.out; omega
      clear HS
      go_wp2_with fail
      go_loopg [8, 10] (10001 - y.toNat) (fun gk n at' wr' => RDown y d x wr gk n at' wr')
      case atStart => exact ⟨y, by rw [HYx.out]; go_num, rfl, by omega, hx3, by omega, rfl⟩
      case round =>
        clear hYs hYl hY1 hY2 hg HYx hlt
        obtain ⟨Z, rfl, rfl, hZ1, hZ2, hg, rfl⟩ := hrel
        have hZs := ys_range Z (by omega) (by omega)
        have hZl := long_pos Z
        have HS := Lib.hid (ys_succ Z)
        by_cases hlt : Z < 1970
        · go_wp2_with fail
          refine (rlong_any Z _).mono ?_
          rintro _ w2 ⟨rfl, rfl⟩
          go_wp2
          go_roundg (gk - 1)
          case measure => have := HX.out; omega
          case rel => exact ⟨Z + 1, by rw [HS.out]; go_num, by go_num, by omega, by have := HX.out; omega, by have := HX.out; omega, rfl⟩
        · have HZx : Hid (Z = x) := by show _ = _; have := HX.out; omega
          clear HS
          go_wp2_with fail
          go_loopg [8, 11] 13 (fun gk n at' wr' => RMonths y m d wr gk n at' wr')
          case atStart => exact ⟨1, by rw [HZx.out, ms_one]; go_num, rfl, by omega, by omega, by omega, rfl⟩
          case round =>
            clear hZs hZl hZ1 hZ2 hg HZx hlt
            obtain ⟨M, rfl, rfl, hM1, hM2, hg, rfl⟩ := hrel
            have hMs := ms_range (leap y) M hM1 (by omega)
            have hMl := lengthOf_range y M
            have HS : Hid (ms (leap y) (M + 1) = ms (leap y) M + lengthOf y M) := by
              show _ = _
              rw [lengthOf_in M y1 y2]
              exact ms_succ (leap y) M hM1 (by omega)
            by_cases hlt : M < m
            · go_wp2_with fail
              refine (rlength_any y M _).mono ?_
              rintro _ w2 ⟨rfl, rfl⟩
              go_wp2
              go_roundg (gk - 1)
              case measure => omega
              case rel => exact ⟨M + 1, by rw [HS.out]; go_num, by go_num, by omega, by omega, by omega, rfl⟩
            · have HMm : Hid (M = m) := by show _ = _; omega
              clear HS
              go_wp2
              go_ret2
              exact ⟨ret_i64b _ (by unfold dayNum; rw [HMm.out]; omega), rfl⟩

set_option maxRecDepth 100000 in
theorem rdays_no (y m d : Int) (w : World) (h : ¬ IsDay y m d) :
    Calls Tryd.prog 54 #[.int .i64 y, .int .i64 m, .int .i64 d] w fun e w' => e = .returned (.tuple #[.int .i64 0, .bool false]) ∧ w' = w := by
  by_cases hd : d < 1
  · clear h
    go_enter Tryd.func54, Tryd.ntmps54
    go_wp2
    go_ret2
    exact ⟨rfl, rfl⟩
  · have hl : lengthOf y m < d := by
      rcases Int.lt_or_le (lengthOf y m) d with h' | h'
      · exact h'
      · exact absurd ⟨by omega, h'⟩ h
    clear h
    go_enter Tryd.func54, Tryd.ntmps54
    go_wp2_with fail
    refine (rlength_any y m _).mono ?_
    rintro _ w1 ⟨rfl, rfl⟩
    go_wp2
    go_ret2
    exact ⟨rfl, rfl⟩

/-- What Days answers. -/
def daysV (y m d : Int) : Value := if IsDay y m d then .tuple #[.int .i64 (dayNum y m d), .bool true] else .tuple #[.int .i64 0, .bool false]
end Go.Proofs.YtmmkokomffclmaaDoor
