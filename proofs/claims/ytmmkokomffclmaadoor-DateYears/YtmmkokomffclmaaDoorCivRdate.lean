/-
  The document's own answers (package cracknelref09): Date: a contract.
-/
import Derived.Test.YtmmkokomffclmaaDoorCivRdays
namespace Go.Proofs.YtmmkokomffclmaaDoor
open Go.RowKit
set_option linter.unusedVariables false

theorem results_tmp4 {fn : Func} {t u v x : Tmp} (h : fn.results = #[.tmp t, .tmp u, .tmp v, .tmp x]) (tmps : Array Value) (P : Program) (w : World) :
    (results fn tmps).run P w = .ok (.tuple #[tmps.getD t undef, tmps.getD u undef, tmps.getD v undef, tmps.getD x undef]) w := by
  simp [results, h]

theorem ret_date {a b c a' b' c' : Int} (x : Bool) (h : a = a' ∧ b = b' ∧ c = c') : Ending.returned (.tuple #[.int .i64 a, .int .i64 b, .int .i64 c, .bool x]) = .returned (.tuple #[.int .i64 a', .int .i64 b', .int .i64 c', .bool x]) := by
  obtain ⟨rfl, rfl, rfl⟩ := h; rfl

theorem Tells.year {n y m d : Int} (h : Tells n y m d) (Y : Int) : ys Y ≤ n ↔ Y ≤ y := by
  obtain ⟨b1, b2, b3, b4⟩ := h.1.bounds
  rw [h.2] at b1 b2
  constructor
  · intro h1
    rcases Int.lt_or_le y Y with h2 | h2
    · have := ys_mono (show y + 1 ≤ Y by omega); omega
    · exact h2
  · intro h1
    have := ys_mono h1; omega

theorem Tells.month {n y m d : Int} (h : Tells n y m d) (M : Int) (h1 : 1 ≤ M) (h2 : M ≤ 13) : ys y + ms (leap y) M ≤ n ↔ M ≤ m := by
  obtain ⟨b1, b2, b3, b4⟩ := h.1.bounds
  obtain ⟨y1, y2, m1, m2, d1, d2⟩ := h.1.range
  rw [h.2] at b3 b4
  constructor
  · intro h3
    rcases Int.lt_or_le m M with h4 | h4
    · have := ms_mono (leap y) (show 1 ≤ m + 1 by omega) (show m + 1 ≤ M by omega) h2; omega
    · exact h4
  · intro h3
    have := ms_mono (leap y) h1 h3 (by omega); omega

def RBack (n y : Int) (w0 : World) (gk : Nat) (left at' : Value) (wr : World) : Prop :=
  ∃ Y : Int, left = .int .i64 (n - ys Y) ∧ at' = .int .i64 Y ∧ 1 ≤ Y ∧ Y ≤ 1970 ∧ (y ≤ Y ∨ Y = 1970) ∧ Y + 1 = gk ∧ wr = w0

def RForth (n y : Int) (w0 : World) (gk : Nat) (left at' : Value) (wr : World) : Prop :=
  ∃ Y : Int, left = .int .i64 (n - ys Y) ∧ at' = .int .i64 Y ∧ 1 ≤ Y ∧ Y ≤ y ∧ Y + gk = 10000 ∧ wr = w0

def RMonth (n y m : Int) (w0 : World) (gk : Nat) (left at' : Value) (wr : World) : Prop :=
  ∃ M : Int, left = .int .i64 (n - ys y - ms (leap y) M) ∧ at' = .int .i64 M ∧ 1 ≤ M ∧ M ≤ m ∧ M + gk = 13 ∧ wr = w0

set_option maxRecDepth 100000 in
set_option maxHeartbeats 1600000 in
theorem rdate_yes (n y m d : Int) (w : World) (h : Tells n y m d) :
    Calls Tryd.prog 57 #[.int .i64 n] w fun e w' => e = .returned (.tuple #[.int .i64 y, .int .i64 m, .int .i64 d, .bool true]) ∧ w' = w := by
  obtain ⟨n1, n2⟩ := h.within
  obtain ⟨y1, y2, m1, m2, d1, d2⟩ := h.1.range
  have HY : Hid (∀ Y, ys Y ≤ n ↔ Y ≤ y) := h.year
  have HM : Hid (∀ M, 1 ≤ M → M ≤ 13 → (ys y + ms (leap y) M ≤ n ↔ M ≤ m)) := h.month
  have HD : Hid (ys y + ms (leap y) m + d - 1 = n) := h.2
  clear h d2
  go_enter Tryd.func57, Tryd.ntmps57
  go_wp2_with fail
  go_loopg [0, 6] 1971 (fun gk left at' wr => RBack n y w gk left at' wr)
  case atStart => exact ⟨1970, by rw [ys_1970]; go_num, rfl, by omega, by omega, .inr rfl, rfl, rfl⟩
  case round =>
    obtain ⟨Y, rfl, rfl, hY1, hY2, hY3, hg, rfl⟩ := hrel
    have hYs := ys_range Y (by omega) (by omega)
    by_cases hlt : n - ys Y < 0
    · have hyY : y < Y := by
        rcases Int.lt_or_le y Y with h | h
        · exact h
        · have := (HY.out Y).2 h; omega
      have hYl := long_pos (Y - 1)
      have hS := ys_succ (Y - 1)
      rw [show Y - 1 + 1 = Y by omega] at hS
      have hYs2 := ys_range (Y - 1) (by omega) (by omega)
      have HS := Lib.hid hS
      clear hS
      go_wp2_with fail
      with_reducible refine (rlong_any (Y - 1) _).mono ?_
      rintro _ w2 ⟨rfl, rfl⟩
      go_wp2
      go_roundg (gk - 1)
      case measure => omega
      case rel => exact ⟨Y - 1, by have := HS.out; go_num, by go_num, by omega, by omega, .inl (by omega), by omega, rfl⟩
    · have hYy := (HY.out Y).1 (by omega)
      clear hY3
      go_wp2_with fail
      go_loopg [0, 6] (10000 - Y.toNat) (fun gk left at' wr' => RForth n y wr gk left at' wr')
      case atStart => exact ⟨Y, rfl, rfl, by omega, by omega, by omega, rfl⟩
      case round =>
        clear hYs hY1 hY2 hg hYy hlt
        obtain ⟨Z, rfl, rfl, hZ1, hZ2, hg, rfl⟩ := hrel
        have hZs := ys_range Z (by omega) (by omega)
        have hZl := long_pos Z
        have HS := Lib.hid (ys_succ Z)
        by_cases hlt : long Z ≤ n - ys Z
        · have hZy := (HY.out (Z + 1)).1 (by rw [HS.out]; omega)
          go_wp2_with fail
          refine (rlong_any Z _).mono ?_
          rintro _ w2 ⟨rfl, rfl⟩
          go_wp2_with fail
          refine (rlong_any Z _).mono ?_
          rintro _ w2 ⟨rfl, rfl⟩
          go_wp2
          go_roundg (gk - 1)
          case measure => omega
          case rel => exact ⟨Z + 1, by rw [HS.out]; go_num, by go_num, by omega, by omega, by omega, rfl⟩
        · have HZ : Hid (Z = y) := by
            show _ = _
            rcases Int.lt_or_le Z y with h | h
            · have := (HY.out (Z + 1)).2 (by omega)
              rw [HS.out] at this
              omega
            · omega
          go_wp2_with fail
          refine (rlong_any Z _).mono ?_
          rintro _ w2 ⟨rfl, rfl⟩
          go_wp2_with fail
          obtain rfl := HZ.out
          clear HZ HS
          go_loopg [0, 7] 12 (fun gk left at' wr' => RMonth n Z m w2 gk left at' wr')
          case atStart => exact ⟨1, by rw [ms_one]; go_num, rfl, by omega, by omega, by omega, rfl⟩
          case round =>
            clear hg hlt
            obtain ⟨M, rfl, rfl, hM1, hM2, hg, rfl⟩ := hrel
            have hMs := ms_range (leap Z) M hM1 (by omega)
            have hMl := lengthOf_range Z M
            have HS : Hid (ms (leap Z) (M + 1) = ms (leap Z) M + lengthOf Z M) := by
              show _ = _
              rw [lengthOf_in M y1 y2]
              exact ms_succ (leap Z) M hM1 (by omega)
            by_cases hlt : lengthOf Z M ≤ n - ys Z - ms (leap Z) M
            · have hMm := (HM.out (M + 1) (by omega) (by omega)).1 (by rw [HS.out]; omega)
              go_wp2_with fail
              refine (rlength_any Z M _).mono ?_
              rintro _ w2 ⟨rfl, rfl⟩
              go_wp2_with fail
              refine (rlength_any Z M _).mono ?_
              rintro _ w2 ⟨rfl, rfl⟩
              go_wp2
              go_roundg (gk - 1)
              case measure => omega
              case rel => exact ⟨M + 1, by rw [HS.out]; go_num, by go_num, by omega, by omega, by omega, rfl⟩
            · have HMm : Hid (M = m) := by
                show _ = _
                rcases Int.lt_or_le M m with h | h
                · have := (HM.out (M + 1) (by omega) (by omega)).2 (by omega)
                  rw [HS.out] at this
                  omega
                · omega
              clear HS
              go_wp2_with fail
              refine (rlength_any Z M _).mono ?_
              rintro _ w2 ⟨rfl, rfl⟩
              go_wp2
              (try simp only [Exit.inBlock, Exit.then])
              refine bodyPost_ret (results_tmp4 rfl _ _ _) rfl ?_
              exact ⟨ret_date _ ⟨rfl, HMm.out, by have := HD.out; rw [← HMm.out] at this; omega⟩, rfl⟩

set_option maxRecDepth 100000 in
theorem rdate_no (n : Int) (w : World) (h : n < -719162 ∨ 2932896 < n) :
    Calls Tryd.prog 57 #[.int .i64 n] w fun e w' => e = .returned (.tuple #[.int .i64 0, .int .i64 0, .int .i64 0, .bool false]) ∧ w' = w := by
  rcases h with h | h
  all_goals
    go_enter Tryd.func57, Tryd.ntmps57
    go_wp2
    (try simp only [Exit.inBlock, Exit.then])
    refine bodyPost_ret (results_tmp4 rfl _ _ _) rfl ?_
    exact ⟨rfl, rfl⟩
end Go.Proofs.YtmmkokomffclmaaDoor
