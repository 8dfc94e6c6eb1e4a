/-
  Package civil: Date: contracts.
-/
import Derived.Test.YtmmkokomffclmaaDoorCivP2
import Derived.Test.YtmmkokomffclmaaDoorBaseDraw
import Derived.Deep.QuietTactic
namespace Go.Proofs.YtmmkokomffclmaaDoor
open Go.RowKit
set_option linter.unusedVariables false

/-- Every year begins no later than so many days of the longest years. -/
theorem ys_early (y k : Int) (r : Int) (h1 : y = 400 * k + r) (h2 : 0 ≤ r) (h3 : r ≤ 399) : ys (y + 1) + 719162 ≤ 146097 * k + 366 * r := by
  unfold ys
  subst h1
  omega

/-- The year that the counting begins with is there, and not behind the day's own. -/
theorem earlyY_le {n y : Int} (h1 : -719162 ≤ n) (hy : 1 ≤ y) (h : n < ys (y + 1)) : 1 ≤ earlyY n ∧ earlyY n ≤ y := by
  obtain ⟨k, hk⟩ : ∃ k, k = n + 719162 := ⟨_, rfl⟩
  unfold earlyY
  rw [← hk]
  have e : ys (y + 1) = 365 * y + y / 4 - y / 100 + y / 400 - 719162 := by
    unfold ys
    rw [show y + 1 - 1 = y by omega]
  rw [e] at h
  refine ⟨by omega, ?_⟩
  obtain ⟨a, ha⟩ : ∃ a, a = k / 146097 := ⟨_, rfl⟩
  obtain ⟨b, hb⟩ : ∃ b, b = k % 146097 := ⟨_, rfl⟩
  obtain ⟨c, hc⟩ : ∃ c, c = b / 366 := ⟨_, rfl⟩
  have hs : k = 146097 * a + b := by omega
  have hb0 : 0 ≤ b ∧ b ≤ 146096 := by omega
  have hc1 : 366 * c ≤ b := by omega
  rw [← ha, ← hb, ← hc]
  have hc0 : 0 ≤ c := by omega
  -- were y less, the day would lie behind it
  rcases Int.lt_or_le y (1 + a * 400 + c) with hlt | hle
  · exfalso
    obtain ⟨g, hg⟩ : ∃ g, g = y / 400 := ⟨_, rfl⟩
    obtain ⟨s, hs2⟩ : ∃ s, s = y % 400 := ⟨_, rfl⟩
    have hy2 : y = 400 * g + s := by omega
    have hs3 : 0 ≤ s ∧ s ≤ 399 := by omega
    have h4 : y / 4 = 100 * g + s / 4 := by omega
    have h5 : y / 100 = 4 * g + s / 100 := by omega
    rw [h4, h5, ← hg] at h
    have hk2 : k < 146097 * g + 365 * s + s / 4 - s / 100 := by omega
    clear h h4 h5 hg hs2 e hk
    rcases Int.lt_or_le g a with h6 | h6
    · omega
    · have : g = a := by omega
      subst this
      omega
  · exact hle

def PDate (n y m : Int) (w0 : World) (gk : Nat) (year month left long : Value) (wr : World) : Prop :=
  ∃ Y M : Int, year = .int .i64 Y ∧ month = .int .i64 M ∧ left = .int .i64 (n - ys Y - ms (leap Y) M) ∧ 1 ≤ Y ∧ Y ≤ y ∧ 1 ≤ M ∧ M ≤ 12 ∧ (Y = y → M ≤ m) ∧ 12 * Y + M + gk = 12 * 10000 + 12 ∧ wr = w0

theorem Tells.left {n y m d : Int} (h : Tells n y m d) (Y M : Int) (h1 : 1 ≤ Y) (h2 : Y ≤ y) (h3 : 1 ≤ M) (h4 : M ≤ 12) (h5 : Y = y → M ≤ m) :
    0 ≤ n - ys Y - ms (leap Y) M ∧ (n - ys Y - ms (leap Y) M < mlen (leap Y) M ↔ (Y = y ∧ M = m)) := by
  have hs := ms_succ (leap Y) M h3 h4
  by_cases e : Y = y
  · subst e
    have a := (h.month M h3 (by omega)).2 (h5 rfl)
    have b := h.month (M + 1) (by omega) (by omega)
    refine ⟨by omega, ?_⟩
    constructor
    · intro c
      refine ⟨rfl, ?_⟩
      have d := h5 rfl
      rcases Int.lt_or_le M m with f | f
      · have := b.2 (by omega); omega
      · omega
    · rintro ⟨_, rfl⟩
      rcases Int.lt_or_le (n - ys Y - ms (leap Y) M) (mlen (leap Y) M) with f | f
      · exact f
      · have := b.1 (by omega); omega
  · have a := (h.year (Y + 1)).2 (by omega)
    rw [ys_succ] at a
    have b := ms_mono (leap Y) (a := M) (b := 13) h3 (by omega) (by omega)
    have c := ms_mono (leap Y) (a := M + 1) (b := 13) (by omega) (by omega) (by omega)
    rw [ms_end] at b c
    refine ⟨by omega, ?_⟩
    constructor
    · intro f; omega
    · rintro ⟨f, _⟩; exact absurd f e

theorem at_newYear (y k : Int) (w : World) (h : ys y = k) (h1 : 1 ≤ y) (h2 : y ≤ 10000) :
    Calls Tryd.prog 64 #[.int .i64 y] w fun e w' => e = .returned (.int .i64 k) ∧ w' = w := h ▸ pnewYear_any y w h1 h2

set_option maxRecDepth 100000 in
set_option maxHeartbeats 1600000 in
theorem pdate_yes (n y m d : Int) (w : World) (h : Tells n y m d) (hT : CTabs w) :
    Calls Tryd.prog 67 #[.int .i64 n] w fun e w' => e = .returned (.tuple #[.int .i64 y, .int .i64 m, .int .i64 d, .bool true]) ∧ w' = w := by
  obtain ⟨n1, n2⟩ := h.within
  obtain ⟨y1, y2, m1, m2, d1, d2⟩ := h.1.range
  have hlt : n < ys (y + 1) := by have := h.1.bounds; rw [h.2] at this; omega
  obtain ⟨s1, s2⟩ := earlyY_le n1 y1 hlt
  have HH := Lib.hid h
  have HF := Lib.hid ys_first
  have HZ := Lib.hid ys_last
  clear h d2 hlt
  go_enter Tryd.func67, Tryd.ntmps67
  go_wp2_with fail
  go_step3
  go_wp2_with fail
  with_reducible refine (at_newYear 1 _ _ HF.out (by decide) (by decide)).mono ?_
  rintro _ w1 ⟨rfl, rfl⟩
  go_wp2_with fail
  with_reducible refine (at_newYear 10000 _ _ HZ.out (by decide) (by decide)).mono ?_
  rintro _ w1 ⟨rfl, rfl⟩
  go_wp2_with fail
  with_reducible refine (pearly_any n _ n1 n2).mono ?_
  rintro _ w1 ⟨rfl, rfl⟩
  obtain ⟨Y0, hY0⟩ : ∃ Y0, Y0 = earlyY n := ⟨_, rfl⟩
  rw [← hY0] at s1 s2 ⊢
  clear hY0
  have hs := ys_range Y0 s1 (by omega)
  go_wp2_with fail
  with_reducible refine (pnewYear_any Y0 _ s1 (by omega)).mono ?_
  rintro _ w1 ⟨rfl, rfl⟩
  go_wp2_with fail
  go_step3
  go_wp2_with fail
  go_loopg [6, 7, 8, 9] (12 * 10000 + 11 - 12 * Y0.toNat) (fun gk year month left long wr => PDate n y m w1 gk year month left long wr)
  case atStart => exact ⟨Y0, 1, rfl, rfl, by rw [ms_one]; go_num, by omega, by omega, by omega, by omega, by omega, by omega, rfl⟩
  case round =>
    clear hs s1 s2
    obtain ⟨Y, M, rfl, rfl, rfl, hY1, hY2, hM1, hM2, hYM, hg, rfl⟩ := hrel
    obtain ⟨hl0, hl1⟩ := HH.out.left Y M hY1 hY2 hM1 hM2 hYM
    have hYs := ys_range Y (by omega) (by omega)
    have hMs := ms_range (leap Y) M hM1 (by omega)
    have hMl := mlen_range (leap Y) M
    have HS := Lib.hid (ms_succ (leap Y) M hM1 hM2)
    have HL := Lib.hid (lengthOf_in M hY1 (show Y ≤ 9999 by omega))
    go_wp2_with fail
    with_reducible refine (plength_any Y M _ hT).mono ?_
    rintro _ w2 ⟨rfl, rfl⟩
    rw [HL.out]
    by_cases hlt : n - ys Y - ms (leap Y) M < mlen (leap Y) M
    · obtain ⟨rfl, rfl⟩ := hl1.1 hlt
      clear HS hl1
      have HD : Hid (n - ys Y - ms (leap Y) M + 1 = d) := by
        show _ = _
        have := HH.out.2
        unfold dayNum at this
        omega
      go_wp2
      (try rw [Exit.noGoto_ret])
      (try simp only [Exit.inBlock, Exit.then])
      refine bodyPost_ret (results_tmp4 rfl _ _ _) rfl ?_
      exact ⟨ret_date _ ⟨rfl, rfl, HD.out⟩, rfl⟩
    · have hne : ¬ (Y = y ∧ M = m) := fun e => hlt (hl1.2 e)
      clear hl1
      by_cases hM : M < 12
      · go_wp2
        go_roundg (gk - 1)
        case measure => omega
        case rel => exact ⟨Y, M + 1, rfl, by go_num, by rw [HS.out]; go_num, by omega, by omega, by omega, by omega, fun e => by have := hYM e; omega, by omega, rfl⟩
      · have eM : Hid (M = 12) := by show _ = _; omega
        have hY3 : Y < y := by
          rcases Int.lt_or_le Y y with f | f
          · exact f
          · have e : Y = y := by omega
            exact absurd ⟨e, by have := hYM e; omega⟩ hne
        have HE : Hid (ys (Y + 1) + ms (leap (Y + 1)) 1 = ys Y + ms (leap Y) M + mlen (leap Y) M) := by
          show _ = _
          rw [ys_succ, ms_one]
          have a := HS.out
          rw [eM.out] at a ⊢
          have b := ms_end Y
          rw [show (12 : Int) + 1 = 13 by omega] at a
          omega
        go_wp2
        go_roundg (gk - 1)
        case measure => have := eM.out; omega
        case rel => exact ⟨Y + 1, 1, by go_num, rfl, by have := HE.out; go_num, by omega, by omega, by omega, by omega, fun e => by omega, by have := eM.out; omega, rfl⟩

set_option maxRecDepth 100000 in
theorem pdate_no (n : Int) (w : World) (h : n < -719162 ∨ (¬ n < -719162 ∧ 2932896 < n)) :
    Calls Tryd.prog 67 #[.int .i64 n] w fun e w' => e = .returned (.tuple #[.int .i64 0, .int .i64 0, .int .i64 0, .bool false]) ∧ w' = w := by
  have HF := Lib.hid ys_first
  have HZ := Lib.hid ys_last
  rcases h with h | ⟨h, h2⟩
  case inl =>
    go_enter Tryd.func67, Tryd.ntmps67
    go_wp2_with fail
    go_step3
    go_wp2_with fail
    with_reducible refine (at_newYear 1 _ _ HF.out (by decide) (by decide)).mono ?_
    rintro _ w1 ⟨rfl, rfl⟩
    go_wp2
    (try rw [Exit.noGoto_ret])
    (try simp only [Exit.inBlock, Exit.then])
    refine bodyPost_ret (results_tmp4 rfl _ _ _) rfl ?_
    exact ⟨rfl, rfl⟩
  case inr =>
    go_enter Tryd.func67, Tryd.ntmps67
    go_wp2_with fail
    go_step3
    go_wp2_with fail
    with_reducible refine (at_newYear 1 _ _ HF.out (by decide) (by decide)).mono ?_
    rintro _ w1 ⟨rfl, rfl⟩
    go_wp2_with fail
    with_reducible refine (at_newYear 10000 _ _ HZ.out (by decide) (by decide)).mono ?_
    rintro _ w1 ⟨rfl, rfl⟩
    go_wp2
    (try rw [Exit.noGoto_ret])
    (try simp only [Exit.inBlock, Exit.then])
    refine bodyPost_ret (results_tmp4 rfl _ _ _) rfl ?_
    exact ⟨rfl, rfl⟩

theorem date_yes (n y m d : Int) (w : World) (h : Tells n y m d) (hT : CTabs w) : Calls Tryd.prog 67 #[.int .i64 n] w fun e w' => e = .returned (.tuple #[.int .i64 y, .int .i64 m, .int .i64 d, .bool true]) ∧ Below w.heap.size w w' :=
  (pdate_yes n y m d w h hT).mono fun e w' ⟨a, b⟩ => ⟨a, b ▸ Below.refl _ _⟩

theorem date_no (n : Int) (w : World) (h : n < -719162 ∨ 2932896 < n) (h1 : -9223372036854775808 ≤ n) (h2 : n ≤ 9223372036854775807) (hT : CTabs w) : Calls Tryd.prog 67 #[.int .i64 n] w fun e w' => e = .returned (.tuple #[.int .i64 0, .int .i64 0, .int .i64 0, .bool false]) ∧ Below w.heap.size w w' :=
  (pdate_no n w (by omega)).mono fun e w' ⟨a, b⟩ => ⟨a, b ▸ Below.refl _ _⟩
end Go.Proofs.YtmmkokomffclmaaDoor
