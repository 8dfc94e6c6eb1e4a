/-
  TakeText of package wire and of the document: contracts.
-/
import Derived.Test.YtdgnjhnbldbnhaaWireTake
import Derived.Test.YtdgnjhnbldbnhaaWirePut
namespace Go.Proofs.Ytdgnjhnbldbnhaa
open Go.RowKit
set_option linter.unusedVariables false

/-- The text with which s begins, how many bytes it has with its length, and the error. -/
def tt (s : ByteArray) (most : Int) : ByteArray × Nat × Nat :=
  if (takeB s).2.2 ≠ 0 then (.empty, 0, (takeB s).2.2) else if most.toNat < (takeB s).1 then (.empty, 0, 31) else if s.size < (takeB s).2.1 + (takeB s).1 then (.empty, 0, 30)
  else (s.extract (takeB s).2.1 ((takeB s).2.1 + (takeB s).1), (takeB s).2.1 + (takeB s).1, 0)

theorem take_ok (s : ByteArray) (n m : Nat) (h : takeB s = (n, m, 0)) : n < 18446744073709551616 ∧ 1 ≤ m ∧ m ≤ 10 ∧ m ≤ s.size ∧ s.data.toList.take m = putL n := by
  obtain ⟨q, e1, e2, e3, e4, e5, e6, e7⟩ := scan_taken s.data.toList 0 0 n m (by omega) h
  have e : n = q := by rw [e1]; simp
  subst e
  rw [list_len] at e4
  refine ⟨?_, by omega, e3, by omega, e5⟩
  have e : (128 : Nat) ^ (9 - 0) = 9223372036854775808 := by decide
  rw [e] at e6
  omega

theorem take_no (s : ByteArray) (n m e : Nat) (h : takeB s = (n, m, e)) (he : e ≠ 0) : n = 0 ∧ m = 0 ∧ (e = 30 ∨ e = 31 ∨ e = 32) := by
  rcases scan_err s.data.toList 0 0 n m e (by omega) h with h | h
  · exact absurd h he
  · exact h

theorem ret_tt (s : ByteArray) (most : Int) (t : ByteArray) (m e : Nat) (h : tt s most = (t, m, e)) : Ending.returned (.tuple #[.string t, .int .i64 (m : Int), .int .i64 (e : Int)]) = .returned (.tuple #[.string (tt s most).1, .int .i64 ((tt s most).2.1 : Int), .int .i64 ((tt s most).2.2 : Int)]) := by
  rw [h]

theorem tt_err (s : ByteArray) (most : Int) (n m e : Nat) (h : takeB s = (n, m, e)) (he : e ≠ 0) : tt s most = (.empty, 0, e) := by
  unfold tt
  rw [h]
  exact if_pos he

theorem tt_long (s : ByteArray) (most : Int) (n m : Nat) (h : takeB s = (n, m, 0)) (hl : most.toNat < n) : tt s most = (.empty, 0, 31) := by
  unfold tt
  rw [h, if_neg (by simp)]
  exact if_pos hl

theorem tt_short (s : ByteArray) (most : Int) (n m : Nat) (h : takeB s = (n, m, 0)) (hl : n ≤ most.toNat) (hs : s.size < m + n) : tt s most = (.empty, 0, 30) := by
  unfold tt
  rw [h, if_neg (by simp), if_neg (Nat.not_lt.2 hl)]
  exact if_pos hs

theorem tt_ok (s : ByteArray) (most : Int) (n m : Nat) (h : takeB s = (n, m, 0)) (hl : n ≤ most.toNat) (hs : m + n ≤ s.size) : tt s most = (s.extract m (m + n), m + n, 0) := by
  unfold tt
  rw [h, if_neg (by simp), if_neg (Nat.not_lt.2 hl)]
  exact if_neg (Nat.not_lt.2 hs)

set_option maxRecDepth 100000 in
set_option maxHeartbeats 1600000 in
theorem ttake_any (s : ByteArray) (most : Int) (w : World) (hs : s.size ≤ 1000000000000000) (h1 : -9223372036854775808 ≤ most) (h2 : most ≤ 9223372036854775807) :
    Calls Try.prog 20 #[.string s, .int .i64 most] w fun r w' => r = .returned (.tuple #[.string (tt s most).1, .int .i64 ((tt s most).2.1 : Int), .int .i64 ((tt s most).2.2 : Int)]) ∧ w = w' := by
  obtain ⟨n, m, e, ht⟩ : ∃ n m e, takeB s = (n, m, e) := ⟨_, _, _, rfl⟩
  have HT := Lib.hid ht
  by_cases he : e ≠ 0
  · obtain ⟨rfl, rfl, he3⟩ := take_no s n m e ht he
    have HE := Lib.hid (tt_err s most _ _ e ht he)
    clear ht
    go_enter Try.func20, Try.ntmps20
    go_wp2_with fail
    refine (take_any s _ _ e _ (by unfold maxLen; omega) HT.out).mono ?_
    rintro _ w1 ⟨rfl, rfl⟩
    clear HT
    rcases he3 with rfl | rfl | rfl
    all_goals
      go_wp2
      go_ret3
      exact ⟨ret_tt s most _ _ _ HE.out, rfl⟩
  · have e0 : e = 0 := by omega
    subst e0
    obtain ⟨b1, b2, b3, b4, b5⟩ := take_ok s n m ht
    clear b5
    by_cases hl : most.toNat < n
    · have HE := Lib.hid (tt_long s most n m ht hl)
      clear ht he
      go_enter Try.func20, Try.ntmps20
      go_wp2_with fail
      refine (take_any s _ _ _ _ (by unfold maxLen; omega) HT.out).mono ?_
      rintro _ w1 ⟨rfl, rfl⟩
      clear HT
      by_cases hm : most < 0
      all_goals
        have hl' : most < (n : Int) := by omega
        have hn' : 0 < (n : Int) := by omega
        clear hl
        go_wp2
        go_ret3
        exact ⟨ret_tt s most _ _ _ HE.out, rfl⟩
    · by_cases hz : s.size < m + n
      · have HE := Lib.hid (tt_short s most n m ht (by omega) hz)
        clear ht he
        go_enter Try.func20, Try.ntmps20
        go_wp2_with fail
        refine (take_any s _ _ _ _ (by unfold maxLen; omega) HT.out).mono ?_
        rintro _ w1 ⟨rfl, rfl⟩
        clear HT
        by_cases hm : most < 0
        · exfalso
          omega
        · have hl' : (n : Int) ≤ most := by omega
          clear hl
          go_wp2
          go_ret3
          exact ⟨ret_tt s most _ _ _ HE.out, rfl⟩
      · have HE := Lib.hid (tt_ok s most n m ht (by omega) (by omega))
        clear ht he
        go_enter Try.func20, Try.ntmps20
        go_wp2_with fail
        refine (take_any s _ _ _ _ (by unfold maxLen; omega) HT.out).mono ?_
        rintro _ w1 ⟨rfl, rfl⟩
        clear HT
        by_cases hm : most < 0
        · have hn' : (n : Int) ≤ 0 := by omega
          clear hl
          go_wp2
          go_ret3
          exact ⟨ret_tt s most _ _ _ HE.out, rfl⟩
        · have hl' : (n : Int) ≤ most := by omega
          clear hl
          go_wp2
          go_ret3
          exact ⟨ret_tt s most _ _ _ HE.out, rfl⟩
set_option maxRecDepth 100000 in
set_option maxHeartbeats 1600000 in
theorem rttake_any (s : ByteArray) (most : Int) (w : World) (hs : s.size ≤ 1000000000000000) (h1 : -9223372036854775808 ≤ most) (h2 : most ≤ 9223372036854775807) :
    Calls Try.prog 22 #[.string s, .int .i64 most] w fun r w' => r = .returned (.tuple #[.string (tt s most).1, .int .i64 ((tt s most).2.1 : Int), .int .i64 ((tt s most).2.2 : Int)]) ∧ w = w' := by
  obtain ⟨n, m, e, ht⟩ : ∃ n m e, takeB s = (n, m, e) := ⟨_, _, _, rfl⟩
  have HT := Lib.hid ht
  by_cases he : e ≠ 0
  · obtain ⟨rfl, rfl, he3⟩ := take_no s n m e ht he
    have HE := Lib.hid (tt_err s most _ _ e ht he)
    clear ht
    by_cases hm : most < 0
    all_goals
      go_enter Try.func22, Try.ntmps22
      go_wp2_with fail
      refine (rtake_any s _ _ e _ (by unfold maxLen; omega) HT.out).mono ?_
      rintro _ w1 ⟨rfl, rfl⟩
      clear HT
      rcases he3 with rfl | rfl | rfl
      all_goals
        go_wp2
        go_ret3
        exact ⟨ret_tt s most _ _ _ HE.out, rfl⟩
  · have e0 : e = 0 := by omega
    subst e0
    obtain ⟨b1, b2, b3, b4, b5⟩ := take_ok s n m ht
    clear b5
    by_cases hl : most.toNat < n
    · have HE := Lib.hid (tt_long s most n m ht hl)
      clear ht he
      have hl' : most < (n : Int) := by omega
      have hn' : 0 < (n : Int) := by omega
      clear hl
      by_cases hm : most < 0
      all_goals
        go_enter Try.func22, Try.ntmps22
        go_wp2_with fail
        refine (rtake_any s _ _ _ _ (by unfold maxLen; omega) HT.out).mono ?_
        rintro _ w1 ⟨rfl, rfl⟩
        clear HT
        go_wp2
        go_ret3
        exact ⟨ret_tt s most _ _ _ HE.out, rfl⟩
    · by_cases hz : s.size < m + n
      · have HE := Lib.hid (tt_short s most n m ht (by omega) hz)
        clear ht he
        have hm : 0 ≤ most := by omega
        have hl' : (n : Int) ≤ most := by omega
        clear hl
        go_enter Try.func22, Try.ntmps22
        go_wp2_with fail
        refine (rtake_any s _ _ _ _ (by unfold maxLen; omega) HT.out).mono ?_
        rintro _ w1 ⟨rfl, rfl⟩
        clear HT
        go_wp2
        go_ret3
        exact ⟨ret_tt s most _ _ _ HE.out, rfl⟩
      · have HE := Lib.hid (tt_ok s most n m ht (by omega) (by omega))
        clear ht he
        by_cases hm : most < 0
        · have hn' : (n : Int) ≤ 0 := by omega
          clear hl
          go_enter Try.func22, Try.ntmps22
          go_wp2_with fail
          refine (rtake_any s _ _ _ _ (by unfold maxLen; omega) HT.out).mono ?_
          rintro _ w1 ⟨rfl, rfl⟩
          clear HT
          go_wp2
          go_ret3
          exact ⟨ret_tt s most _ _ _ HE.out, rfl⟩
        · have hl' : (n : Int) ≤ most := by omega
          clear hl
          go_enter Try.func22, Try.ntmps22
          go_wp2_with fail
          refine (rtake_any s _ _ _ _ (by unfold maxLen; omega) HT.out).mono ?_
          rintro _ w1 ⟨rfl, rfl⟩
          clear HT
          go_wp2
          go_ret3
          exact ⟨ret_tt s most _ _ _ HE.out, rfl⟩
end Go.Proofs.Ytdgnjhnbldbnhaa
