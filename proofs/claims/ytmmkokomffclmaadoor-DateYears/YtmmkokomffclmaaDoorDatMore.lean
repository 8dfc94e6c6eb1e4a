/-
  Dates of cookies, plain: what a date as headers have it tells as a cookie's date; the first day of a year.
-/
import Derived.Test.YtmmkokomffclmaaDoorDatMath
namespace Go.Proofs.YtmmkokomffclmaaDoor
set_option linter.unusedVariables false

theorem isD_part (c : UInt8) (h : isD c = true) : partC c = false := by
  have := byte_cases (fun c => !isD c || !partC c) (by decide +kernel) c
  simpa [h] using this

theorem allD_part (l : List UInt8) (h : allD l = true) : (l.all fun c => !partC c) = true := by
  rw [List.all_eq_true]
  intro c hc
  rw [isD_part c (List.all_eq_true.1 h c hc)]
  rfl

theorem digN_row : ∀ l : List UInt8, allD l = true → digN l = l.length
  | [], _ => rfl
  | c :: t, h => by
    have h' : isD c = true ∧ allD t = true := by simpa [allD] using h
    show (if isD c = true then digN t + 1 else 0) = t.length + 1
    rw [if_pos h'.1, digN_row t h'.2]

theorem digN_then : ∀ (l r : List UInt8) (c : UInt8), allD l = true → isD c = false → digN (l ++ c :: r) = l.length
  | [], r, c, _, hc => by
    show (if isD c = true then _ else 0) = 0
    rw [hc]; rfl
  | x :: t, r, c, h, hc => by
    have h' : isD x = true ∧ allD t = true := by simpa [allD] using h
    show (if isD x = true then digN (t ++ c :: r) + 1 else 0) = t.length + 1
    rw [if_pos h'.1, digN_then t r c h'.2 hc]

theorem two12_row (l : List UInt8) (h : allD l = true) (h1 : 1 ≤ l.length) (h2 : l.length ≤ 2) : two12 l = some (valN l, []) := by
  unfold two12
  rw [digN_row l h, if_neg (by omega), List.take_length, List.drop_length]

theorem two12_then (l r : List UInt8) (c : UInt8) (h : allD l = true) (hc : isD c = false) (h1 : 1 ≤ l.length) (h2 : l.length ≤ 2) : two12 (l ++ c :: r) = some (valN l, c :: r) := by
  unfold two12
  rw [digN_then l r c h hc, if_neg (by omega), List.take_left, List.drop_left]

theorem pad_at (n k : Nat) (h : n < 10 ^ k) : valN (padK n k) = n := by rw [valN_pad, Nat.mod_eq_of_lt h]

theorem hmsL_eq (h i s : Nat) : hmsL h i s = padK h 2 ++ 58 :: (padK i 2 ++ 58 :: padK s 2) := by
  unfold hmsL
  rw [List.append_assoc, List.cons_append]

theorem timeL_hms (h i s : Nat) (hh : h < 100) (hi : i < 100) (hs : s < 100) : timeL (hmsL h i s) = some (h, i, s) := by
  rw [hmsL_eq]
  unfold timeL
  rw [two12_then (padK h 2) _ 58 (padK_all h 2) (by decide) (by rw [padK_len]; decide) (by rw [padK_len]; decide)]
  simp only [colon]
  rw [two12_then (padK i 2) _ 58 (padK_all i 2) (by decide) (by rw [padK_len]; decide) (by rw [padK_len]; decide)]
  simp only []
  rw [two12_row (padK s 2) (padK_all s 2) (by rw [padK_len]; decide) (by rw [padK_len]; decide)]
  simp only [pad_at h 2 hh, pad_at i 2 hi, pad_at s 2 hs]

theorem timeL_row (l : List UInt8) (h : allD l = true) : timeL l = none := by
  unfold timeL
  by_cases hl : 1 ≤ l.length ∧ l.length ≤ 2
  · rw [two12_row l h hl.1 hl.2]
    rfl
  · have : two12 l = none := by
      unfold two12
      rw [digN_row l h, if_pos (by omega)]
    rw [this]

theorem hms_part (h i s : Nat) : ((hmsL h i s).all fun c => !partC c) = true := by
  rw [hmsL_eq, List.all_append, List.all_cons, List.all_append, List.all_cons, allD_part _ (padK_all h 2), allD_part _ (padK_all i 2), allD_part _ (padK_all s 2)]
  decide

theorem hms_ne (h i s : Nat) : hmsL h i s ≠ [] := by
  unfold hmsL
  exact fun e => by simp at e

theorem padK_ne (n k : Nat) (hk : 0 < k) : padK n k ≠ [] := fun e => by
  have := congrArg List.length e
  rw [padK_len] at this
  simp at this
  omega

theorem daysH_at : ∀ k, k < 7 → ((daysH.getD k []).all fun c => !partC c) = true ∧ daysH.getD k [] ≠ [] ∧ timeL (daysH.getD k []) = none ∧ digN (daysH.getD k []) = 0 ∧ monthL (daysH.getD k []) = 0 := by decide
theorem monthsH_at : ∀ k, k < 12 → ((monthsH.getD k []).all fun c => !partC c) = true ∧ monthsH.getD k [] ≠ [] ∧ timeL (monthsH.getD k []) = none ∧ digN (monthsH.getD k []) = 0 ∧ monthL (monthsH.getD k []) = k + 1 := by decide

theorem wordsG_skip (c : UInt8) (l : List UInt8) (h : partC c = true) : wordsG [] (c :: l) = wordsG [] l := by
  rw [wordsG_part [] l c h]; rfl

theorem words_imf (w y m d h i s : Nat) (hw : w < 7) (hm : m - 1 < 12) :
    wordsL (imfL w y m d h i s) = [daysH.getD w [], padK d 2, monthsH.getD (m - 1) [], padK y 4, hmsL h i s, [71, 77, 84]] := by
  obtain ⟨d1, d2, _⟩ := daysH_at w hw
  obtain ⟨m1, m2, _⟩ := monthsH_at (m - 1) hm
  have e : imfL w y m d h i s = daysH.getD w [] ++ 44 :: 32 :: (padK d 2 ++ 32 :: (monthsH.getD (m - 1) [] ++ 32 :: (padK y 4 ++ 32 :: (hmsL h i s ++ 32 :: [71, 77, 84])))) := by
    unfold imfL
    simp only [List.append_assoc, List.cons_append, List.nil_append]
  unfold wordsL
  rw [e, words_word _ _ 44 d1 d2 (by decide), wordsG_skip 32 _ (by decide), words_word _ _ 32 (allD_part _ (padK_all d 2)) (padK_ne d 2 (by decide)) (by decide),
    words_word _ _ 32 m1 m2 (by decide), words_word _ _ 32 (allD_part _ (padK_all y 4)) (padK_ne y 4 (by decide)) (by decide), words_word _ _ 32 (hms_part h i s) (hms_ne h i s) (by decide),
    words_last _ (by decide) (by decide)]

/-! What a word adds -/

theorem nextF_none (f : Fd) (w : List UInt8) (h1 : timeL w = none) (h2 : digN w = 0) (h3 : monthL w = 0) : nextF f w = f := by
  unfold nextF
  rw [h1, h2, h3, if_neg (fun h => by cases h.2), if_neg (fun h => by omega), if_neg (fun h => by omega), if_neg (fun h => by omega)]

theorem nextF_aday (f : Fd) (l : List UInt8) (hf : f.day = false) (h : allD l = true) (h1 : 1 ≤ l.length) (h2 : l.length ≤ 2) : nextF f l = { f with day := true, D := valN l } := by
  unfold nextF
  rw [timeL_row l h, digN_row l h, if_neg (fun h => by cases h.2), if_pos ⟨hf, h1, h2⟩, List.take_length]

theorem nextF_amonth (f : Fd) (w : List UInt8) (hf : f.month = false) (h1 : timeL w = none) (h2 : digN w = 0) (h3 : 0 < monthL w) : nextF f w = { f with month := true, M := monthL w } := by
  unfold nextF
  rw [h1, h2, if_neg (fun h => by cases h.2), if_neg (fun h => by omega), if_pos ⟨hf, h3⟩]

theorem digN_month (l : List UInt8) (h : allD l = true) (hl : 1 ≤ l.length) : monthL l = 0 := by
  unfold monthL
  split
  · rename_i h3
    match l, h, h3 with
    | a :: b :: c :: t, h, _ =>
      have ha : isD a = true := by
        have h' : isD a = true ∧ isD b = true ∧ isD c = true ∧ ∀ x ∈ t, isD x = true := by simpa [allD] using h
        exact h'.1
      have e : lowD a = a := lowD_dig a ha
      show placeOf [lowD a, lowD b, lowD c] monthsL 0 = 0
      rw [e]
      have n : ∀ x : UInt8, isD x = false → ∀ r r' : List UInt8, ¬ (a :: r = x :: r') := fun x hx r r' h => by
        injection h with h1 _
        rw [h1, hx] at ha
        cases ha
      simp only [monthsL, placeOf, if_neg (n 106 (by decide) _ _), if_neg (n 102 (by decide) _ _), if_neg (n 109 (by decide) _ _), if_neg (n 97 (by decide) _ _), if_neg (n 115 (by decide) _ _), if_neg (n 111 (by decide) _ _), if_neg (n 110 (by decide) _ _), if_neg (n 100 (by decide) _ _)]
  · rfl

theorem nextF_ayear (f : Fd) (l : List UInt8) (hd : f.day = true) (hf : f.year = false) (h : allD l = true) (h1 : 2 ≤ l.length) (h2 : l.length ≤ 4) : nextF f l = { f with year := true, Y := valN l } := by
  unfold nextF
  rw [timeL_row l h, digN_row l h, digN_month l h (by omega), if_neg (fun h => by cases h.2), if_neg (fun h => by rw [hd] at h; cases h.1), if_neg (fun h => by omega), if_pos ⟨hf, h1, h2⟩, List.take_length]

theorem nextF_atime (f : Fd) (w : List UInt8) (hf : f.time = false) (a b c : Nat) (h : timeL w = some (a, b, c)) : nextF f w = { f with time := true, h := a, i := b, s := c } := by
  unfold nextF
  rw [if_pos ⟨hf, by rw [h]; rfl⟩, h]
  rfl

/-- A date as headers have it tells its time. -/
theorem cookie_imf (w y m d h i s : Nat) (hw : w < 7) (hc : IsClock y m d h i s) (hy : 1970 ≤ y) : cookieL (imfL w y m d h i s) = (secs y m d h i s, true) := by
  obtain ⟨hd, h1, h2, h3, h4, h5, h6⟩ := id hc
  obtain ⟨y1, y2, m1, m2, d1, d2⟩ := hd.range
  have hl := (mlen_range (leap y) m).2
  obtain ⟨_, _, a3, a4, a5⟩ := daysH_at w hw
  obtain ⟨_, _, b3, b4, b5⟩ := monthsH_at (m - 1) (by omega)
  have hmm : m - 1 + 1 = m := by omega
  rw [hmm] at b5
  unfold cookieL
  rw [words_imf w y m d h i s hw (by omega)]
  simp only [List.foldl_cons, List.foldl_nil]
  rw [nextF_none fd0 _ a3 a4 a5, nextF_aday fd0 _ rfl (padK_all d 2) (by rw [padK_len]; decide) (by rw [padK_len]; decide), nextF_amonth _ _ rfl b3 b4 (by omega),
    nextF_ayear _ _ rfl rfl (padK_all y 4) (by rw [padK_len]; decide) (by rw [padK_len]; decide), nextF_atime _ _ rfl _ _ _ (timeL_hms h i s (by omega) (by omega) (by omega)), nextF_none _ [71, 77, 84] (by decide) (by decide) (by decide),
    b5, pad_at d 2 (by omega), pad_at y 4 (by omega)]
  have e : yearOf (y : Int) = y := by unfold yearOf; rw [if_neg (by omega), if_neg (by omega)]
  show cookieF ⟨true, true, true, true, (y : Int), (m : Int), (d : Int), (h : Int), (i : Int), (s : Int)⟩ = _
  unfold cookieF
  simp only [true_and]
  rw [e, if_pos ⟨by omega, hc⟩]

/-! The first day of a year -/

/-- "1 Jan ", a year, " 00:00:00". -/
def janL (l : List UInt8) : List UInt8 := [49, 32, 74, 97, 110, 32] ++ l ++ [32, 48, 48, 58, 48, 48, 58, 48, 48]

theorem isClock_jan (y : Int) (h1 : 1 ≤ y) (h2 : y ≤ 9999) : IsClock y 1 1 0 0 0 := by
  refine ⟨⟨by decide, ?_⟩, by decide, by decide, by decide, by decide, by decide, by decide⟩
  rw [lengthOf_in 1 h1 h2]
  have := (mlen_pos (leap y) 1 (by decide) (by decide)).1
  omega

theorem cookie_jan (l : List UInt8) (h : allD l = true) (h1 : 2 ≤ l.length) (h2 : l.length ≤ 4) :
    cookieL (janL l) = if 1601 ≤ yearOf (valN l) then (secs (yearOf (valN l)) 1 1 0 0 0, true) else (0, false) := by
  have e : janL l = [49] ++ 32 :: ([74, 97, 110] ++ 32 :: (l ++ 32 :: [48, 48, 58, 48, 48, 58, 48, 48])) := by
    unfold janL
    simp only [List.cons_append, List.nil_append]
  have hne : l ≠ [] := fun e => by rw [e] at h1; simp at h1
  have hv : valN l < 10000 := Nat.lt_of_lt_of_le (valN_lt l h) (Nat.pow_le_pow_right (n := 10) (i := l.length) (j := 4) (by decide) h2)
  unfold cookieL wordsL
  rw [e, words_word _ _ 32 (by decide) (by decide) (by decide), words_word _ _ 32 (by decide) (by decide) (by decide), words_word _ _ 32 (allD_part l h) hne (by decide), words_last _ (by decide) (by decide)]
  simp only [List.foldl_cons, List.foldl_nil]
  rw [nextF_aday fd0 [49] rfl (by decide) (by decide) (by decide), nextF_amonth _ [74, 97, 110] rfl (by decide) (by decide) (by decide), nextF_ayear _ l rfl rfl h h1 h2,
    nextF_atime _ [48, 48, 58, 48, 48, 58, 48, 48] rfl 0 0 0 (by decide)]
  show cookieF ⟨true, true, true, true, (valN l : Int), 1, 1, 0, 0, 0⟩ = _
  unfold cookieF
  simp only [true_and]
  by_cases hy : 1601 ≤ yearOf (valN l)
  · rw [if_pos hy, if_pos ⟨hy, isClock_jan _ (by omega) (by unfold yearOf at hy ⊢; split <;> (try split) <;> omega)⟩]
  · rw [if_neg hy, if_neg (fun h => hy h.1)]
end Go.Proofs.YtmmkokomffclmaaDoor
