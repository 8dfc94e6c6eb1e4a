/-
  Days and seconds, plain: leap years, the lengths of months, days counted from the first one of 1970, clocks and their seconds.
-/
import Derived.ProofKit
namespace Go.Proofs.YtmmkokomffclmaaDoor
set_option linter.unusedVariables false

/-- Is it a leap year? -/
def leap (y : Int) : Bool := decide (y % 400 = 0) || (decide (y % 4 = 0) && decide (y % 100 ≠ 0))

/-- The length of a year. -/
def long (y : Int) : Int := if leap y = true then 366 else 365

/-- The length of a month (0: no such month). -/
def mlen (l : Bool) (m : Int) : Int :=
  if m = 1 ∨ m = 3 ∨ m = 5 ∨ m = 7 ∨ m = 8 ∨ m = 10 ∨ m = 12 then 31
  else if m = 4 ∨ m = 6 ∨ m = 9 ∨ m = 11 then 30
  else if m = 2 then (if l = true then 29 else 28) else 0

/-- The length of a month of a year from 1 to 9999. -/
def lengthOf (y m : Int) : Int := if y < 1 ∨ 9999 < y then 0 else mlen (leap y) m

/-- The first day of a year, counted from the first one of 1970. -/
def ys (y : Int) : Int := 365 * (y - 1) + (y - 1) / 4 - (y - 1) / 100 + (y - 1) / 400 - 719162

/-- The days of a year ahead of a month. -/
def ms (l : Bool) (m : Int) : Int :=
  (if m ≤ 1 then 0 else if m = 2 then 31 else if m = 3 then 59 else if m = 4 then 90 else if m = 5 then 120 else if m = 6 then 151 else if m = 7 then 181 else if m = 8 then 212
    else if m = 9 then 243 else if m = 10 then 273 else if m = 11 then 304 else if m = 12 then 334 else 365) + (if 2 < m ∧ l = true then 1 else 0)

/-- How far a day is from the first one of 1970. -/
def dayNum (y m d : Int) : Int := ys y + ms (leap y) m + d - 1

/-- It is a day. -/
def IsDay (y m d : Int) : Prop := 1 ≤ d ∧ d ≤ lengthOf y m

instance (y m d : Int) : Decidable (IsDay y m d) := inferInstanceAs (Decidable (_ ∧ _))

/-- The number n tells that day. -/
def Tells (n y m d : Int) : Prop := IsDay y m d ∧ dayNum y m d = n

theorem ys_succ (y : Int) : ys (y + 1) = ys y + long y := by
  unfold ys long leap
  by_cases h1 : y % 400 = 0 <;> by_cases h2 : y % 4 = 0 <;> by_cases h3 : y % 100 = 0 <;> simp [h1, h2, h3] <;> omega

theorem long_pos (y : Int) : 365 ≤ long y ∧ long y ≤ 366 := by
  unfold long; split <;> omega

theorem ys_le (y : Int) : ∀ k : Nat, ys y ≤ ys (y + k)
  | 0 => by simp
  | k + 1 => by
    have h := ys_le y k
    have h2 := ys_succ (y + k)
    have h3 := long_pos (y + k)
    rw [show y + ((k + 1 : Nat) : Int) = y + k + 1 by omega]
    omega

theorem ys_mono {a b : Int} (h : a ≤ b) : ys a ≤ ys b := by
  have := ys_le a (b - a).toNat
  rwa [show a + ((b - a).toNat : Int) = b by omega] at this

theorem ms_succ (l : Bool) (m : Int) (h1 : 1 ≤ m) (h2 : m ≤ 12) : ms l (m + 1) = ms l m + mlen l m := by
  have : m = 1 ∨ m = 2 ∨ m = 3 ∨ m = 4 ∨ m = 5 ∨ m = 6 ∨ m = 7 ∨ m = 8 ∨ m = 9 ∨ m = 10 ∨ m = 11 ∨ m = 12 := by omega
  rcases this with rfl | rfl | rfl | rfl | rfl | rfl | rfl | rfl | rfl | rfl | rfl | rfl <;> cases l <;> rfl

theorem ms_end (y : Int) : ms (leap y) 13 = long y := by
  unfold long; cases leap y <;> rfl

theorem ms_one (l : Bool) : ms l 1 = 0 := by cases l <;> rfl

theorem mlen_pos (l : Bool) (m : Int) (h1 : 1 ≤ m) (h2 : m ≤ 12) : 28 ≤ mlen l m ∧ mlen l m ≤ 31 := by
  have : m = 1 ∨ m = 2 ∨ m = 3 ∨ m = 4 ∨ m = 5 ∨ m = 6 ∨ m = 7 ∨ m = 8 ∨ m = 9 ∨ m = 10 ∨ m = 11 ∨ m = 12 := by omega
  rcases this with rfl | rfl | rfl | rfl | rfl | rfl | rfl | rfl | rfl | rfl | rfl | rfl <;> cases l <;> decide

theorem mlen_none (l : Bool) (m : Int) (h : m < 1 ∨ 12 < m) : mlen l m = 0 := by
  unfold mlen
  rw [if_neg (by omega), if_neg (by omega), if_neg (by omega)]

theorem mlen_range (l : Bool) (m : Int) : 0 ≤ mlen l m ∧ mlen l m ≤ 31 := by
  by_cases h : 1 ≤ m ∧ m ≤ 12
  · have := mlen_pos l m h.1 h.2; omega
  · rw [mlen_none l m (by omega)]; omega

theorem ms_mono (l : Bool) {a b : Int} (h0 : 1 ≤ a) (h : a ≤ b) (h2 : b ≤ 13) : ms l a ≤ ms l b := by
  have key : ∀ k : Nat, a + k ≤ 13 → ms l a ≤ ms l (a + k) := by
    intro k
    induction k with
    | zero => simp
    | succ k ih =>
      intro hk
      have := ih (by omega)
      have h3 := ms_succ l (a + k) (by omega) (by omega)
      have h4 := mlen_range l (a + k)
      rw [show a + ((k + 1 : Nat) : Int) = a + k + 1 by omega]
      omega
  have := key (b - a).toNat (by omega)
  rwa [show a + ((b - a).toNat : Int) = b by omega] at this

theorem lengthOf_in {y : Int} (m : Int) (h1 : 1 ≤ y) (h2 : y ≤ 9999) : lengthOf y m = mlen (leap y) m := by
  unfold lengthOf; rw [if_neg (by omega)]

theorem IsDay.range {y m d : Int} (h : IsDay y m d) : 1 ≤ y ∧ y ≤ 9999 ∧ 1 ≤ m ∧ m ≤ 12 ∧ 1 ≤ d ∧ d ≤ mlen (leap y) m := by
  obtain ⟨h1, h2⟩ := h
  unfold lengthOf at h2
  by_cases hy : y < 1 ∨ 9999 < y
  · rw [if_pos hy] at h2; omega
  · rw [if_neg hy] at h2
    by_cases hm : m < 1 ∨ 12 < m
    · rw [mlen_none _ m hm] at h2; omega
    · omega

/-- A day lies within its month, and its month within its year. -/
theorem IsDay.bounds {y m d : Int} (h : IsDay y m d) : ys y ≤ dayNum y m d ∧ dayNum y m d < ys (y + 1) ∧ ys y + ms (leap y) m ≤ dayNum y m d ∧ dayNum y m d < ys y + ms (leap y) (m + 1) := by
  obtain ⟨y1, y2, m1, m2, d1, d2⟩ := h.range
  have a1 := ms_succ (leap y) m m1 m2
  have a2 := ms_mono (leap y) (a := 1) (b := m) (by omega) m1 (by omega)
  have a3 := ms_mono (leap y) (a := m + 1) (b := 13) (by omega) (by omega) (by omega)
  rw [ms_one] at a2
  rw [ms_end] at a3
  have a4 := ys_succ y
  unfold dayNum
  omega

theorem year_one {n a b : Int} (h1 : ys a ≤ n) (h2 : n < ys (a + 1)) (h3 : ys b ≤ n) (h4 : n < ys (b + 1)) : a = b := by
  rcases Int.lt_trichotomy a b with h | h | h
  · have := ys_mono (show a + 1 ≤ b by omega); omega
  · exact h
  · have := ys_mono (show b + 1 ≤ a by omega); omega

theorem Tells.one {n y m d y' m' d' : Int} (h : Tells n y m d) (h' : Tells n y' m' d') : y = y' ∧ m = m' ∧ d = d' := by
  obtain ⟨hd, hn⟩ := h
  obtain ⟨hd', hn'⟩ := h'
  obtain ⟨b1, b2, b3, b4⟩ := hd.bounds
  obtain ⟨c1, c2, c3, c4⟩ := hd'.bounds
  have hy : y = y' := year_one (n := n) (by omega) (by omega) (by omega) (by omega)
  subst hy
  obtain ⟨y1, y2, m1, m2, d1, d2⟩ := hd.range
  obtain ⟨y1', y2', m1', m2', d1', d2'⟩ := hd'.range
  have hm : m = m' := by
    rcases Int.lt_trichotomy m m' with h | h | h
    · have := ms_mono (leap y) (a := m + 1) (b := m') (by omega) (by omega) (by omega); omega
    · exact h
    · have := ms_mono (leap y) (a := m' + 1) (b := m) (by omega) (by omega) (by omega); omega
  subst hm
  refine ⟨rfl, rfl, ?_⟩
  unfold dayNum at hn hn'
  omega

theorem ys_first : ys 1 = -719162 := by decide
theorem ys_1970 : ys 1970 = 0 := by decide
theorem ys_last : ys 10000 = 2932897 := by decide

/-- The days that there are. -/
theorem IsDay.within {y m d : Int} (h : IsDay y m d) : -719162 ≤ dayNum y m d ∧ dayNum y m d ≤ 2932896 := by
  obtain ⟨y1, y2, m1, m2, d1, d2⟩ := h.range
  obtain ⟨b1, b2, b3, b4⟩ := h.bounds
  have h1 := ys_mono (show 1 ≤ y by omega)
  have h2 := ys_mono (show y + 1 ≤ 10000 by omega)
  rw [ys_first] at h1
  rw [ys_last] at h2
  omega

theorem Tells.within {n y m d : Int} (h : Tells n y m d) : -719162 ≤ n ∧ n ≤ 2932896 := by
  have := h.1.within; rw [h.2] at this; exact this

/-- The day of the week. -/
def wday (n : Int) : Int := (n + 4) % 7

/-- A clock's seconds. -/
def secs (y m d h i s : Int) : Int := 86400 * dayNum y m d + 3600 * h + 60 * i + s

/-- It is a clock. -/
def IsClock (y m d h i s : Int) : Prop := IsDay y m d ∧ 0 ≤ h ∧ h ≤ 23 ∧ 0 ≤ i ∧ i ≤ 59 ∧ 0 ≤ s ∧ s ≤ 59

instance (y m d h i s : Int) : Decidable (IsClock y m d h i s) := inferInstanceAs (Decidable (_ ∧ _))

/-- The number t tells that clock. -/
def Shows (t y m d h i s : Int) : Prop := IsClock y m d h i s ∧ secs y m d h i s = t

theorem Shows.day {t y m d h i s : Int} (hs : Shows t y m d h i s) : Tells (t / 86400) y m d ∧ h = t % 86400 / 3600 ∧ i = t % 86400 / 60 % 60 ∧ s = t % 86400 % 60 := by
  obtain ⟨⟨h1, h2, h3, h4, h5, h6, h7⟩, h8⟩ := hs
  unfold secs at h8
  refine ⟨⟨h1, ?_⟩, ?_, ?_, ?_⟩ <;> omega

theorem Tells.clock {t y m d : Int} (h : Tells (t / 86400) y m d) : Shows t y m d (t % 86400 / 3600) (t % 86400 / 60 % 60) (t % 86400 % 60) := by
  obtain ⟨h1, h2⟩ := h
  refine ⟨⟨h1, ?_, ?_, ?_, ?_, ?_, ?_⟩, ?_⟩
  case _ => omega
  case _ => omega
  case _ => omega
  case _ => omega
  case _ => omega
  case _ => omega
  unfold secs
  omega

theorem Shows.one {t y m d h i s y' m' d' h' i' s' : Int} (a : Shows t y m d h i s) (b : Shows t y' m' d' h' i' s') : y = y' ∧ m = m' ∧ d = d' ∧ h = h' ∧ i = i' ∧ s = s' := by
  obtain ⟨a1, a2, a3, a4⟩ := a.day
  obtain ⟨b1, b2, b3, b4⟩ := b.day
  obtain ⟨c1, c2, c3⟩ := a1.one b1
  exact ⟨c1, c2, c3, by omega, by omega, by omega⟩

theorem Shows.within {t y m d h i s : Int} (a : Shows t y m d h i s) : -62135596800 ≤ t ∧ t ≤ 253402300799 := by
  have := a.day.1.within
  omega

/-- The first month's day is a day, so each number within is told. -/
theorem exists_day (n : Int) (h1 : -719162 ≤ n) (h2 : n ≤ 2932896) : ∃ y m d, Tells n y m d := by
  have hy : ∀ k : Nat, k ≤ 9999 → ys 1 ≤ n → n < ys (1 + k) → ∃ y : Int, 1 ≤ y ∧ y < 1 + k ∧ ys y ≤ n ∧ n < ys (y + 1) := by
    intro k
    induction k with
    | zero => intro _ a b; simp at b; omega
    | succ k ih =>
      intro hk a b
      by_cases h : n < ys (1 + k)
      · obtain ⟨y, c1, c2, c3, c4⟩ := ih (by omega) a h
        exact ⟨y, c1, by omega, c3, c4⟩
      · exact ⟨1 + k, by omega, by omega, by omega, by rwa [show (1 : Int) + k + 1 = 1 + ((k + 1 : Nat) : Int) by omega]⟩
  obtain ⟨y, y1, y2, y3, y4⟩ := hy 9999 (by omega) (by rw [ys_first]; omega) (by rw [show (1 : Int) + ((9999 : Nat) : Int) = 10000 by omega, ys_last]; omega)
  obtain ⟨r, hr⟩ : ∃ r, r = n - ys y := ⟨_, rfl⟩
  rw [ys_succ] at y4
  have hm : ∀ k : Nat, k ≤ 12 → r < ms (leap y) (1 + k) → ∃ m : Int, 1 ≤ m ∧ m < 1 + k ∧ ms (leap y) m ≤ r ∧ r < ms (leap y) (m + 1) := by
    intro k
    induction k with
    | zero => intro _ b; rw [show (1 : Int) + ((0 : Nat) : Int) = 1 by omega, ms_one] at b; omega
    | succ k ih =>
      intro hk b
      by_cases h : r < ms (leap y) (1 + k)
      · obtain ⟨m, c1, c2, c3, c4⟩ := ih (by omega) h
        exact ⟨m, c1, by omega, c3, c4⟩
      · exact ⟨1 + k, by omega, by omega, by omega, by rwa [show (1 : Int) + k + 1 = 1 + ((k + 1 : Nat) : Int) by omega]⟩
  obtain ⟨m, m1, m2, m3, m4⟩ := hm 12 (by omega) (by rw [show (1 : Int) + ((12 : Nat) : Int) = 13 by omega, ms_end]; omega)
  rw [ms_succ _ m m1 (by omega)] at m4
  refine ⟨y, m, r - ms (leap y) m + 1, ⟨by omega, ?_⟩, ?_⟩
  · rw [lengthOf_in m y1 (by omega)]; omega
  · unfold dayNum; omega

theorem exists_clock (t : Int) (h1 : -62135596800 ≤ t) (h2 : t ≤ 253402300799) : ∃ y m d h i s, Shows t y m d h i s := by
  obtain ⟨y, m, d, h⟩ := exists_day (t / 86400) (by omega) (by omega)
  exact ⟨y, m, d, _, _, _, h.clock⟩
end Go.Proofs.YtmmkokomffclmaaDoor
