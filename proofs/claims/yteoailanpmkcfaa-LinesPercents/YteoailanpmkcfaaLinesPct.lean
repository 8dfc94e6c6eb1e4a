/-
  Texts by digits (percent): plain facts of lists of bytes.
-/
import Derived.Test.YteoailanpmkcfaaLinesMath
namespace Go.Proofs.Yteoailanpmkcfaa
set_option linter.unusedVariables false

/-- Does a byte stand for itself? -/
def safeN (n : Nat) : Bool := (decide (65 ≤ n) && decide (n ≤ 90)) || (decide (97 ≤ n) && decide (n ≤ 122)) || (decide (48 ≤ n) && decide (n ≤ 57)) || decide (n = 45) || decide (n = 46) || decide (n = 95) || decide (n = 126)

def hexN (n : Nat) : Nat := if n < 10 then 48 + n else 55 + n
def hexV (n : Nat) : Option Nat := if 48 ≤ n ∧ n ≤ 57 then some (n - 48) else if 65 ≤ n ∧ n ≤ 70 then some (n - 55) else none

def pct (c : UInt8) : List UInt8 := if safeN c.toNat then [c] else [37, UInt8.ofNat (hexN (c.toNat / 16)), UInt8.ofNat (hexN (c.toNat % 16))]
def pctL (l : List UInt8) : List UInt8 := l.flatMap pct

theorem u8p (n : Nat) (h : n < 256) : (UInt8.ofNat n).toNat = n := by
  rw [UInt8.toNat_ofNat']
  omega

theorem hexN_lt (n : Nat) (h : n < 16) : hexN n < 256 := by
  unfold hexN
  split <;> omega

theorem hexV_hexN (n : Nat) (h : n < 16) : hexV (hexN n) = some n := by
  unfold hexV hexN
  split
  · rw [if_pos (by omega)]
    congr 1
    omega
  · rw [if_neg (by omega), if_pos (by omega)]
    congr 1
    omega

theorem hexN_hexV (c a : Nat) (h : hexV c = some a) : a < 16 ∧ hexN a = c := by
  unfold hexV at h
  unfold hexN
  split at h
  · cases h
    refine ⟨by omega, ?_⟩
    rw [if_pos (by omega)]
    omega
  · split at h
    · cases h
      refine ⟨by omega, ?_⟩
      rw [if_neg (by omega)]
      omega
    · cases h

/-- The byte ahead, and how many it takes. -/
def stepP : List UInt8 → Option (UInt8 × Nat)
  | [] => none
  | c :: t =>
    if safeN c.toNat then some (c, 1) else if c.toNat = 37 then
      match t with
      | h :: l :: _ => match hexV h.toNat, hexV l.toNat with
        | some a, some b => if safeN (16 * a + b) then none else some (UInt8.ofNat (16 * a + b), 3)
        | _, _ => none
      | _ => none
    else none

theorem safe37 : safeN 37 = false := by decide

theorem stepP_pct (c : UInt8) (r : List UInt8) : stepP (pct c ++ r) = some (c, (pct c).length) := by
  unfold pct
  by_cases h : safeN c.toNat = true
  · rw [if_pos h]
    show (if safeN c.toNat then some (c, 1) else _) = _
    rw [if_pos h]
    rfl
  · rw [if_neg h]
    have hc := c.toNat_lt
    have h1 := hexV_hexN (c.toNat / 16) (by omega)
    have h2 := hexV_hexN (c.toNat % 16) (by omega)
    have e1 := u8p _ (hexN_lt (c.toNat / 16) (by omega))
    have e2 := u8p _ (hexN_lt (c.toNat % 16) (by omega))
    have e3 : 16 * (c.toNat / 16) + c.toNat % 16 = c.toNat := by omega
    unfold stepP
    simp only [List.cons_append, List.nil_append]
    rw [show safeN (37 : UInt8).toNat = false from safe37, if_neg (by simp), if_pos (by rfl)]
    rw [e1, e2, h1, h2]
    simp only
    rw [e3, if_neg h]
    simp

theorem stepP_yes (l : List UInt8) (c : UInt8) (n : Nat) (h : stepP l = some (c, n)) : pct c = l.take n ∧ n = (pct c).length ∧ n ≤ l.length := by
  cases l with
  | nil => cases h
  | cons d t =>
    simp only [stepP] at h
    split at h
    · rename_i hs
      cases h
      unfold pct
      rw [if_pos hs]
      simp
    · split at h
      · rename_i hs h37
        split at h
        · rename_i x y r
          split at h
          · rename_i a b ha hb
            split at h
            · cases h
            · rename_i hns
              cases h
              obtain ⟨a1, a2⟩ := hexN_hexV _ _ ha
              obtain ⟨b1, b2⟩ := hexN_hexV _ _ hb
              have e : (UInt8.ofNat (16 * a + b)).toNat = 16 * a + b := u8p _ (by omega)
              have ed : d = 37 := by
                apply UInt8.toNat.inj
                rw [h37]
                rfl
              unfold pct
              rw [e, if_neg hns, show (16 * a + b) / 16 = a by omega, show (16 * a + b) % 16 = b by omega, a2, b2, ed]
              simp
          · cases h
        · cases h
      · cases h

def unpctF : Nat → List UInt8 → Option (List UInt8)
  | _, [] => some []
  | 0, _ :: _ => none
  | f + 1, l => match stepP l with
    | some (c, n) => (unpctF f (l.drop n)).map (c :: ·)
    | none => none

def unpctL (l : List UInt8) : Option (List UInt8) := unpctF l.length l

theorem pct_len (c : UInt8) : 1 ≤ (pct c).length := by
  unfold pct
  split <;> simp

theorem pctL_len (l : List UInt8) : l.length ≤ (pctL l).length := by
  induction l with
  | nil => simp [pctL]
  | cons c t ih =>
    have := pct_len c
    show t.length + 1 ≤ (pct c ++ pctL t).length
    rw [List.length_append]
    omega

theorem unpctF_pct : ∀ (l : List UInt8) (f : Nat), l.length ≤ f → unpctF f (pctL l) = some l
  | [], f, _ => by cases f <;> rfl
  | c :: t, 0, h => by simp at h
  | c :: t, f + 1, h => by
    have e : pctL (c :: t) = pct c ++ pctL t := rfl
    have hne : ∃ d r, pct c ++ pctL t = d :: r := by
      have := pct_len c
      cases hp : pct c with
      | nil => rw [hp] at this; simp at this
      | cons d r => exact ⟨d, r ++ pctL t, rfl⟩
    obtain ⟨d, r, hd⟩ := hne
    rw [e, hd]
    show (match stepP (d :: r) with | some (c, n) => (unpctF f ((d :: r).drop n)).map (c :: ·) | none => none) = _
    rw [← hd, stepP_pct]
    simp only
    rw [List.drop_left, unpctF_pct t f (by simpa using h)]
    rfl

theorem unpctF_yes : ∀ (f : Nat) (l a : List UInt8), unpctF f l = some a → pctL a = l
  | f, [], a, h => by
    have h' : some ([] : List UInt8) = some a := by cases f <;> exact h
    have e : [] = a := Option.some.inj h'
    subst e
    rfl
  | 0, _ :: _, a, h => by cases h
  | f + 1, d :: t, a, h => by
    have h' : (match stepP (d :: t) with | some (c, n) => (unpctF f ((d :: t).drop n)).map (c :: ·) | none => none) = some a := h
    cases hs : stepP (d :: t) with
    | none => rw [hs] at h'; cases h'
    | some p =>
      obtain ⟨c, n⟩ := p
      rw [hs] at h'
      simp only at h'
      rw [Option.map_eq_some_iff] at h'
      obtain ⟨b, hb, rfl⟩ := h'
      have ih := unpctF_yes f _ b hb
      obtain ⟨y1, y2, y3⟩ := stepP_yes _ _ _ hs
      show pct c ++ pctL b = d :: t
      rw [ih, y1, List.take_append_drop]

theorem unpctL_iff (l a : List UInt8) : unpctL l = some a ↔ pctL a = l := by
  constructor
  · exact unpctF_yes _ _ _
  · rintro rfl
    exact unpctF_pct a _ (pctL_len a)

theorem unpctL_some (l : List UInt8) (c : UInt8) (n : Nat) (h : stepP l = some (c, n)) : unpctL l = (unpctL (l.drop n)).map (c :: ·) := by
  obtain ⟨y1, y2, y3⟩ := stepP_yes _ _ _ h
  have hs : l = pct c ++ l.drop n := by rw [y1, List.take_append_drop]
  cases hr : unpctL (l.drop n) with
  | some b =>
    refine (unpctL_iff _ _).2 ?_
    show pct c ++ pctL b = l
    rw [(unpctL_iff _ _).1 hr]
    exact hs.symm
  | none =>
    cases hl : unpctL l with
    | none => rfl
    | some a =>
      have ha := (unpctL_iff _ _).1 hl
      cases a with
      | nil =>
        have : l = [] := ha.symm
        rw [this] at h
        cases h
      | cons x t =>
        have e : pct x ++ pctL t = l := ha
        have h2 := stepP_pct x (pctL t)
        rw [e, h] at h2
        cases h2
        rw [← e, List.drop_left, (unpctL_iff _ _).2 rfl] at hr
        cases hr

theorem unpctL_none (l : List UInt8) (hl : l ≠ []) (h : stepP l = none) : unpctL l = none := by
  cases hu : unpctL l with
  | none => rfl
  | some a =>
    have ha := (unpctL_iff _ _).1 hu
    cases a with
    | nil => exact absurd ha.symm hl
    | cons x t =>
      have e : pct x ++ pctL t = l := ha
      have h2 := stepP_pct x (pctL t)
      rw [e, h] at h2
      cases h2

theorem pctL_append (a b : List UInt8) : pctL (a ++ b) = pctL a ++ pctL b := by
  unfold pctL
  rw [List.flatMap_append]
end Go.Proofs.Yteoailanpmkcfaa
