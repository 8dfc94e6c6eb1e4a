/-
  Ways to write bytes by a mark and so many bytes behind it: plain facts of lists of bytes.
-/
import Derived.Test.YteoailanpmkcfaaLinesPct
namespace Go.Proofs.Yteoailanpmkcfaa
set_option linter.unusedVariables false

/-- A way to write bytes: the mark, how many stand behind it, what a byte becomes, which byte they were. -/
structure Way where
  mark : UInt8
  many : Nat
  becomes : UInt8 → List UInt8
  was : List UInt8 → UInt8

/-- Each byte becomes itself, or the mark and so many, by which it is told. -/
def Way.Fair (m : Way) : Prop := ∀ c, (m.becomes c = [c] ∧ c ≠ m.mark) ∨ (∃ x, m.becomes c = m.mark :: x ∧ x.length = m.many ∧ m.was x = c)

def Way.writeL (m : Way) (l : List UInt8) : List UInt8 := l.flatMap m.becomes

/-- R reads what is written so. -/
def Way.ReadBy (m : Way) (R : List UInt8 → Option (List UInt8)) : Prop := ∀ l a, R l = some a ↔ m.writeL a = l

theorem Way.len {m : Way} (h : m.Fair) (c : UInt8) : 1 ≤ (m.becomes c).length ∧ (m.becomes c).length ≤ 1 + m.many := by
  rcases h c with ⟨e, _⟩ | ⟨x, e, hl, _⟩
  · rw [e]; simp
  · rw [e]; simp; omega

theorem Way.none_at {m : Way} {R : List UInt8 → Option (List UInt8)} (hR : m.ReadBy R) : R [] = some [] := (hR _ _).2 rfl

theorem Way.snoc (m : Way) (l : List UInt8) (c : UInt8) : m.writeL (l ++ [c]) = m.writeL l ++ m.becomes c := by
  unfold Way.writeL
  rw [List.flatMap_append]
  simp

/-- What stands ahead is no mark with so many behind it. -/
theorem Way.bare {m : Way} {R : List UInt8 → Option (List UInt8)} (hm : m.Fair) (hR : m.ReadBy R) (c : UInt8) (t : List UInt8) (h : ¬ (c = m.mark ∧ m.many < (c :: t).length)) :
    R (c :: t) = if m.becomes c = [c] then (R t).map (c :: ·) else none := by
  have key : ∀ x r, m.writeL (x :: r) = c :: t → x = c ∧ m.becomes c = [c] ∧ m.writeL r = t := by
    intro x r e
    have e' : m.becomes x ++ m.writeL r = c :: t := e
    rcases hm x with ⟨e1, _⟩ | ⟨y, e1, hl, _⟩
    · rw [e1] at e'
      have : x = c ∧ m.writeL r = t := by simpa using e'
      obtain ⟨rfl, h2⟩ := this
      exact ⟨rfl, e1, h2⟩
    · exfalso
      rw [e1] at e'
      have h2 : m.mark = c ∧ y ++ m.writeL r = t := by simpa using e'
      refine h ⟨h2.1.symm, ?_⟩
      rw [← h2.2, List.length_cons, List.length_append]
      omega
  split
  · rename_i hy
    cases hr : R t with
    | some b =>
      refine (hR _ _).2 ?_
      show m.becomes c ++ m.writeL b = c :: t
      rw [hy, (hR _ _).1 hr]
      rfl
    | none =>
      cases hl : R (c :: t) with
      | none => rfl
      | some a =>
        have ha := (hR _ _).1 hl
        cases a with
        | nil => cases ha
        | cons x r =>
          have h3 := (hR _ _).2 (key x r ha).2.2
          rw [hr] at h3
          cases h3
  · rename_i hn
    cases hl : R (c :: t) with
    | none => rfl
    | some a =>
      have ha := (hR _ _).1 hl
      cases a with
      | nil => cases ha
      | cons x r => exact absurd (key x r ha).2.1 hn

/-- What stands ahead is the mark, with so many behind it. -/
theorem Way.marked {m : Way} {R : List UInt8 → Option (List UInt8)} (hm : m.Fair) (hR : m.ReadBy R) (x r : List UInt8) (hx : x.length = m.many) :
    R (m.mark :: x ++ r) = if m.becomes (m.was x) = m.mark :: x then (R r).map (m.was x :: ·) else none := by
  have key : ∀ y q, m.writeL (y :: q) = m.mark :: x ++ r → m.was x = y ∧ m.becomes y = m.mark :: x ∧ m.writeL q = r := by
    intro y q e
    have e' : m.becomes y ++ m.writeL q = m.mark :: x ++ r := e
    rcases hm y with ⟨e1, hne⟩ | ⟨z, e1, hl, hw⟩
    · rw [e1] at e'
      have : y = m.mark := by
        have := congrArg List.head? e'
        simpa using this
      exact absurd this hne
    · rw [e1] at e'
      have h2 : z ++ m.writeL q = x ++ r := by simpa using e'
      have h3 := List.append_inj h2 (by omega)
      obtain ⟨rfl, h4⟩ := h3
      exact ⟨hw, e1, h4⟩
  split
  · rename_i hy
    cases hr : R r with
    | some b =>
      refine (hR _ _).2 ?_
      show m.becomes (m.was x) ++ m.writeL b = _
      rw [hy, (hR _ _).1 hr]
    | none =>
      cases hl : R (m.mark :: x ++ r) with
      | none => rfl
      | some a =>
        have ha := (hR _ _).1 hl
        cases a with
        | nil => cases ha
        | cons y q =>
          have h3 := (hR _ _).2 (key y q ha).2.2
          rw [hr] at h3
          cases h3
  · rename_i hn
    cases hl : R (m.mark :: x ++ r) with
    | none => rfl
    | some a =>
      have ha := (hR _ _).1 hl
      cases a with
      | nil => cases ha
      | cons y q =>
        have h3 := key y q ha
        rw [h3.1] at hn
        exact absurd h3.2.1 hn

/-- Which byte a sign tells (0, if none). -/
def wasE (d : UInt8) : UInt8 := if d = 92 then 92 else if d = 116 then 9 else if d = 110 then 10 else if d = 114 then 13 else 0

/-- By backslashes. -/
def wayE : Way := ⟨92, 1, esc, fun x => wasE (x.headD 0)⟩

theorem wayE_fair : wayE.Fair := by
  intro c
  rcases esc_cases c with ⟨h, e⟩ | ⟨h, e⟩ | ⟨h, e⟩ | ⟨h, e⟩ | ⟨h1, h2, h3, h4, e⟩
  · exact .inr ⟨[92], e, rfl, by rw [h]; rfl⟩
  · exact .inr ⟨[116], e, rfl, by rw [h]; rfl⟩
  · exact .inr ⟨[110], e, rfl, by rw [h]; rfl⟩
  · exact .inr ⟨[114], e, rfl, by rw [h]; rfl⟩
  · exact .inl ⟨e, h1⟩

theorem wayE_read : wayE.ReadBy unescL := unescL_iff

/-- A digit's worth, -1 if it is none. -/
def digI (n : Nat) : Int := if 48 ≤ n ∧ n ≤ 57 then (n : Int) - 48 else if 65 ≤ n ∧ n ≤ 70 then (n : Int) - 55 else -1
/-- The byte of two digits. -/
def wasP (a b : UInt8) : UInt8 := UInt8.ofNat ((digI a.toNat * 16 + digI b.toNat) % 256).toNat

/-- By digits. -/
def wayP : Way := ⟨37, 2, pct, fun x => wasP (x.headD 0) (x.tail.headD 0)⟩

theorem digI_hex (n : Nat) (h : n < 16) : digI (hexN n) = n := by
  unfold digI hexN
  split
  · rw [if_pos (by omega)]
    omega
  · rw [if_neg (by omega), if_pos (by omega)]
    omega

theorem wayP_fair : wayP.Fair := by
  intro c
  by_cases h : safeN c.toNat = true
  · refine .inl ⟨?_, ?_⟩
    · show pct c = [c]
      unfold pct
      rw [if_pos h]
    · intro e
      rw [e] at h
      have : safeN 37 = true := h
      rw [safe37] at this
      cases this
  · refine .inr ⟨[UInt8.ofNat (hexN (c.toNat / 16)), UInt8.ofNat (hexN (c.toNat % 16))], ?_, rfl, ?_⟩
    · show pct c = _
      unfold pct
      rw [if_neg h]
      rfl
    · have hc := c.toNat_lt
      have e1 := u8p _ (hexN_lt (c.toNat / 16) (by omega))
      have e2 := u8p _ (hexN_lt (c.toNat % 16) (by omega))
      show wasP (UInt8.ofNat (hexN (c.toNat / 16))) (UInt8.ofNat (hexN (c.toNat % 16))) = c
      unfold wasP
      rw [e1, e2, digI_hex _ (by omega), digI_hex _ (by omega)]
      apply UInt8.toNat.inj
      rw [u8p _ (by omega)]
      omega

theorem wayP_read : wayP.ReadBy unpctL := unpctL_iff
end Go.Proofs.Yteoailanpmkcfaa
