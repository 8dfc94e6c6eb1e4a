/-
  Lines, fields and escapes: plain facts of lists of bytes.
-/
import Derived.ProofKit
namespace Go.Proofs.Yteoailanpmkcfaa
set_option linter.unusedVariables false

/-- A line without the byte 13 at its end. -/
def chop (x : List UInt8) : List UInt8 := if x.getLast? = some 13 then x.dropLast else x

/-- The lines, when cur stands ahead. -/
def splitL : List UInt8 → List UInt8 → List (List UInt8)
  | cur, [] => if cur = [] then [] else [cur]
  | cur, c :: t => if c = 10 then chop cur :: splitL [] t else splitL (cur ++ [c]) t

def linesL (l : List UInt8) : List (List UInt8) := splitL [] l

def okLine (x : List UInt8) : Bool := !x.contains 10 && !(x.getLast? == some 13)
def joinL (ls : List (List UInt8)) : List UInt8 := ls.flatMap (· ++ [10])

theorem splitL_line : ∀ (x cur r : List UInt8), x.contains 10 = false → splitL cur (x ++ 10 :: r) = chop (cur ++ x) :: splitL [] r
  | [], cur, r, _ => by
    show (if (10 : UInt8) = 10 then chop cur :: splitL [] r else splitL (cur ++ [10]) r) = _
    rw [if_pos rfl, List.append_nil]
  | c :: t, cur, r, h => by
    have hc : c ≠ 10 ∧ t.contains 10 = false := by
      simp only [List.contains_cons, Bool.or_eq_false_iff, beq_eq_false_iff_ne] at h
      exact ⟨fun e => h.1 e.symm, h.2⟩
    show (if c = 10 then chop cur :: splitL [] (t ++ 10 :: r) else splitL (cur ++ [c]) (t ++ 10 :: r)) = _
    rw [if_neg hc.1, splitL_line t (cur ++ [c]) r hc.2]
    simp

theorem chop_ok (x : List UInt8) (h : okLine x = true) : chop x = x := by
  unfold okLine at h
  unfold chop
  rw [if_neg]
  intro e
  rw [e] at h
  simp at h

theorem lines_join : ∀ ls : List (List UInt8), ls.all okLine = true → linesL (joinL ls) = ls
  | [], _ => rfl
  | x :: t, h => by
    have h' : okLine x = true ∧ t.all okLine = true := by simpa using h
    have hx : x.contains 10 = false := by
      have := h'.1
      unfold okLine at this
      simp only [Bool.and_eq_true, Bool.not_eq_true'] at this
      exact this.1
    have e : joinL (x :: t) = x ++ 10 :: joinL t := by simp [joinL]
    unfold linesL
    rw [e, splitL_line x [] _ hx, List.nil_append, chop_ok x h'.1]
    have := lines_join t h'.2
    unfold linesL at this
    rw [this]

theorem splitL_parts : ∀ (s cur t : List UInt8), splitL cur (s ++ 10 :: t) = splitL cur (s ++ [10]) ++ splitL [] t
  | [], cur, t => by
    show (if (10 : UInt8) = 10 then chop cur :: splitL [] t else splitL (cur ++ [10]) t) = (if (10 : UInt8) = 10 then chop cur :: splitL [] [] else splitL (cur ++ [10]) []) ++ splitL [] t
    rw [if_pos rfl, if_pos rfl]
    rfl
  | c :: s, cur, t => by
    show (if c = 10 then chop cur :: splitL [] (s ++ 10 :: t) else splitL (cur ++ [c]) (s ++ 10 :: t)) = (if c = 10 then chop cur :: splitL [] (s ++ [10]) else splitL (cur ++ [c]) (s ++ [10])) ++ splitL [] t
    by_cases h : c = 10
    · rw [if_pos h, if_pos h, splitL_parts s [] t]
      rfl
    · rw [if_neg h, if_neg h, splitL_parts s (cur ++ [c]) t]

theorem splitL_some : ∀ (s cur : List UInt8), splitL cur (s ++ [10]) ≠ []
  | [], cur => by
    show (if (10 : UInt8) = 10 then chop cur :: splitL [] [] else splitL (cur ++ [10]) []) ≠ []
    rw [if_pos rfl]
    simp
  | c :: s, cur => by
    show (if c = 10 then chop cur :: splitL [] (s ++ [10]) else splitL (cur ++ [c]) (s ++ [10])) ≠ []
    by_cases h : c = 10
    · rw [if_pos h]
      simp
    · rw [if_neg h]
      exact splitL_some s (cur ++ [c])

theorem splitL_none : ∀ (s cur : List UInt8), s.contains 10 = false → (splitL cur s).length ≤ 1
  | [], cur, _ => by
    show (if cur = [] then ([] : List (List UInt8)) else [cur]).length ≤ 1
    split <;> simp
  | c :: s, cur, h => by
    have hc : c ≠ 10 ∧ s.contains 10 = false := by
      simp only [List.contains_cons, Bool.or_eq_false_iff, beq_eq_false_iff_ne] at h
      exact ⟨fun e => h.1 e.symm, h.2⟩
    show (if c = 10 then chop cur :: splitL [] s else splitL (cur ++ [c]) s).length ≤ 1
    rw [if_neg hc.1]
    exact splitL_none s _ hc.2

/-- The fields, when cur stands ahead. -/
def tabsL : List UInt8 → List UInt8 → List (List UInt8)
  | cur, [] => [cur]
  | cur, c :: t => if c = 9 then cur :: tabsL [] t else tabsL (cur ++ [c]) t

/-- With a byte 9 between two. -/
def tabbedL : List (List UInt8) → List UInt8
  | [] => []
  | [x] => x
  | x :: y :: t => x ++ 9 :: tabbedL (y :: t)

def okField (x : List UInt8) : Bool := !x.contains 9 && !x.contains 10 && !x.contains 13

theorem tabsL_cons (cur l : List UInt8) : ∃ x t, tabsL cur l = x :: t := by
  induction l generalizing cur with
  | nil => exact ⟨cur, [], rfl⟩
  | cons c t ih =>
    show ∃ x t', (if c = 9 then cur :: tabsL [] t else tabsL (cur ++ [c]) t) = x :: t'
    by_cases h : c = 9
    · rw [if_pos h]
      exact ⟨cur, _, rfl⟩
    · rw [if_neg h]
      exact ih _

/-- The fields with a byte 9 between two are the text. -/
theorem tabbed_tabs : ∀ (l cur : List UInt8), tabbedL (tabsL cur l) = cur ++ l
  | [], cur => by rw [List.append_nil]; rfl
  | c :: t, cur => by
    show tabbedL (if c = 9 then cur :: tabsL [] t else tabsL (cur ++ [c]) t) = _
    by_cases h : c = 9
    · rw [if_pos h]
      obtain ⟨x, r, hx⟩ := tabsL_cons [] t
      have ih := tabbed_tabs t []
      rw [hx] at ih ⊢
      show cur ++ 9 :: tabbedL (x :: r) = _
      rw [ih, h]
      rfl
    · rw [if_neg h, tabbed_tabs t (cur ++ [c])]
      simp

theorem tabsL_field : ∀ (x cur r : List UInt8), x.contains 9 = false → tabsL cur (x ++ 9 :: r) = (cur ++ x) :: tabsL [] r
  | [], cur, r, _ => by
    show (if (9 : UInt8) = 9 then cur :: tabsL [] r else tabsL (cur ++ [9]) r) = _
    rw [if_pos rfl, List.append_nil]
  | c :: t, cur, r, h => by
    have hc : c ≠ 9 ∧ t.contains 9 = false := by
      simp only [List.contains_cons, Bool.or_eq_false_iff, beq_eq_false_iff_ne] at h
      exact ⟨fun e => h.1 e.symm, h.2⟩
    show (if c = 9 then cur :: tabsL [] (t ++ 9 :: r) else tabsL (cur ++ [c]) (t ++ 9 :: r)) = _
    rw [if_neg hc.1, tabsL_field t (cur ++ [c]) r hc.2]
    simp

theorem tabsL_one : ∀ (x cur : List UInt8), x.contains 9 = false → tabsL cur x = [cur ++ x]
  | [], cur, _ => by rw [List.append_nil]; rfl
  | c :: t, cur, h => by
    have hc : c ≠ 9 ∧ t.contains 9 = false := by
      simp only [List.contains_cons, Bool.or_eq_false_iff, beq_eq_false_iff_ne] at h
      exact ⟨fun e => h.1 e.symm, h.2⟩
    show (if c = 9 then cur :: tabsL [] t else tabsL (cur ++ [c]) t) = _
    rw [if_neg hc.1, tabsL_one t (cur ++ [c]) hc.2]
    simp

theorem okField_no9 (x : List UInt8) (h : okField x = true) : x.contains 9 = false := by
  unfold okField at h
  simp only [Bool.and_eq_true, Bool.not_eq_true'] at h
  exact h.1.1

theorem tabs_tabbed : ∀ ls : List (List UInt8), ls ≠ [] → ls.all okField = true → tabsL [] (tabbedL ls) = ls
  | [], h, _ => absurd rfl h
  | [x], _, h => by
    have hx : okField x = true := by simpa using h
    show tabsL [] x = [x]
    rw [tabsL_one x [] (okField_no9 x hx), List.nil_append]
  | x :: y :: t, _, h => by
    have h' : okField x = true ∧ (y :: t).all okField = true := by
      simp only [List.all_cons, Bool.and_eq_true] at h ⊢
      exact ⟨h.1, h.2⟩
    show tabsL [] (x ++ 9 :: tabbedL (y :: t)) = x :: y :: t
    rw [tabsL_field x [] _ (okField_no9 x h'.1), List.nil_append, tabs_tabbed (y :: t) (by simp) h'.2]

/-- A byte by backslashes. -/
def esc (c : UInt8) : List UInt8 := if c = 92 then [92, 92] else if c = 9 then [92, 116] else if c = 10 then [92, 110] else if c = 13 then [92, 114] else [c]
def escL (l : List UInt8) : List UInt8 := l.flatMap esc

/-- Which byte stands ahead, by backslashes. -/
def peek : List UInt8 → UInt8
  | [] => 0
  | [c] => c
  | c :: d :: _ => if c = 92 then (if d = 116 then 9 else if d = 110 then 10 else if d = 114 then 13 else c) else c

def unescF : Nat → List UInt8 → Option (List UInt8)
  | _, [] => some []
  | 0, _ :: _ => none
  | f + 1, l => if esc (peek l) = l.take (esc (peek l)).length then (unescF f (l.drop (esc (peek l)).length)).map (peek l :: ·) else none

def unescL (l : List UInt8) : Option (List UInt8) := unescF l.length l

theorem esc_cases (c : UInt8) : (c = 92 ∧ esc c = [92, 92]) ∨ (c = 9 ∧ esc c = [92, 116]) ∨ (c = 10 ∧ esc c = [92, 110]) ∨ (c = 13 ∧ esc c = [92, 114]) ∨ (c ≠ 92 ∧ c ≠ 9 ∧ c ≠ 10 ∧ c ≠ 13 ∧ esc c = [c]) := by
  unfold esc
  by_cases h1 : c = 92
  · subst h1; simp
  · by_cases h2 : c = 9
    · subst h2; simp
    · by_cases h3 : c = 10
      · subst h3; simp
      · by_cases h4 : c = 13
        · subst h4; simp
        · simp [h1, h2, h3, h4]

theorem esc_len (c : UInt8) : 1 ≤ (esc c).length ∧ (esc c).length ≤ 2 := by
  rcases esc_cases c with ⟨_, e⟩ | ⟨_, e⟩ | ⟨_, e⟩ | ⟨_, e⟩ | ⟨_, _, _, _, e⟩ <;> rw [e] <;> simp

theorem peek_esc (c : UInt8) (r : List UInt8) : peek (esc c ++ r) = c := by
  rcases esc_cases c with ⟨h, e⟩ | ⟨h, e⟩ | ⟨h, e⟩ | ⟨h, e⟩ | ⟨h1, h2, h3, h4, e⟩
  · rw [e, h]; rfl
  · rw [e, h]; rfl
  · rw [e, h]; rfl
  · rw [e, h]; rfl
  · rw [e]
    cases r with
    | nil => rfl
    | cons d t =>
      show (if c = 92 then (if d = 116 then 9 else if d = 110 then 10 else if d = 114 then 13 else c) else c) = c
      rw [if_neg h1]

theorem unescF_esc : ∀ (l : List UInt8) (f : Nat), l.length ≤ f → unescF f (escL l) = some l
  | [], f, _ => by cases f <;> rfl
  | c :: t, 0, h => by simp at h
  | c :: t, f + 1, h => by
    have e : escL (c :: t) = esc c ++ escL t := rfl
    have hne : ∃ d r, esc c ++ escL t = d :: r := by
      have := (esc_len c).1
      cases hp : esc c with
      | nil => rw [hp] at this; simp at this
      | cons d r => exact ⟨d, r ++ escL t, rfl⟩
    obtain ⟨d, r, hd⟩ := hne
    rw [e, hd]
    show (if esc (peek (d :: r)) = (d :: r).take (esc (peek (d :: r))).length then (unescF f ((d :: r).drop (esc (peek (d :: r))).length)).map (peek (d :: r) :: ·) else none) = _
    rw [← hd, peek_esc, List.take_left, if_pos rfl, List.drop_left, unescF_esc t f (by simpa using h)]
    rfl

theorem unescF_yes : ∀ (f : Nat) (l a : List UInt8), unescF f l = some a → escL a = l
  | f, [], a, h => by
    have h' : some ([] : List UInt8) = some a := by cases f <;> exact h
    have e : [] = a := Option.some.inj h'
    subst e
    rfl
  | 0, _ :: _, a, h => by cases h
  | f + 1, c :: t, a, h => by
    have h' : (if esc (peek (c :: t)) = (c :: t).take (esc (peek (c :: t))).length then (unescF f ((c :: t).drop (esc (peek (c :: t))).length)).map (peek (c :: t) :: ·) else none) = some a := h
    split at h'
    · rename_i hy
      rw [Option.map_eq_some_iff] at h'
      obtain ⟨b, hb, rfl⟩ := h'
      have ih := unescF_yes f _ b hb
      show esc (peek (c :: t)) ++ escL b = c :: t
      rw [ih]
      generalize (esc (peek (c :: t))).length = n at *
      rw [hy, List.take_append_drop]
    · cases h'

theorem escL_len (l : List UInt8) : l.length ≤ (escL l).length := by
  induction l with
  | nil => simp [escL]
  | cons c t ih =>
    have := (esc_len c).1
    show t.length + 1 ≤ (esc c ++ escL t).length
    rw [List.length_append]
    omega

theorem unescL_iff (l a : List UInt8) : unescL l = some a ↔ escL a = l := by
  constructor
  · exact unescF_yes _ _ _
  · rintro rfl
    exact unescF_esc a _ (escL_len a)

theorem unescL_step (l : List UInt8) (hl : l ≠ []) : unescL l = if esc (peek l) = l.take (esc (peek l)).length then (unescL (l.drop (esc (peek l)).length)).map (peek l :: ·) else none := by
  split
  · rename_i hy
    cases hr : unescL (l.drop (esc (peek l)).length) with
    | some b =>
      have hb := (unescL_iff _ _).1 hr
      refine (unescL_iff _ _).2 ?_
      show esc (peek l) ++ escL b = l
      rw [hb]
      generalize (esc (peek l)).length = n at *
      rw [hy, List.take_append_drop]
    | none =>
      cases hl' : unescL l with
      | none => rfl
      | some a =>
        have ha := (unescL_iff _ _).1 hl'
        cases a with
        | nil => exact absurd ha.symm hl
        | cons c t =>
          have e : esc c ++ escL t = l := ha
          have hp : peek l = c := by rw [← e]; exact peek_esc c _
          rw [hp, ← e, List.drop_left, (unescL_iff _ _).2 rfl] at hr
          cases hr
  · rename_i hn
    cases hl' : unescL l with
    | none => rfl
    | some a =>
      have ha := (unescL_iff _ _).1 hl'
      cases a with
      | nil => exact absurd ha.symm hl
      | cons c t =>
        have e : esc c ++ escL t = l := ha
        have hp : peek l = c := by rw [← e]; exact peek_esc c _
        rw [hp, ← e, List.take_left] at hn
        exact absurd rfl hn

theorem escL_plain (l : List UInt8) : (escL l).contains 9 = false ∧ (escL l).contains 10 = false ∧ (escL l).contains 13 = false := by
  induction l with
  | nil => exact ⟨rfl, rfl, rfl⟩
  | cons c t ih =>
    have key : ∀ x : UInt8, (x = 9 ∨ x = 10 ∨ x = 13) → (esc c).contains x = false := by
      intro x hx
      rcases esc_cases c with ⟨_, e⟩ | ⟨_, e⟩ | ⟨_, e⟩ | ⟨_, e⟩ | ⟨h1, h2, h3, h4, e⟩
      all_goals rw [e]
      · rcases hx with rfl | rfl | rfl <;> decide
      · rcases hx with rfl | rfl | rfl <;> decide
      · rcases hx with rfl | rfl | rfl <;> decide
      · rcases hx with rfl | rfl | rfl <;> decide
      · simp only [List.contains_cons, List.contains_nil, Bool.or_false, beq_eq_false_iff_ne]
        rcases hx with rfl | rfl | rfl
        · exact fun e => h2 e.symm
        · exact fun e => h3 e.symm
        · exact fun e => h4 e.symm
    have app : ∀ x : UInt8, (x = 9 ∨ x = 10 ∨ x = 13) → (escL t).contains x = false → (escL (c :: t)).contains x = false := by
      intro x hx ht
      show (esc c ++ escL t).contains x = false
      have e1 := key x hx
      rw [List.contains_eq_any_beq] at *
      rw [List.any_append, e1, ht]
      rfl
    exact ⟨app 9 (.inl rfl) ih.1, app 10 (.inr (.inl rfl)) ih.2.1, app 13 (.inr (.inr rfl)) ih.2.2⟩
end Go.Proofs.Yteoailanpmkcfaa
