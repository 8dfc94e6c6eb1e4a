/-
  Hosts and domains, plain: parts between dots, hosts, addresses, which host matches which domain, parents.
-/
import Derived.Test.YthempdglmhmfeaaDoorDecMath
import Derived.Test.YthempdglmhmfeaaDoorAscLowM
import Derived.ProofKit
namespace Go.Proofs.YthempdglmhmfeaaDoor
set_option linter.unusedVariables false

/-- What stands between the dots, with a part begun. -/
def dotG (p : List UInt8) : List UInt8 → List (List UInt8)
  | [] => [p]
  | c :: t => if c = 46 then p :: dotG [] t else dotG (p ++ [c]) t

def dotsL (l : List UInt8) : List (List UInt8) := dotG [] l

/-- May a byte stand in a host's part? -/
def hostC (c : UInt8) : Bool := (decide (97 ≤ c.toNat) && decide (c.toNat ≤ 122)) || (decide (48 ≤ c.toNat) && decide (c.toNat ≤ 57)) || decide (c.toNat = 45)

/-- May it stand between dots? -/
def partB (p : List UInt8) : Bool := decide (1 ≤ p.length) && decide (p.length ≤ 63) && decide (p.getD 0 0 ≠ 45) && decide (p.getD (p.length - 1) 0 ≠ 45) && p.all hostC

/-- Is it a host? -/
def hostB (l : List UInt8) : Bool := decide (1 ≤ l.length) && decide (l.length ≤ 64) && (dotsL l).all partB

/-- Is it a number from 0 to 255, as it is printed? -/
def numB (p : List UInt8) : Bool := decide (∃ n : Nat, n ≤ 255 ∧ printL (n : Int) = p)

/-- Is it an address? -/
def ipB (l : List UInt8) : Bool := decide ((dotsL l).length = 4) && (dotsL l).all numB

/-- Does a end with a dot and d? -/
def endsB (a d : List UInt8) : Bool := decide (d.length < a.length) && decide (a.drop (a.length - d.length) = d) && decide (a.getD (a.length - d.length - 1) 0 = 46)

/-- Does a match d? -/
def matchB (a d : List UInt8) : Bool := decide (a = d) || (endsB a d && !ipB a)

/-- What stands behind each dot. -/
def tailsL : List UInt8 → List (List UInt8)
  | [] => []
  | c :: t => if c = 46 then t :: tailsL t else tailsL t

def parentsL (l : List UInt8) : List (List UInt8) := l :: (if ipB l = true then [] else tailsL l)

/-! Parts -/

theorem dotG_dot (p t : List UInt8) : dotG p (46 :: t) = p :: dotG [] t := by
  show (if (46 : UInt8) = 46 then _ else _) = _
  rw [if_pos rfl]

theorem dotG_else (p t : List UInt8) (c : UInt8) (h : c ≠ 46) : dotG p (c :: t) = dotG (p ++ [c]) t := by
  show (if c = 46 then _ else _) = _
  rw [if_neg h]

theorem dotG_app : ∀ (a p b : List UInt8), dotG p (a ++ 46 :: b) = dotG p a ++ dotsL b
  | [], p, b => by rw [List.nil_append, dotG_dot]; rfl
  | c :: t, p, b => by
    rw [List.cons_append]
    by_cases h : c = 46
    · subst h
      rw [dotG_dot, dotG_dot, dotG_app t [] b]
      rfl
    · rw [dotG_else _ _ _ h, dotG_else _ _ _ h, dotG_app t (p ++ [c]) b]

theorem dots_app (a b : List UInt8) : dotsL (a ++ 46 :: b) = dotsL a ++ dotsL b := dotG_app a [] b

/-- The parts with the dots between them are the text. -/
def joinD : List (List UInt8) → List UInt8
  | [] => []
  | [p] => p
  | p :: q :: r => p ++ 46 :: joinD (q :: r)

theorem dotG_ne (l p : List UInt8) : dotG p l ≠ [] := by
  induction l generalizing p with
  | nil => exact fun h => by cases h
  | cons c t ih =>
    by_cases h : c = 46
    · subst h; rw [dotG_dot]; exact fun h => by cases h
    · rw [dotG_else _ _ _ h]; exact ih _

theorem joinD_cons (p : List UInt8) (r : List (List UInt8)) (h : r ≠ []) : joinD (p :: r) = p ++ 46 :: joinD r := by
  cases r with
  | nil => exact absurd rfl h
  | cons q r => rfl

theorem join_dotG (l : List UInt8) : ∀ p, joinD (dotG p l) = p ++ l := by
  induction l with
  | nil => intro p; show p = p ++ []; rw [List.append_nil]
  | cons c t ih =>
    intro p
    by_cases h : c = 46
    · subst h
      rw [dotG_dot, joinD_cons _ _ (dotG_ne t []), ih []]
      rfl
    · rw [dotG_else _ _ _ h, ih (p ++ [c])]
      simp

theorem join_dots (l : List UInt8) : joinD (dotsL l) = l := join_dotG l []

/-! Addresses are hosts -/

theorem numB_yes (p : List UInt8) (h : numB p = true) : ∃ n : Nat, n ≤ 255 ∧ printL (n : Int) = p := by simpa [numB] using h

theorem print_small (n : Nat) (hn : n ≤ 255) : 1 ≤ (printL (n : Int)).length ∧ (printL (n : Int)).length ≤ 3 ∧ allD (printL (n : Int)) = true := by
  have e : printL (n : Int) = padK n (nd n) := by
    unfold printL
    rw [if_neg (by omega)]
    rfl
  rw [e, padK_len]
  have h1 := (nd_spec n (by omega)).1
  have h2 := nd_le n 3 (by decide) (by omega) (by omega)
  exact ⟨h1, h2, padK_all n _⟩

theorem isD_hostC (c : UInt8) (h : isD c = true) : hostC c = true ∧ c ≠ 45 ∧ lowC c = c ∧ c ≠ 46 := by
  have h' : 48 ≤ c.toNat ∧ c.toNat ≤ 57 := by simpa [isD] using h
  refine ⟨?_, ?_, lowC_not c (by omega), ?_⟩
  · unfold hostC
    rw [decide_eq_true h'.1, decide_eq_true h'.2]
    simp
  · intro e; rw [e] at h'; exact absurd h'.1 (by decide)
  · intro e; rw [e] at h'; exact absurd h'.1 (by decide)

theorem getD_mem {l : List UInt8} {k : Nat} (h : k < l.length) : l.getD k 0 ∈ l := by
  rw [List.getD_eq_getElem?_getD, List.getElem?_eq_getElem h]
  exact List.getElem_mem h

theorem numB_part (p : List UInt8) (h : numB p = true) : partB p = true ∧ p.length ≤ 3 ∧ p.map lowC = p := by
  obtain ⟨n, hn, rfl⟩ := numB_yes p h
  obtain ⟨l1, l2, hd⟩ := print_small n hn
  generalize printL (n : Int) = p at *
  have hall : ∀ c ∈ p, isD c = true := List.all_eq_true.1 hd
  refine ⟨?_, l2, ?_⟩
  · unfold partB
    have a1 := (isD_hostC _ (hall _ (getD_mem (k := 0) (by omega)))).2.1
    have a2 := (isD_hostC _ (hall _ (getD_mem (k := p.length - 1) (by omega)))).2.1
    have a3 : p.all hostC = true := List.all_eq_true.2 fun c hc => (isD_hostC c (hall c hc)).1
    rw [decide_eq_true l1, decide_eq_true (show p.length ≤ 63 by omega), decide_eq_true a1, decide_eq_true a2, a3]
    rfl
  · have : p.map lowC = p.map id := List.map_congr_left fun c hc => (isD_hostC c (hall c hc)).2.2.1
    rw [this, List.map_id]

theorem low_joinD : ∀ l : List (List UInt8), (∀ p ∈ l, p.map lowC = p) → (joinD l).map lowC = joinD l
  | [], _ => rfl
  | [p], h => h p (by simp)
  | p :: q :: r, h => by
    show (p ++ 46 :: joinD (q :: r)).map lowC = p ++ 46 :: joinD (q :: r)
    rw [List.map_append, List.map_cons, h p (by simp), low_joinD (q :: r) (fun x hx => h x (by simp at hx ⊢; exact .inr hx))]
    rfl

theorem joinD_len : ∀ l : List (List UInt8), (∀ p ∈ l, p.length ≤ 3) → (joinD l).length ≤ 4 * l.length
  | [], _ => Nat.le_refl _
  | [p], h => by have := h p (by simp); show p.length ≤ 4; omega
  | p :: q :: r, h => by
    have h1 := h p (by simp)
    have h2 := joinD_len (q :: r) (fun x hx => h x (by simp at hx ⊢; exact .inr hx))
    show (p ++ 46 :: joinD (q :: r)).length ≤ 4 * (p :: q :: r).length
    rw [List.length_append, List.length_cons]
    simp only [List.length_cons] at h2 ⊢
    omega

/-- An address is a host, and has no great letters. -/
theorem ip_host (l : List UInt8) (h : ipB l = true) : l.map lowC = l ∧ hostB l = true := by
  have h' : (dotsL l).length = 4 ∧ (dotsL l).all numB = true := by simpa [ipB] using h
  obtain ⟨h4, hall⟩ := h'
  have hn : ∀ p ∈ dotsL l, numB p = true := List.all_eq_true.1 hall
  have e1 := low_joinD (dotsL l) (fun p hp => (numB_part p (hn p hp)).2.2)
  have e2 := joinD_len (dotsL l) (fun p hp => (numB_part p (hn p hp)).2.1)
  rw [join_dots] at e1 e2
  refine ⟨e1, ?_⟩
  have hne : 1 ≤ l.length := by
    cases l with
    | nil => simp [dotsL, dotG] at h4
    | cons c t => simp
  have hp : (dotsL l).all partB = true := List.all_eq_true.2 fun p hp => (numB_part p (hn p hp)).1
  unfold hostB
  rw [decide_eq_true hne, decide_eq_true (show l.length ≤ 64 by omega), hp]
  rfl

/-! Matching -/

theorem match_self (a : List UInt8) : matchB a a = true := by simp [matchB]

theorem ends_less {a d : List UInt8} (h : endsB a d = true) : d.length < a.length := by
  have h' : (d.length < a.length ∧ a.drop (a.length - d.length) = d) ∧ a.getD (a.length - d.length - 1) 0 = 46 := by simpa [endsB] using h
  exact h'.1.1

theorem match_cases {a d : List UInt8} (h : matchB a d = true) : a = d ∨ (endsB a d = true ∧ ipB a = false) := by simpa [matchB] using h

theorem match_both (a b : List UInt8) (h1 : matchB a b = true) (h2 : matchB b a = true) : a = b := by
  rcases match_cases h1 with h | ⟨h, _⟩
  · exact h
  · rcases match_cases h2 with h' | ⟨h', _⟩
    · exact h'.symm
    · have := ends_less h; have := ends_less h'; omega

theorem tails_ends : ∀ (s d : List UInt8), d ∈ tailsL s ↔ endsB s d = true
  | [], d => by simp [tailsL, endsB]
  | c :: t, d => by
    have ih := tails_ends t d
    have key : endsB (c :: t) d = true ↔ ((c = 46 ∧ d = t) ∨ endsB t d = true) := by
      constructor
      · intro h
        have h' : (d.length < (c :: t).length ∧ (c :: t).drop ((c :: t).length - d.length) = d) ∧ (c :: t).getD ((c :: t).length - d.length - 1) 0 = 46 := by simpa [endsB] using h
        obtain ⟨⟨h1, h2⟩, h3⟩ := h'
        simp only [List.length_cons] at h1 h2 h3
        by_cases e : d.length = t.length
        · rw [e, show t.length + 1 - t.length = 1 by omega] at h2 h3
          exact .inl ⟨h3, h2.symm⟩
        · have e2 : t.length + 1 - d.length = (t.length - d.length - 1 + 1) + 1 := by omega
          have e3 : t.length + 1 - d.length - 1 = (t.length - d.length - 1) + 1 := by omega
          rw [e2, List.drop_succ_cons] at h2
          rw [e3, List.getD_cons_succ] at h3
          refine .inr ?_
          unfold endsB
          rw [decide_eq_true (show d.length < t.length by omega), decide_eq_true h3, show t.length - d.length = t.length - d.length - 1 + 1 by omega, decide_eq_true h2]
          rfl
      · rintro (⟨rfl, rfl⟩ | h)
        · unfold endsB
          have e1 : (46 :: d).length - d.length = 1 := by simp
          rw [e1, decide_eq_true (show d.length < ((46 : UInt8) :: d).length by simp)]
          simp
        · have h' : (d.length < t.length ∧ t.drop (t.length - d.length) = d) ∧ t.getD (t.length - d.length - 1) 0 = 46 := by simpa [endsB] using h
          obtain ⟨⟨h1, h2⟩, h3⟩ := h'
          unfold endsB
          have e2 : (c :: t).length - d.length = (t.length - d.length) + 1 := by simp only [List.length_cons]; omega
          have e3 : (c :: t).length - d.length - 1 = (t.length - d.length - 1) + 1 := by simp only [List.length_cons]; omega
          rw [e3, List.getD_cons_succ, e2, List.drop_succ_cons, decide_eq_true h2, decide_eq_true h3, decide_eq_true (show d.length < (c :: t).length by simp only [List.length_cons]; omega)]
          rfl
    rw [key]
    show d ∈ (if c = 46 then t :: tailsL t else tailsL t) ↔ _
    by_cases h : c = 46
    · rw [if_pos h, List.mem_cons, ih]
      simp [h]
    · rw [if_neg h, ih]
      simp [h]

/-- A host matches just its parents. -/
theorem match_parents (s d : List UInt8) : matchB s d = decide (d ∈ parentsL s) := by
  rw [Bool.eq_iff_iff, decide_eq_true_iff]
  unfold parentsL
  rw [List.mem_cons]
  constructor
  · intro h
    rcases match_cases h with rfl | ⟨h1, h2⟩
    · exact .inl rfl
    · rw [h2, if_neg (by decide)]
      exact .inr ((tails_ends s d).2 h1)
  · rintro (rfl | h)
    · exact match_self _
    · cases hi : ipB s with
      | true => rw [hi, if_pos rfl] at h; cases h
      | false =>
        rw [hi, if_neg (by decide)] at h
        unfold matchB
        rw [(tails_ends s d).1 h, hi]
        simp

theorem tails_trans : ∀ (a b c : List UInt8), b ∈ tailsL a → c ∈ tailsL b → c ∈ tailsL a
  | [], b, c, h, _ => by cases h
  | x :: t, b, c, h, h2 => by
    have h' : b ∈ (if x = 46 then t :: tailsL t else tailsL t) := h
    show c ∈ (if x = 46 then t :: tailsL t else tailsL t)
    by_cases hx : x = 46
    · rw [if_pos hx] at h' ⊢
      rcases List.mem_cons.1 h' with rfl | h'
      · exact List.mem_cons_of_mem _ h2
      · exact List.mem_cons_of_mem _ (tails_trans t b c h' h2)
    · rw [if_neg hx] at h' ⊢
      exact tails_trans t b c h' h2

theorem match_trans (a b c : List UInt8) (h1 : matchB a b = true) (h2 : matchB b c = true) : matchB a c = true := by
  rcases match_cases h1 with rfl | ⟨e1, i1⟩
  · exact h2
  · rcases match_cases h2 with rfl | ⟨e2, _⟩
    · exact h1
    · unfold matchB
      rw [(tails_ends a c).1 (tails_trans a b c ((tails_ends a b).2 e1) ((tails_ends b c).2 e2)), i1]
      simp

/-! A part ahead of a host -/

theorem ends_app (s t : List UInt8) : endsB (s ++ 46 :: t) t = true := by
  unfold endsB
  have e1 : (s ++ 46 :: t).length - t.length = s.length + 1 := by simp; omega
  have e2 : (s ++ 46 :: t).length - t.length - 1 = s.length := by omega
  have e3 : (s ++ 46 :: t).getD s.length 0 = 46 := by
    rw [List.getD_eq_getElem?_getD, List.getElem?_append_right (Nat.le_refl _)]
    simp
  have e4 : (s ++ 46 :: t).drop (s.length + 1) = t := by
    rw [List.drop_append]
    simp
  rw [e2, e3, e1, e4, decide_eq_true (show t.length < (s ++ 46 :: t).length by simp; omega)]
  simp

theorem host_app (s t : List UInt8) (hs : hostB s = true) (ht : hostB t = true) (hl : s.length + t.length < 64) : hostB (s ++ 46 :: t) = true := by
  have hs' : (1 ≤ s.length ∧ s.length ≤ 64) ∧ (dotsL s).all partB = true := by simpa [hostB] using hs
  have ht' : (1 ≤ t.length ∧ t.length ≤ 64) ∧ (dotsL t).all partB = true := by simpa [hostB] using ht
  unfold hostB
  rw [dots_app, List.all_append, hs'.2, ht'.2, decide_eq_true (show 1 ≤ (s ++ 46 :: t).length by simp; omega), decide_eq_true (show (s ++ 46 :: t).length ≤ 64 by simp; omega)]
  rfl

theorem match_app (s t : List UInt8) : matchB (s ++ 46 :: t) t = !ipB (s ++ 46 :: t) := by
  unfold matchB
  rw [ends_app, decide_eq_false (fun h => by have := congrArg List.length h; simp at this; omega)]
  simp

theorem match_not (s t : List UInt8) : matchB t (s ++ 46 :: t) = false := by
  cases h : matchB t (s ++ 46 :: t) with
  | false => rfl
  | true =>
    rcases match_cases h with e | ⟨e, _⟩
    · have := congrArg List.length e; simp at this; omega
    · have := ends_less e; simp at this; omega
end Go.Proofs.YthempdglmhmfeaaDoor
