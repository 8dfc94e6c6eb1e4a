/-
  Paths and addresses, plain: right paths, the path of a cookie that has none, which path matches which, addresses read and written.
-/
import Derived.Test.YthempdglmhmfeaaDoorHosMath
import Derived.Test.YthempdglmhmfeaaDoorAscMth
namespace Go.Proofs.YthempdglmhmfeaaDoor
set_option linter.unusedVariables false

/-- May a byte stand in a path? -/
def plainC (c : UInt8) : Bool := inSpans plainL (c.toNat : Int)

/-- Is it a right path? -/
def rightB (l : List UInt8) : Bool := decide (1 ≤ l.length) && decide (l.length ≤ 64) && decide (l.getD 0 0 = 47) && l.all plainC

/-- The place of the last slash, from k down. -/
def lastAt (l : List UInt8) : Nat → Nat
  | 0 => 0
  | k + 1 => if l.getD (k + 1) 0 = 47 then k + 1 else lastAt l k

/-- The path of a cookie that has none. -/
def defL (l : List UInt8) : List UInt8 := if l.getD 0 0 = 47 then (if lastAt l (l.length - 1) = 0 then [47] else l.take (lastAt l (l.length - 1))) else [47]

/-- Does r match c? -/
def pmB (r c : List UInt8) : Bool :=
  decide (r = c) || (decide (c.length < r.length) && decide (r.take c.length = c) && ((decide (0 < c.length) && decide (c.getD (c.length - 1) 0 = 47)) || decide (r.getD c.length 0 = 47)))

theorem pm_self (a : List UInt8) : pmB a a = true := by simp [pmB]

/-- r begins with c, and goes on. -/
def Below1 (r c : List UInt8) : Prop := c.length < r.length ∧ r.take c.length = c ∧ ((0 < c.length ∧ c.getD (c.length - 1) 0 = 47) ∨ r.getD c.length 0 = 47)

theorem pm_iff (r c : List UInt8) : pmB r c = true ↔ (r = c ∨ Below1 r c) := by
  unfold pmB Below1
  simp only [Bool.or_eq_true, Bool.and_eq_true, decide_eq_true_eq]
  constructor
  · rintro (h | ⟨⟨h1, h2⟩, h3⟩)
    · exact .inl h
    · exact .inr ⟨h1, h2, h3⟩
  · rintro (h | ⟨h1, h2, h3⟩)
    · exact .inl h
    · exact .inr ⟨⟨h1, h2⟩, h3⟩

theorem pm_prefix (a b : List UInt8) (h : pmB a b = true) : b.length ≤ a.length ∧ a.take b.length = b := by
  rcases (pm_iff a b).1 h with rfl | ⟨h1, h2, _⟩
  · exact ⟨Nat.le_refl _, List.take_length⟩
  · exact ⟨by omega, h2⟩

theorem getD_take (l : List UInt8) (n k : Nat) (h : k < n) : (l.take n).getD k 0 = l.getD k 0 := by
  rw [List.getD_eq_getElem?_getD, List.getD_eq_getElem?_getD, List.getElem?_take_of_lt h]

theorem pm_trans (a b c : List UInt8) (h1 : pmB a b = true) (h2 : pmB b c = true) : pmB a c = true := by
  rcases (pm_iff a b).1 h1 with rfl | ⟨x1, x2, x3⟩
  · exact h2
  rcases (pm_iff b c).1 h2 with rfl | ⟨y1, y2, y3⟩
  · exact h1
  refine (pm_iff a c).2 (.inr ⟨by omega, ?_, ?_⟩)
  · have : a.take c.length = (a.take b.length).take c.length := by rw [List.take_take, Nat.min_eq_left (by omega)]
    rw [this, x2, y2]
  · rcases y3 with y3 | y3
    · exact .inl y3
    · refine .inr ?_
      rw [← getD_take a b.length c.length y1, x2]
      exact y3

/-! The path of a cookie that has none -/

theorem lastAt_le (l : List UInt8) : ∀ k, lastAt l k ≤ k
  | 0 => Nat.le_refl _
  | k + 1 => by
    have := lastAt_le l k
    unfold lastAt
    split <;> omega

theorem lastAt_slash (l : List UInt8) (h : l.getD 0 0 = 47) : ∀ k, l.getD (lastAt l k) 0 = 47
  | 0 => h
  | k + 1 => by
    unfold lastAt
    split
    · assumption
    · exact lastAt_slash l h k

theorem slash_right : rightB [47] = true := by decide

theorem slash_below (s : List UInt8) (h : s.getD 0 0 = 47) : pmB s [47] = true := by
  match s, h with
  | [], h => simp at h
  | c :: t, h =>
    have hc : c = 47 := h
    subst hc
    cases t with
    | nil => exact pm_self _
    | cons d r => exact (pm_iff _ _).2 (.inr ⟨by simp, by simp, .inl ⟨by simp, by simp⟩⟩)

/-- A right path's is right, and the path matches it. -/
theorem def_right (s : List UInt8) (h : rightB s = true) : rightB (defL s) = true ∧ pmB s (defL s) = true := by
  have h' : ((1 ≤ s.length ∧ s.length ≤ 64) ∧ s.getD 0 0 = 47) ∧ s.all plainC = true := by simpa [rightB] using h
  obtain ⟨⟨⟨h1, h2⟩, h3⟩, h4⟩ := h'
  unfold defL
  rw [if_pos h3]
  by_cases hk : lastAt s (s.length - 1) = 0
  · rw [if_pos hk]
    exact ⟨slash_right, slash_below s h3⟩
  · rw [if_neg hk]
    have hle := lastAt_le s (s.length - 1)
    have hsl := lastAt_slash s h3 (s.length - 1)
    obtain ⟨k, hkk⟩ : ∃ k, k = lastAt s (s.length - 1) := ⟨_, rfl⟩
    rw [← hkk] at hle hsl hk ⊢
    have hlen : (s.take k).length = k := by rw [List.length_take]; omega
    constructor
    · unfold rightB
      have a1 : (s.take k).all plainC = true := List.all_eq_true.2 fun c hc => List.all_eq_true.1 h4 c (List.mem_of_mem_take hc)
      rw [hlen, getD_take s k 0 (by omega), h3, a1, decide_eq_true (show 1 ≤ k by omega), decide_eq_true (show k ≤ 64 by omega)]
      rfl
    · refine (pm_iff _ _).2 (.inr ⟨by omega, by rw [hlen], .inr ?_⟩)
      rw [hlen]
      exact hsl

/-! Behind a path -/

theorem pm_slash (a b : List UInt8) : pmB (a ++ 47 :: b) a = true := by
  refine (pm_iff _ _).2 (.inr ⟨by simp, by simp, .inr ?_⟩)
  rw [List.getD_eq_getElem?_getD, List.getElem?_append_right (Nat.le_refl _)]
  simp

theorem pm_slash2 (a b : List UInt8) : pmB (a ++ 47 :: b) (a ++ [47]) = true := by
  cases b with
  | nil => exact pm_self _
  | cons c t =>
    refine (pm_iff _ _).2 (.inr ⟨by simp, ?_, .inl ⟨by simp, ?_⟩⟩)
    · have : a ++ 47 :: c :: t = (a ++ [47]) ++ c :: t := by simp
      rw [this, List.take_left]
    · rw [List.getD_eq_getElem?_getD]
      simp

theorem pm_more (a b : List UInt8) (hb : b ≠ []) : pmB (a ++ b) a = (decide (b.getD 0 0 = 47) || (decide (0 < a.length) && decide (a.getD (a.length - 1) 0 = 47))) := by
  have hl : 0 < b.length := by cases b with | nil => exact absurd rfl hb | cons c t => simp
  have h0 : (a ++ b).getD a.length 0 = b.getD 0 0 := by
    rw [List.getD_eq_getElem?_getD, List.getElem?_append_right (Nat.le_refl _), Nat.sub_self, List.getD_eq_getElem?_getD]
  unfold pmB
  rw [decide_eq_false (fun h => by have := congrArg List.length h; simp at this; exact hb this), List.take_left, h0, decide_eq_true (show a.length < (a ++ b).length by rw [List.length_append]; omega)]
  simp [Bool.or_comm]

/-! Addresses -/

def httpsL : List UInt8 := [104, 116, 116, 112, 115, 58, 47, 47]
def httpL : List UInt8 := [104, 116, 116, 112, 58, 47, 47]

/-- Does a byte end a path? -/
def asksC (c : UInt8) : Bool := decide (c = 63) || decide (c = 35)
/-- Does a byte end a host? -/
def endsC (c : UInt8) : Bool := decide (c = 47) || asksC c

/-- What stands ahead of the first byte of that kind. -/
def untilL (p : UInt8 → Bool) (l : List UInt8) : List UInt8 := l.takeWhile fun c => !p c

/-- An address, or an error's number. -/
structure Ad where
  e : Int
  sec : Bool
  host : List UInt8
  path : List UInt8

def adNo (e : Int) : Ad := ⟨e, false, [], []⟩

/-- What is behind the scheme. -/
def restA (sec : Bool) (r : List UInt8) : Ad :=
  if hostB ((untilL endsC r).map lowC) = true then
    (let p := untilL asksC (r.drop (untilL endsC r).length)
     let q := if p = [] then [47] else p
     if rightB q = true then ⟨0, sec, (untilL endsC r).map lowC, q⟩ else adNo 122)
  else adNo 121

def parseA (l : List UInt8) : Ad :=
  if httpsL.isPrefixOf l = true then restA true (l.drop 8) else if httpL.isPrefixOf l = true then restA false (l.drop 7) else adNo 120

/-- An address as a text. -/
def textA (sec : Bool) (h p : List UInt8) : Option (List UInt8) :=
  if hostB (h.map lowC) = true ∧ h.map lowC = h ∧ rightB p = true ∧ p.any asksC = false then some ((if sec = true then httpsL else httpL) ++ h ++ p) else none

theorem until_app (p : UInt8 → Bool) (c : UInt8) (hc : p c = true) : ∀ (a b : List UInt8), untilL p (a ++ c :: b) = untilL p a
  | [], b => by simp [untilL, hc]
  | x :: t, b => by
    have ih := until_app p c hc t b
    unfold untilL at ih ⊢
    rw [List.cons_append]
    by_cases hx : p x = true
    · simp [hx]
    · have hx' : p x = false := by simpa using hx
      simp [hx', ih]

theorem until_len (p : UInt8 → Bool) (l : List UInt8) : (untilL p l).length ≤ l.length := by
  unfold untilL
  exact (List.takeWhile_sublist _).length_le

theorem prefix_app (c : UInt8) : ∀ (p s b : List UInt8), (p.contains c) = false → p.isPrefixOf (s ++ c :: b) = p.isPrefixOf s
  | [], s, b, _ => by simp [List.isPrefixOf]
  | x :: t, [], b, h => by
    have h' : c ≠ x ∧ t.contains c = false := by
      simp only [List.contains_cons, Bool.or_eq_false_iff, beq_eq_false_iff_ne] at h
      exact h
    show (x == c && t.isPrefixOf b) = false
    have : (x == c) = false := beq_eq_false_iff_ne.2 (fun e => h'.1 e.symm)
    rw [this]
    rfl
  | x :: t, y :: s, b, h => by
    have h' : t.contains c = false := by
      simp only [List.contains_cons, Bool.or_eq_false_iff] at h
      exact h.2
    show (x == y && t.isPrefixOf (s ++ c :: b)) = (x == y && t.isPrefixOf s)
    rw [prefix_app c t s b h']

theorem prefix_len : ∀ (p l : List UInt8), p.isPrefixOf l = true → p.length ≤ l.length
  | [], _, _ => Nat.zero_le _
  | x :: t, [], h => by cases h
  | x :: t, y :: s, h => by
    have h' : (x == y && t.isPrefixOf s) = true := h
    rw [Bool.and_eq_true] at h'
    have := prefix_len t s h'.2
    simpa using this

theorem restA_app (sec : Bool) (r b : List UInt8) (c : UInt8) (hc : asksC c = true) : restA sec (r ++ c :: b) = restA sec r := by
  have he : endsC c = true := by unfold endsC; rw [hc, Bool.or_true]
  unfold restA
  rw [until_app endsC c he, List.drop_append_of_le_length (until_len endsC r), until_app asksC c hc]

/-- What is behind an address's path is of no account. -/
theorem parse_app (s b : List UInt8) (c : UInt8) (hc : asksC c = true) (h1 : httpsL.contains c = false) (h2 : httpL.contains c = false) : parseA (s ++ c :: b) = parseA s := by
  unfold parseA
  rw [prefix_app c httpsL s b h1, prefix_app c httpL s b h2]
  by_cases x1 : httpsL.isPrefixOf s = true
  · have := prefix_len _ _ x1
    rw [if_pos x1, if_pos x1, List.drop_append_of_le_length (show 8 ≤ s.length from this), restA_app _ _ _ _ hc]
  · rw [if_neg x1, if_neg x1]
    by_cases x2 : httpL.isPrefixOf s = true
    · have := prefix_len _ _ x2
      rw [if_pos x2, if_pos x2, List.drop_append_of_le_length (show 7 ≤ s.length from this), restA_app _ _ _ _ hc]
    · rw [if_neg x2, if_neg x2]

theorem until_all (p : UInt8 → Bool) : ∀ (a : List UInt8), a.any p = false → untilL p a = a
  | [], _ => rfl
  | x :: t, h => by
    have h' : p x = false ∧ t.any p = false := by simpa using h
    have ih := until_all p t h'.2
    unfold untilL at ih ⊢
    simp [h'.1, ih]

/-- A host has no byte that ends it. -/
theorem dotG_bytes (l : List UInt8) : ∀ p, ∀ c ∈ l, c = 46 ∨ ∃ x ∈ dotG p l, c ∈ x := by
  induction l with
  | nil => intro p c h; cases h
  | cons d t ih =>
    intro p c hc
    by_cases h : d = 46
    · subst h
      rw [dotG_dot]
      rcases List.mem_cons.1 hc with rfl | hc
      · exact .inl rfl
      · rcases ih [] c hc with e | ⟨x, hx, hcx⟩
        · exact .inl e
        · exact .inr ⟨x, List.mem_cons_of_mem _ hx, hcx⟩
    · rw [dotG_else _ _ _ h]
      rcases List.mem_cons.1 hc with rfl | hc
      · have key : ∀ (m q : List UInt8), ∃ x ∈ dotG q m, ∀ z ∈ q, z ∈ x := by
          intro m
          induction m with
          | nil => intro q; exact ⟨q, by simp [dotG], fun z hz => hz⟩
          | cons e r ihm =>
            intro q
            by_cases he : e = 46
            · subst he
              rw [dotG_dot]
              exact ⟨q, by simp, fun z hz => hz⟩
            · rw [dotG_else _ _ _ he]
              obtain ⟨x, hx, hz⟩ := ihm (q ++ [e])
              exact ⟨x, hx, fun z hzq => hz z (by simp [hzq])⟩
        obtain ⟨x, hx, hz⟩ := key t (p ++ [c])
        exact .inr ⟨x, hx, hz c (by simp)⟩
      · exact ih _ c hc

theorem host_bytes (l : List UInt8) (h : hostB l = true) : ∀ c ∈ l, c = 46 ∨ hostC c = true := by
  have h' : (1 ≤ l.length ∧ l.length ≤ 64) ∧ (dotsL l).all partB = true := by simpa [hostB] using h
  intro c hc
  rcases dotG_bytes l [] c hc with e | ⟨x, hx, hcx⟩
  · exact .inl e
  · have hp := List.all_eq_true.1 h'.2 x hx
    have hp' : (((1 ≤ x.length ∧ x.length ≤ 63) ∧ ¬ x.getD 0 0 = 45) ∧ ¬ x.getD (x.length - 1) 0 = 45) ∧ x.all hostC = true := by simpa [partB] using hp
    exact .inr (List.all_eq_true.1 hp'.2 c hcx)

theorem hostC_ends (c : UInt8) (h : c = 46 ∨ hostC c = true) : endsC c = false := by
  have hb : ∀ c : UInt8, (!(decide (c = 46) || hostC c) || !endsC c) = true := by
    intro c
    have : ∀ n : Nat, n < 256 → (!(decide (UInt8.ofNat n = 46) || hostC (UInt8.ofNat n)) || !endsC (UInt8.ofNat n)) = true := by decide +kernel
    have := this c.toNat (by have := c.toNat_lt; omega)
    simpa using this
  have := hb c
  rcases h with rfl | h
  · decide
  · rw [h] at this
    simpa using this

/-- An address as a text is read as it was. -/
theorem parse_text (sec : Bool) (h p t : List UInt8) (ht : textA sec h p = some t) : parseA t = ⟨0, sec, h, p⟩ := by
  unfold textA at ht
  split at ht
  · rename_i hc
    obtain ⟨h1, h2, h3, h4⟩ := hc
    injection ht with ht
    have hp : ((1 ≤ p.length ∧ p.length ≤ 64) ∧ p.getD 0 0 = 47) ∧ p.all plainC = true := by simpa [rightB] using h3
    have hu1 : untilL endsC (h ++ p) = h := by
      match p, hp.1.2 with
      | c :: r, hcc =>
        have : c = 47 := hcc
        subst this
        rw [until_app endsC 47 (by decide), until_all]
        rw [List.any_eq_false]
        intro x hx
        rw [hostC_ends x (host_bytes h (h2 ▸ h1) x hx)]
        decide
      | [], hcc => simp at hcc
    have hu2 : untilL asksC p = p := until_all asksC p h4
    have hne : p ≠ [] := fun e => by rw [e] at hp; simp at hp
    have key : restA sec (h ++ p) = ⟨0, sec, h, p⟩ := by
      unfold restA
      rw [hu1, if_pos h1, List.drop_left, hu2]
      simp only [if_neg hne]
      rw [if_pos h3, h2]
    cases sec
    · rw [if_neg (by decide)] at ht
      subst ht
      have e1 : httpsL.isPrefixOf (httpL ++ h ++ p) = false := by rfl
      have e2 : httpL.isPrefixOf (httpL ++ h ++ p) = true := by
        rw [List.append_assoc]
        simp [httpL, List.isPrefixOf]
      unfold parseA
      rw [e1, if_neg (by decide), e2, if_pos rfl]
      exact key
    · rw [if_pos rfl] at ht
      subst ht
      have e1 : httpsL.isPrefixOf (httpsL ++ h ++ p) = true := by
        rw [List.append_assoc]
        simp [httpsL, List.isPrefixOf]
      unfold parseA
      rw [e1, if_pos rfl]
      exact key
  · cases ht
end Go.Proofs.YthempdglmhmfeaaDoor
