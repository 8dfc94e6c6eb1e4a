/-
  Texts in quotes: plain facts of lists of bytes.
-/
import Derived.Test.YtfpokkpklbkhiaaDoorUtfMath
namespace Go.Proofs.YtfpokkpklbkhiaaDoor
set_option linter.unusedVariables false

/-- The sign of a byte that is written by one; 0: there is none. -/
def shortN (n : Nat) : Nat := if n = 34 then 34 else if n = 92 then 92 else if n = 8 then 98 else if n = 9 then 116 else if n = 10 then 110 else if n = 12 then 102 else if n = 13 then 114 else 0
/-- A hexadecimal digit. -/
def signQ (n : Nat) : Nat := if n < 10 then 48 + n else 87 + n

/-- What a byte is written as. -/
def pieceL (c : UInt8) : List UInt8 :=
  if shortN c.toNat ≠ 0 then [92, UInt8.ofNat (shortN c.toNat)]
  else if c.toNat < 32 then [92, 117, 48, 48, UInt8.ofNat (signQ (c.toNat / 16)), UInt8.ofNat (signQ (c.toNat % 16))]
  else [c]
def innerL (s : List UInt8) : List UInt8 := s.flatMap pieceL
def quoteL (s : List UInt8) : List UInt8 := 34 :: (innerL s ++ [34])

/-- A hexadecimal digit's number. -/
def valQ (n : Nat) : Option Nat := if 48 ≤ n ∧ n ≤ 57 then some (n - 48) else if 97 ≤ n ∧ n ≤ 102 then some (n - 87) else if 65 ≤ n ∧ n ≤ 70 then some (n - 55) else none

/-- Of four digits. -/
def fourQ (a b c d : Nat) : Option Nat := match valQ a, valQ b, valQ c, valQ d with
  | some i, some j, some k, some l => some (16 * (16 * (16 * i + j) + k) + l)
  | _, _, _, _ => none
/-- Of a u, and four digits. -/
def numQ : List UInt8 → Option Nat
  | u :: a :: b :: c :: d :: _ => if u.toNat = 117 then fourQ a.toNat b.toNat c.toNat d.toNat else none
  | _ => none

/-- Which byte a sign behind a backslash stands for. -/
def backN (n : Nat) : Option Nat := if n = 34 ∨ n = 92 ∨ n = 47 then some n else if n = 98 then some 8 else if n = 116 then some 9 else if n = 110 then some 10 else if n = 102 then some 12 else if n = 114 then some 13 else none

/-- Of two numbers. -/
def pairQ (n : Nat) (l : List UInt8) : Option Nat := match l with
  | c :: t => if c.toNat = 92 then (match numQ t with | some m => if 56320 ≤ m ∧ m ≤ 57343 then some (65536 + 1024 * (n - 55296) + (m - 56320)) else none | none => none) else none
  | [] => none

/-- A piece behind a backslash: the letter, and how many bytes the whole piece has. -/
def escQ : List UInt8 → Option (Nat × Nat)
  | [] => none
  | c :: t => match backN c.toNat with
    | some r => some (r, 2)
    | none => match numQ (c :: t) with
      | none => none
      | some n => if 56320 ≤ n ∧ n ≤ 57343 then none else if n < 55296 ∨ 57343 < n then some (n, 6) else (pairQ n (t.drop 4)).map fun r => (r, 12)

/-- A piece: an error, or 0; the bytes that it stands for; how many it has. -/
def pieceQ : List UInt8 → Nat × List UInt8 × Nat
  | [] => (71, [], 0)
  | c :: t =>
    if c.toNat < 32 then (72, [], 0)
    else if c.toNat = 92 then (match escQ t with | some (r, n) => (0, putU r, n) | none => (73, [], 0))
    else if (takeU (c :: t)).2.2 = true then (0, (c :: t).take (takeU (c :: t)).2.1, (takeU (c :: t)).2.1) else (74, [], 0)

/-- The pieces of l, when out is had and at bytes are read. -/
def readF : Nat → List UInt8 → List UInt8 → Nat → Nat × List UInt8 × Nat
  | 0, _, _, _ => (71, [], 0)
  | f + 1, l, out, at_ => if l.head? = some 34 then (0, out, at_ + 1) else
    if (pieceQ l).1 = 0 then readF f (l.drop (pieceQ l).2.2) (out ++ (pieceQ l).2.1) (at_ + (pieceQ l).2.2) else ((pieceQ l).1, [], 0)
def readR (l out : List UInt8) (at_ : Nat) : Nat × List UInt8 × Nat := readF (l.length + 1) l out at_
def readQ (s : List UInt8) : Nat × List UInt8 × Nat := if s.head? = some 34 then readR s.tail [] 1 else (70, [], 0)

theorem valQ_lt (n v : Nat) (h : valQ n = some v) : v < 16 := by
  unfold valQ at h
  split at h
  · cases h; omega
  · split at h
    · cases h; omega
    · split at h
      · cases h; omega
      · cases h

theorem fourQ_lt (a b c d n : Nat) (h : fourQ a b c d = some n) : n < 65536 := by
  unfold fourQ at h
  split at h
  · rename_i i j k l h1 h2 h3 h4
    have := valQ_lt _ _ h1
    have := valQ_lt _ _ h2
    have := valQ_lt _ _ h3
    have := valQ_lt _ _ h4
    cases h
    omega
  · cases h

theorem numQ_yes (l : List UInt8) (n : Nat) (h : numQ l = some n) : n < 65536 ∧ 5 ≤ l.length ∧ ∀ b, numQ (l ++ b) = some n := by
  match l, h with
  | u :: a :: b :: c :: d :: t, h =>
    have h' : (if u.toNat = 117 then fourQ a.toNat b.toNat c.toNat d.toNat else none) = some n := h
    by_cases hu : u.toNat = 117
    · rw [if_pos hu] at h'
      refine ⟨fourQ_lt _ _ _ _ _ h', by simp, fun r => ?_⟩
      show (if u.toNat = 117 then fourQ a.toNat b.toNat c.toNat d.toNat else none) = some n
      rw [if_pos hu]
      exact h'
    · rw [if_neg hu] at h'
      cases h'
  | [], h => cases h
  | [_], h => cases h
  | [_, _], h => cases h
  | [_, _, _], h => cases h
  | [_, _, _, _], h => cases h

theorem pairQ_yes (n : Nat) (l : List UInt8) (r : Nat) (hn : 55296 ≤ n ∧ n ≤ 56319) (h : pairQ n l = some r) : letter r ∧ 65536 ≤ r ∧ 6 ≤ l.length ∧ ∀ b, pairQ n (l ++ b) = some r := by
  cases l with
  | nil => cases h
  | cons c t =>
    unfold pairQ at h
    simp only at h
    split at h
    · rename_i hc
      cases hm : numQ t with
      | none => rw [hm] at h; cases h
      | some m =>
        rw [hm] at h
        simp only at h
        split at h
        · rename_i hr
          obtain ⟨_, h2, h3⟩ := numQ_yes t m hm
          have e := Option.some.inj h
          subst e
          refine ⟨⟨by omega, by omega⟩, by omega, by simp; omega, fun b => ?_⟩
          show (if c.toNat = 92 then (match numQ (t ++ b) with | some m => if 56320 ≤ m ∧ m ≤ 57343 then some (65536 + 1024 * (n - 55296) + (m - 56320)) else none | none => none) else none) = _
          rw [if_pos hc, h3 b]
          simp only
          rw [if_pos hr]
        · cases h
    · cases h

theorem backN_lt (n r : Nat) (h : backN n = some r) : r < 128 := by
  unfold backN at h
  repeat' split at h
  all_goals first | (cases h; omega) | cases h

theorem escQ_yes (l : List UInt8) (r n : Nat) (h : escQ l = some (r, n)) : letter r ∧ 2 ≤ n ∧ n ≤ l.length + 1 ∧ ∀ b, escQ (l ++ b) = some (r, n) := by
  cases l with
  | nil => cases h
  | cons c t =>
    replace h : (match backN c.toNat with | some r => some (r, 2) | none => match numQ (c :: t) with | none => none | some n => if 56320 ≤ n ∧ n ≤ 57343 then none else if n < 55296 ∨ 57343 < n then some (n, 6) else (pairQ n (t.drop 4)).map fun r => (r, 12)) = some (r, n) := h
    cases hb : backN c.toNat with
    | some x =>
      rw [hb] at h
      simp only [Option.some.injEq, Prod.mk.injEq] at h
      obtain ⟨rfl, rfl⟩ := h
      have := backN_lt _ _ hb
      refine ⟨⟨by omega, by omega⟩, by omega, by simp, fun b => ?_⟩
      show (match backN c.toNat with | some r => some (r, 2) | none => _) = _
      rw [hb]
    | none =>
      rw [hb] at h
      simp only at h
      cases hn : numQ (c :: t) with
      | none => rw [hn] at h; cases h
      | some m =>
        rw [hn] at h
        simp only at h
        obtain ⟨h1, h2, h3⟩ := numQ_yes _ _ hn
        have hs : ∀ b, escQ (c :: t ++ b) = if 56320 ≤ m ∧ m ≤ 57343 then none else if m < 55296 ∨ 57343 < m then some (m, 6) else (pairQ m ((t ++ b).drop 4)).map fun r => (r, 12) := by
          intro b
          show (match backN c.toNat with | some r => some (r, 2) | none => match numQ (c :: t ++ b) with | none => none | some n => if 56320 ≤ n ∧ n ≤ 57343 then none else if n < 55296 ∨ 57343 < n then some (n, 6) else (pairQ n ((t ++ b).drop 4)).map fun r => (r, 12)) = _
          rw [hb, h3 b]
        have hl : 4 ≤ t.length := by simp at h2; omega
        split at h
        · cases h
        · rename_i hno
          split at h
          · rename_i hone
            simp only [Option.some.injEq, Prod.mk.injEq] at h
            obtain ⟨rfl, rfl⟩ := h
            refine ⟨⟨by omega, by omega⟩, by omega, by simp; omega, fun b => ?_⟩
            rw [hs b, if_neg hno, if_pos hone]
          · rename_i htwo
            rw [Option.map_eq_some_iff] at h
            obtain ⟨x, hx, he⟩ := h
            simp only [Prod.mk.injEq] at he
            obtain ⟨rfl, rfl⟩ := he
            obtain ⟨p1, p2, p3, p4⟩ := pairQ_yes m (t.drop 4) x (by omega) hx
            rw [List.length_drop] at p3
            refine ⟨p1, by omega, by simp; omega, fun b => ?_⟩
            rw [hs b, if_neg hno, if_neg htwo, List.drop_append_of_le_length hl, p4 b]
            rfl

/-- A piece that is one: a letter's bytes; it does not hang on what is behind it. -/
theorem pieceQ_yes (l : List UInt8) (h : (pieceQ l).1 = 0) : (∃ r, letter r ∧ (pieceQ l).2.1 = putU r) ∧ 1 ≤ (pieceQ l).2.2 ∧ (pieceQ l).2.2 ≤ l.length ∧ ∀ b, pieceQ (l ++ b) = pieceQ l := by
  cases l with
  | nil => cases h
  | cons c t =>
    have hp : ∀ b, pieceQ (c :: t ++ b) = if c.toNat < 32 then (72, [], 0) else if c.toNat = 92 then (match escQ (t ++ b) with | some (r, n) => (0, putU r, n) | none => (73, [], 0)) else if (takeU (c :: t ++ b)).2.2 = true then (0, (c :: t ++ b).take (takeU (c :: t ++ b)).2.1, (takeU (c :: t ++ b)).2.1) else (74, [], 0) := fun b => rfl
    have h0 := hp []
    rw [List.append_nil, List.append_nil] at h0
    rw [h0] at h ⊢
    by_cases h1 : c.toNat < 32
    · rw [if_pos h1] at h; cases h
    · rw [if_neg h1] at h ⊢
      by_cases h2 : c.toNat = 92
      · rw [if_pos h2] at h ⊢
        cases he : escQ t with
        | none => rw [he] at h; cases h
        | some p =>
          obtain ⟨r, n⟩ := p
          obtain ⟨e1, e2, e3, e4⟩ := escQ_yes t r n he
          refine ⟨⟨r, e1, rfl⟩, by show 1 ≤ n; omega, by show n ≤ t.length + 1; exact e3, fun b => ?_⟩
          rw [hp b, if_neg h1, if_pos h2, e4 b]
      · rw [if_neg h2] at h ⊢
        by_cases h3 : (takeU (c :: t)).2.2 = true
        · rw [if_pos h3]
          obtain ⟨r, n, ok, ht⟩ : ∃ r n ok, takeU (c :: t) = (r, n, ok) := ⟨_, _, _, rfl⟩
          rw [ht] at h3
          simp only at h3
          subst h3
          obtain ⟨y1, y2, y3, y4, y5, y6⟩ := takeU_yes _ _ _ ht
          have hs := takeU_split _ _ _ ht
          rw [ht]
          refine ⟨⟨r, y1, y2.symm⟩, y4, y6, fun b => ?_⟩
          have hb : takeU (c :: t ++ b) = (r, n, true) := by
            conv => lhs; rw [hs, List.append_assoc]
            rw [takeU_put r _ y1, ← y3]
          rw [hp b, if_neg h1, if_neg h2, hb, if_pos rfl]
          simp only
          rw [List.take_append_of_le_length y6]
        · rw [if_neg h3] at h; cases h

theorem readF_fuel : ∀ (f g : Nat) (l out : List UInt8) (k : Nat), l.length < f → l.length < g → readF f l out k = readF g l out k
  | 0, _, _, _, _, h, _ => by omega
  | _, 0, _, _, _, _, h => by omega
  | f + 1, g + 1, l, out, k, h1, h2 => by
    show (if l.head? = some 34 then _ else _) = (if l.head? = some 34 then _ else _)
    split
    · rfl
    · split
      · rename_i h0
        obtain ⟨_, p2, p3, _⟩ := pieceQ_yes l h0
        exact readF_fuel f g _ _ _ (by rw [List.length_drop]; omega) (by rw [List.length_drop]; omega)
      · rfl

theorem readR_end (l out : List UInt8) (k : Nat) (h : l.head? = some 34) : readR l out k = (0, out, k + 1) := by
  show (if l.head? = some 34 then _ else _) = _
  rw [if_pos h]
theorem readR_err (l out : List UInt8) (k : Nat) (h : l.head? ≠ some 34) (h0 : (pieceQ l).1 ≠ 0) : readR l out k = ((pieceQ l).1, [], 0) := by
  show (if l.head? = some 34 then _ else _) = _
  rw [if_neg h, if_neg h0]
theorem readR_step (l out : List UInt8) (k : Nat) (h : l.head? ≠ some 34) (h0 : (pieceQ l).1 = 0) : readR l out k = readR (l.drop (pieceQ l).2.2) (out ++ (pieceQ l).2.1) (k + (pieceQ l).2.2) := by
  obtain ⟨_, p2, p3, _⟩ := pieceQ_yes l h0
  show (if l.head? = some 34 then _ else _) = _
  rw [if_neg h, if_pos h0]
  exact readF_fuel _ _ _ _ _ (by rw [List.length_drop]; omega) (by rw [List.length_drop]; omega)

/-- Read, or an error; what is read is valid, and does not hang on what is behind it. -/
theorem readR_cases : ∀ (m : Nat) (l out : List UInt8) (k : Nat), l.length ≤ m →
    (∃ e, e ≠ 0 ∧ readR l out k = (e, [], 0)) ∨ (∃ rs n, letters rs ∧ rs.length ≤ l.length ∧ n ≤ k + l.length ∧ readR l out k = (0, out ++ textU rs, n) ∧ ∀ b, readR (l ++ b) out k = readR l out k)
  | m, l, out, k, hm => by
    by_cases h : l.head? = some 34
    · refine .inr ⟨[], k + 1, (fun r hr => by cases hr), Nat.zero_le _, ?_, ?_, fun b => ?_⟩
      · cases l with
        | nil => cases h
        | cons c t => simp
      · rw [readR_end l out k h]; simp [textU]
      · rw [readR_end l out k h, readR_end (l ++ b) out k]
        cases l with
        | nil => cases h
        | cons c t => exact h
    · by_cases h0 : (pieceQ l).1 = 0
      · obtain ⟨⟨r, hr, hb⟩, p2, p3, p4⟩ := pieceQ_yes l h0
        have hs := readR_step l out k h h0
        have hl : 0 < l.length := by omega
        match m, hm with
        | 0, hm => omega
        | m + 1, hm =>
          have hd : (l.drop (pieceQ l).2.2).length = l.length - (pieceQ l).2.2 := List.length_drop
          rcases readR_cases m (l.drop (pieceQ l).2.2) (out ++ (pieceQ l).2.1) (k + (pieceQ l).2.2) (by omega) with ⟨e, h1, h2⟩ | ⟨rs, n, h1, hq, h2, h3, h4⟩
          · exact .inl ⟨e, h1, by rw [hs, h2]⟩
          · refine .inr ⟨r :: rs, n, ?_, by rw [List.length_cons]; omega, ?_, ?_, fun b => ?_⟩
            · intro x hx
              rcases List.mem_cons.1 hx with rfl | hx
              · exact hr
              · exact h1 x hx
            · omega
            · rw [hs, h3, textU_cons, hb, List.append_assoc]
            · have hh : (l ++ b).head? ≠ some 34 := by
                cases l with
                | nil => simp at hl
                | cons c t => exact h
              have h0' : (pieceQ (l ++ b)).1 = 0 := by rw [p4 b]; exact h0
              rw [readR_step (l ++ b) out k hh h0', p4 b, List.drop_append_of_le_length p3, h4 b, hs]
      · exact .inl ⟨(pieceQ l).1, h0, readR_err l out k h h0⟩
end Go.Proofs.YtfpokkpklbkhiaaDoor
