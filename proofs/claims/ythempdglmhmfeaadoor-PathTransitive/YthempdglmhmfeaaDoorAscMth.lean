/-
  Bytes of texts, plain: spans, the first byte that is asked for, trimming.
-/
import Derived.Test.YthempdglmhmfeaaDoorBase
import Derived.Test.YthempdglmhmfeaaDoorAscLowM
namespace Go.Proofs.YthempdglmhmfeaaDoor
open Go.RowKit
set_option linter.unusedVariables false

/-- Is a byte in one of the spans? -/
def inSpans (L : List (Int × Int)) (c : Int) : Bool := L.any fun p => decide (p.1 ≤ c) && decide (c ≤ p.2)

theorem inSpans_snoc (L : List (Int × Int)) (c : Int) (k : Nat) (h : k < L.length) :
    inSpans (L.take (k + 1)) c = (inSpans (L.take k) c || (decide ((L.getD k (0, 0)).1 ≤ c) && decide (c ≤ (L.getD k (0, 0)).2))) := by
  unfold inSpans
  rw [List.take_succ_eq_append_getElem h, List.any_append]
  simp [List.getD_eq_getElem?_getD, List.getElem?_eq_getElem h]

theorem inSpans_hit (L : List (Int × Int)) (c : Int) (k : Nat) (h : k < L.length) (h1 : (L.getD k (0, 0)).1 ≤ c) (h2 : c ≤ (L.getD k (0, 0)).2) : inSpans L c = true := by
  unfold inSpans
  rw [List.any_eq_true]
  refine ⟨L[k], List.getElem_mem h, ?_⟩
  simp [List.getD_eq_getElem?_getD, List.getElem?_eq_getElem h] at h1 h2
  simp [h1, h2]

/-- Spans are laid, a closure is made over them, and all is asked: from where the spans' row has been laid. -/
def plainL : List (Int × Int) := [(33, 58), (60, 126)]

def octL : List (Int × Int) := [(33, 33), (35, 43), (45, 58), (60, 91), (93, 126)]

def tokL : List (Int × Int) := [(65, 90), (97, 122), (48, 57), (33, 33), (35, 39), (42, 43), (45, 46), (94, 96), (124, 124), (126, 126)]

def blankL : List (Int × Int) := [(9, 9), (32, 32)]

def upL : List (Int × Int) := [(65, 90)]

theorem upL_iff (c : Int) : inSpans upL c = (decide (65 ≤ c) && decide (c ≤ 90)) := by simp [inSpans, upL]

/-- The place of the first byte that is asked for, or the length. -/
def firstAt (p : Int → Bool) : List UInt8 → Nat
  | [] => 0
  | c :: r => if p c.toNat then 0 else firstAt p r + 1

theorem firstAt_miss (p : Int → Bool) : ∀ (l : List UInt8) (k : Nat) (hk : k < l.length), firstAt p (l.take k) = k → p (l[k].toNat : Int) = false → firstAt p (l.take (k + 1)) = k + 1
  | [], k, hk, _, _ => by simp at hk
  | c :: r, 0, hk, _, h2 => by simp at h2; simp [firstAt, h2]
  | c :: r, k + 1, hk, h1, h2 => by
    simp only [List.take_succ_cons, firstAt] at h1 ⊢
    cases hc : p (c.toNat : Int)
    · simp only [hc, Bool.false_eq_true, if_false] at h1 ⊢
      rw [firstAt_miss p r k (by simpa using hk) (by omega) (by simpa using h2)]
    · simp [hc] at h1

theorem firstAt_hit (p : Int → Bool) : ∀ (l : List UInt8) (k : Nat) (hk : k < l.length), firstAt p (l.take k) = k → p (l[k].toNat : Int) = true → firstAt p l = k
  | [], k, hk, _, _ => by simp at hk
  | c :: r, 0, hk, _, h2 => by simp at h2; simp [firstAt, h2]
  | c :: r, k + 1, hk, h1, h2 => by
    simp only [List.take_succ_cons, firstAt] at h1 ⊢
    cases hc : p (c.toNat : Int)
    · simp only [hc, Bool.false_eq_true, if_false] at h1 ⊢
      rw [firstAt_hit p r k (by simpa using hk) (by omega) (by simpa using h2)]
    · simp [hc] at h1

theorem firstAt_le (p : Int → Bool) : ∀ (l : List UInt8), firstAt p l ≤ l.length
  | [] => by simp [firstAt]
  | c :: r => by
    have := firstAt_le p r
    unfold firstAt
    split <;> simp; omega

theorem firstAt_all (p : Int → Bool) : ∀ l : List UInt8, ((firstAt (fun c => !p c) l : Int) == (l.length : Int)) = l.all fun c => p (c.toNat : Int)
  | [] => by simp [firstAt]
  | c :: r => by
    have ih := firstAt_all p r
    have hl := firstAt_le (fun c => !p c) r
    cases hc : p (c.toNat : Int)
    · simp [firstAt, hc]; omega
    · simp only [firstAt, hc, List.all_cons, Bool.true_and, ← ih]
      rw [Bool.eq_iff_iff]
      simp

/-- Is every byte so? -/
def allB (p : Int → Bool) (s : ByteArray) : Bool := s.data.toList.all fun c => p (c.toNat : Int)

/-- Has s a byte, and is each one of a token's? -/
def tokenB (s : ByteArray) : Bool := !s.toList.isEmpty && allB (inSpans tokL) s

/-- Where the kept bytes begin and end, of the first k bytes. -/
def trimSt (p : Int → Bool) (l : List UInt8) : Nat → Nat × Nat
  | 0 => (0, 0)
  | k + 1 => if p ((l.getD k 0).toNat : Int) then trimSt p l k else (if (trimSt p l k).2 = 0 then k else (trimSt p l k).1, k + 1)

theorem trimSt_le (p : Int → Bool) (l : List UInt8) : ∀ k, (trimSt p l k).1 ≤ (trimSt p l k).2 ∧ (trimSt p l k).2 ≤ k
  | 0 => by simp [trimSt]
  | k + 1 => by
    have ih := trimSt_le p l k
    unfold trimSt
    split
    · omega
    · simp only
      split <;> omega

theorem bgetD (s : ByteArray) (k : Nat) (h : k < s.size) : s.data.toList.getD k 0 = s[k] := by
  rw [← bget s k h, List.getD_eq_getElem?_getD, List.getElem?_eq_getElem (by simpa using h)]
  rfl

def trimB (s : ByteArray) : ByteArray := s.extract (trimSt (inSpans blankL) s.data.toList s.size).1 (trimSt (inSpans blankL) s.data.toList s.size).2

def bl (c : UInt8) : Bool := inSpans blankL (c.toNat : Int)

/-- A list without the blanks at both its ends. -/
def trimL (l : List UInt8) : List UInt8 := ((l.dropWhile bl).reverse.dropWhile bl).reverse

theorem drop_pre : ∀ (a x : List UInt8), a.all bl = true → (a ++ x).dropWhile bl = x.dropWhile bl
  | [], x, _ => rfl
  | c :: a, x, h => by
    simp only [List.all_cons, Bool.and_eq_true] at h
    rw [List.cons_append, List.dropWhile_cons_of_pos h.1]
    exact drop_pre a x h.2

theorem drop_all (a : List UInt8) (h : a.all bl = true) : a.dropWhile bl = [] := by
  have := drop_pre a [] h
  simpa using this

/-- t is what is left of l without the blanks at its ends. -/
def Trimmed (l t : List UInt8) : Prop := ∃ a z, l = a ++ t ++ z ∧ a.all bl = true ∧ z.all bl = true ∧ (t = [] ∨ ((∃ c r, t = c :: r ∧ bl c = false) ∧ ∃ c r, t = r ++ [c] ∧ bl c = false))

theorem Trimmed.eq {l t : List UInt8} (h : Trimmed l t) : t = trimL l := by
  obtain ⟨a, z, rfl, ha, hz, ht⟩ := h
  unfold trimL
  rw [List.append_assoc, drop_pre a _ ha]
  rcases ht with rfl | ⟨⟨c, r, hc, hcb⟩, c2, r2, hc2, hcb2⟩
  · simp [drop_all z hz]
  · have e1 : (t ++ z).dropWhile bl = t ++ z := by rw [hc, List.cons_append, List.dropWhile_cons_of_neg (by simp [hcb])]
    rw [e1, List.reverse_append, drop_pre z.reverse _ (by simpa using hz)]
    have e2 : t.reverse.dropWhile bl = t.reverse := by rw [hc2]; simp [hcb2]
    rw [e2, List.reverse_reverse]

theorem trimL_trimmed (l : List UInt8) : Trimmed l (trimL l) := by
  unfold trimL
  have h1 := List.takeWhile_append_dropWhile (p := bl) (l := l)
  have h2 := List.takeWhile_append_dropWhile (p := bl) (l := (l.dropWhile bl).reverse)
  have a1 : (l.takeWhile bl).all bl = true := List.all_takeWhile
  have a2 : ((l.dropWhile bl).reverse.takeWhile bl).reverse.all bl = true := by
    rw [List.all_reverse]; exact List.all_takeWhile
  refine ⟨l.takeWhile bl, ((l.dropWhile bl).reverse.takeWhile bl).reverse, ?_, a1, a2, ?_⟩
  · rw [List.append_assoc, ← List.reverse_append, h2, List.reverse_reverse, h1]
  · generalize hd : (l.dropWhile bl) = d at *
    generalize ht : d.reverse.dropWhile bl = r at *
    cases hr : r with
    | nil => left; simp
    | cons c r' =>
      right
      have hc : bl c = false := by
        have := List.head?_dropWhile_not bl d.reverse
        rw [ht, hr] at this
        simpa using this
      refine ⟨?_, c, r'.reverse, by simp, hc⟩
      subst hr
      have hrev : d = (c :: r').reverse ++ (d.reverse.takeWhile bl).reverse := by
        rw [← List.reverse_append, h2, List.reverse_reverse]
      cases hcr : (c :: r').reverse with
      | nil => simp at hcr
      | cons x y =>
        rw [hcr] at hrev
        have := List.head?_dropWhile_not bl l
        rw [hd, hrev] at this
        exact ⟨x, y, rfl, by simpa using this⟩

theorem trimL_idem (l : List UInt8) : trimL (trimL l) = trimL l := by
  refine (Trimmed.eq ?_).symm
  obtain ⟨a, z, _, _, _, h⟩ := trimL_trimmed l
  exact ⟨[], [], by simp, rfl, rfl, h⟩

theorem trimL_more (l x y : List UInt8) (hx : x.all bl = true) (hy : y.all bl = true) : trimL (x ++ l ++ y) = trimL l := by
  refine (Trimmed.eq ?_).symm
  obtain ⟨a, z, e, ha, hz, h⟩ := trimL_trimmed l
  refine ⟨x ++ a, z ++ y, ?_, by simp [hx, ha], by simp [hz, hy], h⟩
  conv => lhs; rw [e]
  simp [List.append_assoc]

/-! ### What the program's own places are -/

def TInv (l : List UInt8) (k b e : Nat) : Prop :=
  (b = 0 ∧ e = 0 ∧ ∀ j, j < k → bl (l.getD j 0) = true) ∨
  (b < e ∧ e ≤ k ∧ (∀ j, j < b → bl (l.getD j 0) = true) ∧ bl (l.getD b 0) = false ∧ bl (l.getD (e - 1) 0) = false ∧ ∀ j, e ≤ j → j < k → bl (l.getD j 0) = true)

theorem trimSt_inv (l : List UInt8) : ∀ k, TInv l k (trimSt (inSpans blankL) l k).1 (trimSt (inSpans blankL) l k).2
  | 0 => .inl ⟨rfl, rfl, fun j hj => by omega⟩
  | k + 1 => by
    have ih := trimSt_inv l k
    unfold trimSt
    generalize trimSt (inSpans blankL) l k = st at *
    obtain ⟨b, e⟩ := st
    simp only at ih ⊢
    by_cases hb : inSpans blankL ((l.getD k 0).toNat : Int) = true
    · rw [if_pos hb]
      simp only
      rcases ih with ⟨h1, h2, h3⟩ | ⟨h1, h2, h3, h4, h5, h6⟩
      · exact .inl ⟨h1, h2, fun j hj => by
          by_cases e : j = k
          · subst e; exact hb
          · exact h3 j (by omega)⟩
      · exact .inr ⟨h1, by omega, h3, h4, h5, fun j hj hk => by
          by_cases e : j = k
          · subst e; exact hb
          · exact h6 j hj (by omega)⟩
    · rw [if_neg hb]
      have hb' : bl (l.getD k 0) = false := by unfold bl; simpa using hb
      simp only
      rcases ih with ⟨h1, h2, h3⟩ | ⟨h1, h2, h3, h4, h5, h6⟩
      · rw [if_pos h2]
        exact .inr ⟨by omega, by omega, h3, hb', by simpa using hb', fun j hj hk => by omega⟩
      · rw [if_neg (by omega)]
        exact .inr ⟨by omega, by omega, h3, h4, by simpa using hb', fun j hj hk => by omega⟩

theorem all_of_getD (l : List UInt8) (h : ∀ j, j < l.length → bl (l.getD j 0) = true) : l.all bl = true := by
  rw [List.all_eq_true]
  intro x hx
  obtain ⟨j, hj, rfl⟩ := List.getElem_of_mem hx
  have := h j hj
  rwa [List.getD_eq_getElem?_getD, List.getElem?_eq_getElem hj] at this

theorem TInv.trimmed {l : List UInt8} {b e : Nat} (h : TInv l l.length b e) : Trimmed l ((l.drop b).take (e - b)) := by
  rcases h with ⟨rfl, rfl, h⟩ | ⟨h1, h2, h3, h4, h5, h6⟩
  · exact ⟨l, [], by simp, all_of_getD l h, rfl, .inl (by simp)⟩
  · have hlen : ((l.drop b).take (e - b)).length = e - b := by simp; omega
    refine ⟨l.take b, l.drop e, ?_, ?_, ?_, .inr ⟨?_, ?_⟩⟩
    · have e1 : (l.drop b).take (e - b) ++ l.drop e = l.drop b := by
        have : l.drop e = (l.drop b).drop (e - b) := by rw [List.drop_drop]; congr 1; omega
        rw [this, List.take_append_drop]
      rw [List.append_assoc, e1, List.take_append_drop]
    · apply all_of_getD
      intro j hj
      have hj' : j < b := by simp at hj; omega
      have := h3 j hj'
      rw [List.getD_eq_getElem?_getD] at this ⊢
      rwa [List.getElem?_take_of_lt hj']
    · apply all_of_getD
      intro j hj
      have hj' : e + j < l.length := by simp at hj; omega
      have := h6 (e + j) (by omega) hj'
      rw [List.getD_eq_getElem?_getD] at this ⊢
      rwa [List.getElem?_drop]
    · have hb : b < l.length := by omega
      refine ⟨l[b], (l.drop (b + 1)).take (e - b - 1), ?_, ?_⟩
      · rw [List.drop_eq_getElem_cons hb]
        have : e - b = (e - b - 1) + 1 := by omega
        rw [this, List.take_succ_cons]
        simp
      · rwa [List.getD_eq_getElem?_getD, List.getElem?_eq_getElem hb] at h4
    · have he : e - 1 < l.length := by omega
      refine ⟨l[e - 1], (l.drop b).take (e - b - 1), ?_, ?_⟩
      · have e1 : e - b = (e - b - 1) + 1 := by omega
        have hx : e - b - 1 < (l.drop b).length := by simp; omega
        conv => lhs; rw [e1, List.take_succ_eq_append_getElem hx]
        congr 2
        rw [List.getElem_drop]
        congr 1
        omega
      · rwa [List.getD_eq_getElem?_getD, List.getElem?_eq_getElem he] at h5

theorem trimB_list (s : ByteArray) : (trimB s).data.toList = trimL s.data.toList := by
  unfold trimB
  rw [extract_list]
  refine Trimmed.eq (TInv.trimmed ?_)
  have := trimSt_inv s.data.toList s.data.toList.length
  have e : s.data.toList.length = s.size := by simp
  rw [e] at this ⊢
  exact this

theorem allB_no (p : Int → Bool) (s : ByteArray) (k : Nat) (hk : k < s.size) (h1 : firstAt (fun c => !p c) (s.data.toList.take k) = k) (h2 : p (s[k].toNat : Int) = false) : allB p s = false := by
  have h := firstAt_hit (fun c => !p c) s.data.toList k (by simpa using hk) h1 (by rw [bget s k hk]; simpa using h2)
  unfold allB
  rw [← firstAt_all, h]
  have : s.data.toList.length = s.size := by simp
  rw [this]
  simp
  omega

theorem allB_yes (p : Int → Bool) (s : ByteArray) (h1 : firstAt (fun c => !p c) (s.data.toList.take s.size) = s.size) : allB p s = true := by
  have e : s.data.toList.length = s.size := by simp
  rw [List.take_of_length_le (by omega)] at h1
  unfold allB
  rw [← firstAt_all, h1, e]
  simp

theorem allB_step (p : Int → Bool) (s : ByteArray) (k : Nat) (hk : k < s.size) (h1 : firstAt (fun c => !p c) (s.data.toList.take k) = k) (h2 : p (s[k].toNat : Int) = true) : firstAt (fun c => !p c) (s.data.toList.take (k + 1)) = k + 1 :=
  firstAt_miss (fun c => !p c) s.data.toList k (by simpa using hk) h1 (by rw [bget s k hk]; simpa using h2)
end Go.Proofs.YthempdglmhmfeaaDoor
