/-
  Texts, parted at a byte, plain.
-/
import Derived.ProofKit
namespace Go.Proofs.YtkpdejnhjbojpaaDoor
set_option linter.unusedVariables false

/-- What stands between the bytes c, with a part begun. -/
def cutG (c : UInt8) (p : List UInt8) : List UInt8 → List (List UInt8)
  | [] => [p]
  | b :: t => if b = c then p :: cutG c [] t else cutG c (p ++ [b]) t

theorem cutG_none (c : UInt8) (l : List UInt8) : ∀ p, c ∉ l → cutG c p l = [p ++ l] := by
  induction l with
  | nil => intro p _; show [p] = _; rw [List.append_nil]
  | cons b t ih =>
    intro p h
    show (if b = c then _ else _) = _
    rw [if_neg (fun e => h (by rw [e]; simp)), ih _ (fun e => h (List.mem_cons_of_mem _ e))]
    simp

theorem cutG_first (c : UInt8) (a b : List UInt8) : ∀ p, c ∉ a → cutG c p (a ++ c :: b) = (p ++ a) :: cutG c [] b := by
  induction a with
  | nil =>
    intro p _
    show (if c = c then _ else _) = _
    rw [if_pos rfl, List.append_nil]
  | cons x t ih =>
    intro p h
    show (if x = c then _ else cutG c (p ++ [x]) (t ++ c :: b)) = _
    rw [if_neg (fun e => h (by rw [e]; simp)), ih _ (fun e => h (List.mem_cons_of_mem _ e))]
    simp

theorem cutG_hit (c : UInt8) (p t : List UInt8) : cutG c p (c :: t) = p :: cutG c [] t := if_pos rfl
theorem cutG_miss (c : UInt8) (p t : List UInt8) (b : UInt8) (h : b ≠ c) : cutG c p (b :: t) = cutG c (p ++ [b]) t := if_neg h

theorem cutG_app (c : UInt8) : ∀ (a p b : List UInt8), cutG c p (a ++ c :: b) = cutG c p a ++ cutG c [] b
  | [], p, b => by rw [List.nil_append, cutG_hit]; rfl
  | x :: t, p, b => by
    rw [List.cons_append]
    by_cases h : x = c
    · subst h
      rw [cutG_hit, cutG_hit, cutG_app x t [] b]
      rfl
    · rw [cutG_miss _ _ _ _ h, cutG_miss _ _ _ _ h, cutG_app c t (p ++ [x]) b]

theorem cutG_ne (c : UInt8) (l : List UInt8) : ∀ p, cutG c p l ≠ [] := by
  induction l with
  | nil => intro p h; cases h
  | cons b t ih =>
    intro p
    by_cases h : b = c
    · subst h; rw [cutG_hit]; exact fun h => by cases h
    · rw [cutG_miss _ _ _ _ h]; exact ih _

/-- No part has the byte, and none is longer than the text. -/
theorem cutG_mem (c : UInt8) (l : List UInt8) : ∀ p, c ∉ p → ∀ x ∈ cutG c p l, c ∉ x ∧ x.length ≤ p.length + l.length := by
  induction l with
  | nil => intro p hp x hx; rcases List.mem_singleton.1 hx with rfl; exact ⟨hp, Nat.le_refl _⟩
  | cons b t ih =>
    intro p hp x hx
    by_cases h : b = c
    · subst h
      rw [cutG_hit] at hx
      rcases List.mem_cons.1 hx with rfl | hx
      · exact ⟨hp, by simp⟩
      · have := ih [] (by simp) x hx
        exact ⟨this.1, by have := this.2; simp at this ⊢; omega⟩
    · rw [cutG_miss _ _ _ _ h] at hx
      have := ih _ (by simp; exact ⟨hp, fun e => h e.symm⟩) x hx
      exact ⟨this.1, by have := this.2; simp at this ⊢; omega⟩

theorem cutG_len (c : UInt8) (l : List UInt8) : ∀ p, (cutG c p l).length ≤ l.length + 1 := by
  induction l with
  | nil => intro p; exact Nat.le_refl _
  | cons b t ih =>
    intro p
    by_cases h : b = c
    · subst h
      rw [cutG_hit]
      have := ih []
      simp only [List.length_cons]
      omega
    · rw [cutG_miss _ _ _ _ h]
      have := ih (p ++ [b])
      simp only [List.length_cons]
      omega
end Go.Proofs.YtkpdejnhjbojpaaDoor
