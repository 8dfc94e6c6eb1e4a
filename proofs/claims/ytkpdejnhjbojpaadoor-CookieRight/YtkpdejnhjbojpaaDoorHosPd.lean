/-
  Package host: ends: a contract.
-/
import Derived.Test.YtkpdejnhjbojpaaDoorHosRq
import Derived.Test.YtkpdejnhjbojpaaDoorBaseSplit
namespace Go.Proofs.YtkpdejnhjbojpaaDoor
open Go.RowKit
set_option linter.unusedVariables false

theorem cut_dots (l : List UInt8) : ∀ p, cutG 46 p l = dotG p l := by
  induction l with
  | nil => intro p; rfl
  | cons b t ih =>
    intro p
    show (if b = 46 then p :: cutG 46 [] t else cutG 46 (p ++ [b]) t) = (if b = 46 then p :: dotG [] t else dotG (p ++ [b]) t)
    rw [ih, ih]

/-- What a text has from each of its parts on. -/
def begL (l : List UInt8) : List (List UInt8) := l :: tailsL l

theorem tails_none (l : List UInt8) (h : (46 : UInt8) ∉ l) : tailsL l = [] := by
  induction l with
  | nil => rfl
  | cons c t ih =>
    show (if c = 46 then _ else _) = _
    rw [if_neg (fun e => h (by rw [e]; simp)), ih (fun e => h (List.mem_cons_of_mem _ e))]

theorem tails_first (a b : List UInt8) (h : (46 : UInt8) ∉ a) : tailsL (a ++ 46 :: b) = b :: tailsL b := by
  induction a with
  | nil =>
    show (if (46 : UInt8) = 46 then _ else _) = _
    rw [if_pos rfl]
  | cons c t ih =>
    show (if c = 46 then _ else tailsL (t ++ 46 :: b)) = _
    rw [if_neg (fun e => h (by rw [e]; simp)), ih (fun e => h (List.mem_cons_of_mem _ e))]

/-- The parts and the places from which on they stand go side by side. -/
theorem begs_step (l : List UInt8) (p : List UInt8) (r : List (List UInt8)) (h : dotsL l = p :: r) :
    p.length ≤ l.length ∧ (r = [] → begL l = [l]) ∧ (r ≠ [] → p.length + 1 ≤ l.length ∧ dotsL (l.drop (p.length + 1)) = r ∧ begL l = l :: begL (l.drop (p.length + 1))) := by
  by_cases hm : (46 : UInt8) ∈ l
  · obtain ⟨a, b, rfl, ha⟩ := List.eq_append_cons_of_mem hm
    have e : dotsL (a ++ 46 :: b) = a :: dotsL b := by
      show dotG [] _ = _
      rw [← cut_dots, cutG_first 46 a b [] ha, cut_dots]
      rfl
    rw [e] at h
    injection h with h1 h2
    subst h1
    have ed : (a ++ 46 :: b).drop (a.length + 1) = b := by
      rw [show a ++ 46 :: b = (a ++ [46]) ++ b by simp, show a.length + 1 = (a ++ [46]).length by simp, List.drop_left]
    refine ⟨by simp, fun hr => ?_, fun _ => ⟨by simp, by rw [ed]; exact h2, ?_⟩⟩
    · rw [hr] at h2
      exact absurd h2 (dotG_ne b [])
    · rw [ed]
      unfold begL
      rw [tails_first a b ha]
  · have e : dotsL l = [l] := by
      show dotG [] _ = _
      rw [← cut_dots, cutG_none 46 l [] hm]
      rfl
    rw [e] at h
    injection h with h1 h2
    subst h1
    refine ⟨Nat.le_refl _, fun _ => ?_, fun hr => absurd h2.symm hr⟩
    unfold begL
    rw [tails_none l hm]

/-- Texts in a block that are written. -/
def TextsAt (w : World) (g : Nat) (l : List ByteArray) : Prop :=
  (∀ j (hj : j < l.length), w.cell? ⟨g, j, none⟩ = some (.string l[j])) ∧ (∀ j, j < l.length → w.frozen? ⟨g, j, none⟩ = false)

theorem TextsAt.set {w : World} {g : Nat} {l : List ByteArray} (h : TextsAt w g l) (k : Nat) (hk : k < l.length) (c : ByteArray) :
    TextsAt (w.setCell ⟨g, k, none⟩ (.string c)) g (l.set k c) := by
  refine ⟨fun j hj => ?_, fun j hj => ?_⟩
  · have hj' : j < l.length := by simpa using hj
    by_cases e : j = k
    · subst e
      rw [World.cell?_setCell_same w _ _ (h.1 j hj')]
      simp
    · rw [World.cell?_setCell_other w _ _ _ (fun h => e (by injection h; omega)), h.1 j hj', List.getElem_set_ne (by omega)]
  · rw [World.frozen?_setCell]
    exact h.2 j (by simpa using hj)

theorem TextsAt.of_owned {w : World} {base g n : Nat} (h : w.ownsRow base 9 1 (.slice (some ⟨g, 0, none⟩) n n) n (madeCells (Value.string .empty).cells (n * 1)).toList) : TextsAt w g (List.replicate n .empty) := by
  refine ⟨fun j hj => ?_, fun j _ => h.frozenAt j⟩
  have hj' : j < n := by simpa using hj
  rw [h.cellAt j (by omega)]
  show (madeCells #[Value.string .empty] (n * 1)).toList[j]? = _
  rw [toList_madeCells_one]
  simp [hj']

theorem TextsAt.strs {w : World} {g : Nat} {l : List ByteArray} (h : TextsAt w g l) (cap : Nat) (hc : l.length ≤ cap) : StrsAt w (.slice (some ⟨g, 0, none⟩) l.length cap) l := by
  refine .inr ⟨⟨g, 0, none⟩, cap, rfl, hc, fun j hj => ?_⟩
  have e : (⟨g, 0, none⟩ : Addr).add j = ⟨g, j, none⟩ := by simp [Addr.add]; omega
  rw [e]
  exact h.1 j hj

/-- The first k of what is wanted, then what was there. -/
theorem set_mix (a b : List ByteArray) (k : Nat) (x : ByteArray) (h : a.length = k) (hb : 0 < b.length) : (a ++ b).set k x = a ++ x :: b.tail := by
  subst h
  rw [List.set_append_right _ _ (Nat.le_refl _), Nat.sub_self]
  cases b with
  | nil => simp at hb
  | cons y t => rfl
end Go.Proofs.YtkpdejnhjbojpaaDoor
