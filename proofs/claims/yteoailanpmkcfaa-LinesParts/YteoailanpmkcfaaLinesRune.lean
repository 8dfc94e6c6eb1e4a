/-
  Which bytes of a text end a field, letter by letter: plain facts.
-/
import Derived.Test.YteoailanpmkcfaaUtfMath
import Derived.Test.YteoailanpmkcfaaBase
import Derived.Test.YteoailanpmkcfaaLinesMath
import Derived.Lib.IndexAny
import Derived.Laws.RangeString
namespace Go.Proofs.Yteoailanpmkcfaa
open Go.RowKit
set_option linter.unusedVariables false

/-- A byte that ends a field. -/
def cutB (c : UInt8) : Bool := [9, 10, 13].contains c

theorem okField_cut (l : List UInt8) : okField l = !(l.any cutB) := by
  unfold okField
  induction l with
  | nil => rfl
  | cons c t ih =>
    have e : cutB c = ((9 == c) || (10 == c) || (13 == c)) := by
      unfold cutB
      simp only [List.contains_cons, List.contains_nil, Bool.or_false]
      rw [Bool.beq_comm (a := c) (b := 9), Bool.beq_comm (a := c) (b := 10), Bool.beq_comm (a := c) (b := 13), Bool.or_assoc]
    simp only [List.contains_cons, List.any_cons, e, Bool.not_or] at ih ⊢
    rw [← ih]
    cases (9 == c) <;> cases (10 == c) <;> cases (13 == c) <;> simp

theorem cut_high (c : UInt8) (h : 128 ≤ c.toNat) : cutB c = false := by
  unfold cutB
  simp only [List.contains_cons, List.contains_nil, Bool.or_false, Bool.or_eq_false_iff, beq_eq_false_iff_ne]
  refine ⟨?_, ?_, ?_⟩
  all_goals
    intro e
    rw [e] at h
    exact absurd h (by decide)

theorem putU_high (r : Nat) (h : 128 ≤ r) (hr : letter r) : ∀ c ∈ putU r, 128 ≤ c.toNat := by
  have h1 := hr.1
  intro c hc
  unfold putU at hc
  rw [if_neg (by omega)] at hc
  split at hc
  · simp only [List.mem_cons, List.not_mem_nil, or_false] at hc
    rcases hc with rfl | rfl
    · rw [u8n _ (by omega)]; omega
    · rw [u8n _ (by omega)]; omega
  · split at hc
    · simp only [List.mem_cons, List.not_mem_nil, or_false] at hc
      rcases hc with rfl | rfl | rfl
      · rw [u8n _ (by omega)]; omega
      · rw [u8n _ (by omega)]; omega
      · rw [u8n _ (by omega)]; omega
    · simp only [List.mem_cons, List.not_mem_nil, or_false] at hc
      rcases hc with rfl | rfl | rfl | rfl
      · rw [u8n _ (by omega)]; omega
      · rw [u8n _ (by omega)]; omega
      · rw [u8n _ (by omega)]; omega
      · rw [u8n _ (by omega)]; omega

theorem drop_cons' (s : ByteArray) (k : Nat) (h : k < s.size) : s.data.toList.drop k = s[k] :: s.data.toList.drop (k + 1) := drop_cons s k h

/-- The next letter: a byte below 128, or bytes that end no field. -/
theorem letter_step (s : ByteArray) (p r n : Nat) (hp : p < s.size) (h : Utf8.decode s p = (r, n)) :
    letter r ∧ ((r < 128 ∧ s[p].toNat = r ∧ n = 1) ∨ (128 ≤ r ∧ 1 ≤ n ∧ p + n ≤ s.size ∧ ∀ c ∈ (s.data.toList.drop p).take n, 128 ≤ c.toNat)) := by
  by_cases ha : s[p].toNat < 128
  · rw [decode_ascii s p hp ha] at h
    obtain ⟨rfl, rfl⟩ := Prod.mk.inj h
    exact ⟨⟨by omega, by omega⟩, .inl ⟨ha, rfl, rfl⟩⟩
  · rcases decode_good s p r n hp h with ⟨rfl, rfl⟩ | ⟨hr, b, hb⟩
    · refine ⟨by decide, .inr ⟨by decide, by decide, by omega, ?_⟩⟩
      intro c hc
      rw [drop_cons s p hp] at hc
      simp at hc
      rw [hc]
      omega
    · have hd := decode_put s p r b hr hb
      rw [h] at hd
      obtain ⟨_, rfl⟩ := Prod.mk.inj hd
      have hl := congrArg List.length hb
      rw [List.length_drop, list_len, List.length_append] at hl
      have hl1 := (putU_len r).1
      have h128 : 128 ≤ r := by
        rcases Nat.lt_or_ge r 128 with hlt | hge
        · exfalso
          unfold putU at hb
          rw [if_pos hlt, drop_cons s p hp] at hb
          have : s[p] = UInt8.ofNat r := (List.cons.inj hb).1
          rw [this, u8n _ (by omega)] at ha
          exact ha hlt
        · exact hge
      refine ⟨hr, .inr ⟨h128, hl1, by omega, ?_⟩⟩
      rw [hb, List.take_left]
      exact putU_high r h128 hr

/-- No byte up to p ends a field. -/
def NoCut (s : ByteArray) (p : Nat) : Prop := (s.data.toList.take p).any cutB = false

theorem take_more (l : List UInt8) (p n : Nat) : l.take (p + n) = l.take p ++ (l.drop p).take n := by
  rw [List.take_add]

theorem noCut_high (s : ByteArray) (p n : Nat) (h : NoCut s p) (hc : ∀ c ∈ (s.data.toList.drop p).take n, 128 ≤ c.toNat) : NoCut s (p + n) := by
  unfold NoCut at *
  rw [take_more, List.any_append, h, Bool.false_or, List.any_eq_false]
  intro c hm
  rw [cut_high c (hc c hm)]
  simp
theorem noCut_one (s : ByteArray) (p : Nat) (hp : p < s.size) (h : NoCut s p) (hc : cutB s[p] = false) : NoCut s (p + 1) := by
  unfold NoCut at *
  rw [take_snoc s p hp, List.any_append, h, Bool.false_or]
  simp [hc]
theorem cut_here (s : ByteArray) (p : Nat) (hp : p < s.size) (hc : cutB s[p] = true) : okField s.data.toList = false := by
  rw [okField_cut]
  have : s.data.toList.any cutB = true := by
    rw [List.any_eq_true]
    exact ⟨s[p], by rw [← bget s p hp]; exact List.getElem_mem _, hc⟩
  rw [this]
  rfl
theorem cut_none (s : ByteArray) (p : Nat) (hp : ¬ p < s.size) (h : NoCut s p) : okField s.data.toList = true := by
  unfold NoCut at h
  rw [List.take_of_length_le (by rw [list_len]; omega)] at h
  rw [okField_cut, h]
  rfl

theorem indexAny_cut : ∀ l : List UInt8, decide (0 ≤ Lib.indexAny l [9, 10, 13]) = l.any cutB
  | [] => rfl
  | c :: t => by
    have ih := indexAny_cut t
    rw [List.any_cons]
    unfold Lib.indexAny
    by_cases hc : [9, 10, 13].contains c = true
    · rw [if_pos hc]
      have : cutB c = true := hc
      rw [this]
      rfl
    · have hcf : cutB c = false := by
        show [9, 10, 13].contains c = false
        simpa using hc
      rw [if_neg hc, hcf, Bool.false_or, ← ih]
      have hge := Lib.indexAny_ge [9, 10, 13] t
      split
      · rename_i h1
        have : Lib.indexAny t [9, 10, 13] = -1 := by simpa using h1
        rw [this]
      · rename_i h1
        have : Lib.indexAny t [9, 10, 13] ≠ -1 := by simpa using h1
        rw [Bool.eq_iff_iff]
        simp only [decide_eq_true_eq]
        omega
end Go.Proofs.Yteoailanpmkcfaa
