/-
  The program's own marking (package lines): read: a contract.
-/
import Derived.Test.YteoailanpmkcfaaLinesWrite
import Derived.Test.YteoailanpmkcfaaLinesUnesc
import Derived.Laws.MakeOwn
namespace Go.Proofs.Yteoailanpmkcfaa
open Go.RowKit
set_option linter.unusedVariables false

/-- What fw tells. -/
def Was (m : Way) (fw : Nat) : Prop := ∀ (x : ByteArray) (w : World), x.size = m.many → Calls Try.prog fw #[.string x] w fun e w' => e = .returned (.int .u8 ((m.was x.data.toList).toNat : Int)) ∧ Below w.heap.size w w'

/-- What read holds: rest is still to be read, had was. -/
def ReadAt (R : List UInt8 → Option (List UInt8)) (s : ByteArray) (g : Nat) (w0 : World) (t row : Value) (wr : World) : Prop :=
  ∃ (rest : ByteArray) (had : List UInt8), t = .string rest ∧ RowB wr (g + 1) row had ∧ R s.data.toList = (R rest.data.toList).map (had ++ ·) ∧ had.length + rest.size ≤ s.size ∧ Below (g + 1) w0 wr ∧ g + 1 ≤ wr.heap.size

/-- How much is to be read. -/
def leftOf : Value → Nat
  | .string t => t.size
  | _ => 0

theorem read_on {R : List UInt8 → Option (List UInt8)} {s : List UInt8} {rest r : List UInt8} {had : List UInt8} {b : UInt8} (h : R s = (R rest).map (had ++ ·)) (h2 : R rest = (R r).map (b :: ·)) : R s = (R r).map ((had ++ [b]) ++ ·) := by
  rw [h, h2]
  cases R r <;> simp
theorem read_no {R : List UInt8 → Option (List UInt8)} {s : List UInt8} {rest : List UInt8} {had : List UInt8} (h : R s = (R rest).map (had ++ ·)) (h2 : R rest = none) : R s = none := by
  rw [h, h2]
  rfl
theorem read_all {m : Way} {R : List UInt8 → Option (List UInt8)} (hR : m.ReadBy R) {s : List UInt8} {rest : ByteArray} {had : List UInt8} (h : R s = (R rest.data.toList).map (had ++ ·)) (h2 : rest.size = 0) : R s = some had := by
  have e : rest.data.toList = [] := List.eq_nil_of_length_eq_zero (by rw [list_len]; exact h2)
  rw [h, e, Way.none_at hR]
  simp

theorem cons_of (s : ByteArray) (h : 0 < s.size) : s.data.toList = s[0] :: (s.extract 1 s.size).data.toList := by
  have := drop_cons s 0 h
  rw [List.drop_zero] at this
  rw [this, extract_list, List.take_of_length_le]
  rw [List.length_drop, list_len]
  omega
theorem ext_size (s : ByteArray) (i j : Nat) (h : j ≤ s.size) : (s.extract i j).size = j - i := by
  rw [← list_len, extract_list, List.length_take, List.length_drop, list_len]
  omega
theorem ext_one (s : ByteArray) (h : 0 < s.size) : s.extract 0 1 = ⟨#[s[0]]⟩ := by
  apply ba_ext
  rw [extract_list, cons_of s h]
  rfl
theorem drop_ext (s : ByteArray) (n : Nat) : (s.extract n s.size).data.toList = s.data.toList.drop n := by
  rw [extract_list, List.take_of_length_le]
  rw [List.length_drop, list_len]
  omega

/-- A mark with so many behind it. -/
theorem marked_of (m : Way) (s : ByteArray) (h : 0 < s.size) (hc : s[0] = m.mark) (hn : m.many < s.size) :
    s.data.toList = m.mark :: (s.extract 1 (1 + m.many)).data.toList ++ (s.extract (1 + m.many) s.size).data.toList ∧ (s.extract 0 (1 + m.many)).data.toList = m.mark :: (s.extract 1 (1 + m.many)).data.toList ∧ (s.extract 1 (1 + m.many)).data.toList.length = m.many := by
  have hl := list_len s
  have e1 := drop_cons s 0 h
  rw [List.drop_zero, hc] at e1
  have e2 : (s.extract 1 (1 + m.many)).data.toList = (s.data.toList.drop 1).take m.many := by
    rw [extract_list]
    congr 1
    omega
  have e3 : (s.extract (1 + m.many) s.size).data.toList = (s.data.toList.drop 1).drop m.many := by
    rw [drop_ext, List.drop_drop]
  refine ⟨?_, ?_, ?_⟩
  · rw [e2, e3, List.cons_append, List.take_append_drop]
    exact e1
  · rw [extract_list, List.drop_zero, e2]
    conv => lhs; rw [e1]
    rw [show 1 + m.many - 0 = m.many + 1 by omega, List.take_succ_cons]
  · rw [e2, List.length_take, List.length_drop, hl]
    omega

theorem Way.bare_yes {m : Way} {R : List UInt8 → Option (List UInt8)} (hm : m.Fair) (hR : m.ReadBy R) (s : ByteArray) (h : 0 < s.size) (hn : ¬ (s[0] = m.mark ∧ m.many < s.size)) (hb : m.becomes s[0] = [s[0]]) :
    R s.data.toList = (R (s.extract 1 s.size).data.toList).map (s[0] :: ·) := by
  have hl := list_len s
  have e := cons_of s h
  rw [e] at hl
  rw [e, Way.bare hm hR _ _ (by rw [hl]; exact hn), if_pos hb]
theorem Way.bare_no {m : Way} {R : List UInt8 → Option (List UInt8)} (hm : m.Fair) (hR : m.ReadBy R) (s : ByteArray) (h : 0 < s.size) (hn : ¬ (s[0] = m.mark ∧ m.many < s.size)) (hb : m.becomes s[0] ≠ [s[0]]) :
    R s.data.toList = none := by
  have hl := list_len s
  have e := cons_of s h
  rw [e] at hl
  rw [e, Way.bare hm hR _ _ (by rw [hl]; exact hn), if_neg hb]
theorem Way.marked_yes {m : Way} {R : List UInt8 → Option (List UInt8)} (hm : m.Fair) (hR : m.ReadBy R) (s : ByteArray) (h : 0 < s.size) (hc : s[0] = m.mark) (hn : m.many < s.size) (hb : m.becomes (m.was (s.extract 1 (1 + m.many)).data.toList) = (s.extract 0 (1 + m.many)).data.toList) :
    R s.data.toList = (R (s.extract (1 + m.many) s.size).data.toList).map (m.was (s.extract 1 (1 + m.many)).data.toList :: ·) := by
  obtain ⟨e1, e2, e3⟩ := marked_of m s h hc hn
  rw [e2] at hb
  rw [e1, Way.marked hm hR _ _ e3, if_pos hb]
theorem Way.marked_no {m : Way} {R : List UInt8 → Option (List UInt8)} (hm : m.Fair) (hR : m.ReadBy R) (s : ByteArray) (h : 0 < s.size) (hc : s[0] = m.mark) (hn : m.many < s.size) (hb : m.becomes (m.was (s.extract 1 (1 + m.many)).data.toList) ≠ (s.extract 0 (1 + m.many)).data.toList) :
    R s.data.toList = none := by
  obtain ⟨e1, e2, e3⟩ := marked_of m s h hc hn
  rw [e2] at hb
  rw [e1, Way.marked hm hR _ _ e3, if_neg hb]
end Go.Proofs.Yteoailanpmkcfaa
