/-
  The document's own answers (package cracknelref12): asks, head: contracts.
-/
import Derived.Test.YthempdglmhmfeaaDoorPatMath
import Derived.Test.YthempdglmhmfeaaDoorPatByte
namespace Go.Proofs.YthempdglmhmfeaaDoor
open Go.RowKit
set_option linter.unusedVariables false

set_option maxRecDepth 100000 in
theorem rasks_any (c : UInt8) (w : World) :
    Calls Tryd.prog 31 #[.int .u8 (c.toNat : Int)] w fun e w' => e = .returned (.bool (asksC c)) ∧ w' = w := by
  by_cases h1 : c = 63
  · have hi := u8_is h1 63 rfl
    have H := Lib.hid h1
    clear h1
    go_enter Tryd.func31, Tryd.ntmps31
    go_wp2
    go_ret
    exact ⟨ret_bool (by unfold asksC; rw [decide_eq_true H.out]; simp), rfl⟩
  · have hi := u8_isnt h1 63 rfl
    have H := Lib.hid h1
    clear h1
    by_cases h2 : c = 35
    · have hj := u8_is h2 35 rfl
      have H2 := Lib.hid h2
      clear h2
      go_enter Tryd.func31, Tryd.ntmps31
      go_wp2
      go_ret
      exact ⟨ret_bool (by unfold asksC; rw [decide_eq_true H2.out]; simp), rfl⟩
    · have hj := u8_isnt h2 35 rfl
      have H2 := Lib.hid h2
      clear h2
      go_enter Tryd.func31, Tryd.ntmps31
      go_wp2
      go_ret
      exact ⟨ret_bool (by unfold asksC; rw [decide_eq_false H.out, decide_eq_false H2.out]; simp [hi, hj]), rfl⟩

theorem prefix_take : ∀ (p l : List UInt8), p.length ≤ l.length → (p.isPrefixOf l = decide (l.take p.length = p))
  | [], l, _ => by simp
  | x :: t, [], h => by simp at h
  | x :: t, y :: s, h => by
    have ih := prefix_take t s (by simpa using h)
    show (x == y && t.isPrefixOf s) = _
    rw [ih, Bool.eq_iff_iff]
    simp only [Bool.and_eq_true, beq_iff_eq, decide_eq_true_eq, List.length_cons, List.take_succ_cons, List.cons.injEq]
    constructor
    · rintro ⟨rfl, h2⟩; exact ⟨rfl, h2⟩
    · rintro ⟨rfl, h2⟩; exact ⟨rfl, h2⟩

theorem prefix_short (p l : List UInt8) (h : l.length < p.length) : p.isPrefixOf l = false := by
  cases e : p.isPrefixOf l with
  | false => rfl
  | true => have := prefix_len p l e; omega

set_option maxRecDepth 100000 in
theorem rhead_any (s t : ByteArray) (w : World) (hs : s.size ≤ 1000000000000) (ht : t.size ≤ 1000000000000) :
    Calls Tryd.prog 30 #[.string s, .string t] w fun e w' => e = .returned (.bool (t.data.toList.isPrefixOf s.data.toList)) ∧ w' = w := by
  by_cases hl : t.size ≤ s.size
  · have HV : Hid (t.data.toList.isPrefixOf s.data.toList = ((s.extract 0 t.size).toList == t.toList)) := by
      show _ = _
      rw [prefix_take _ _ (by rw [list_len, list_len]; exact hl), eq_toList, Bool.eq_iff_iff, decide_eq_true_iff, decide_eq_true_iff, list_is, extract_list, List.drop_zero, Nat.sub_zero, list_len]
    go_enter Tryd.func30, Tryd.ntmps30
    go_wp2
    go_ret
    exact ⟨ret_bool (by rw [HV.out]), rfl⟩
  · have HV := Lib.hid (prefix_short t.data.toList s.data.toList (by rw [list_len, list_len]; omega))
    go_enter Tryd.func30, Tryd.ntmps30
    go_wp2
    go_ret
    exact ⟨ret_bool HV.out.symm, rfl⟩
end Go.Proofs.YthempdglmhmfeaaDoor
