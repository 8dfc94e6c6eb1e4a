/-
  Two cookies, and two keys, compared by ==.
-/
import Derived.Test.YtkpdejnhjbojpaaDoorCkBox
import Derived.Laws.StructEq
namespace Go.Proofs.YtkpdejnhjbojpaaDoor
open Go.RowKit
set_option linter.unusedVariables false

theorem tl_inj {a b : ByteArray} (h : a.toList = b.toList) : a = b := by
  rw [ByteArray.toList_eq, ByteArray.toList_eq] at h
  exact ba_ext h

theorem ck_eq_yes (c : Ck) (W : World) : Sem.run Tryd.prog (binOp BinOp.eql 23 (ckV c) (ckV c)) W = .ok (.bool true) W := by go_simp
theorem ck_eq_no (a b : Ck) (h : a ≠ b) (W : World) : Sem.run Tryd.prog (binOp BinOp.eql 23 (ckV a) (ckV b)) W = .ok (.bool false) W := by
  obtain ⟨d, p, n, v, cr, ac, ex, ho, se, hp, ss⟩ := a
  obtain ⟨d', p', n', v', cr', ac', ex', ho', se', hp', ss'⟩ := b
  have H := Lib.hid h
  clear h
  go_simp
  intro h0 h1 h2 h3 h4 h5 h6 h7 h8 h9 h10
  exact absurd (by rw [tl_inj h0, tl_inj h1, tl_inj h2, tl_inj h3, h4, h5, h6, h7, h8, h9, h10]) H.out

theorem key_eq_yes (a b c : ByteArray) (W : World) : Sem.run Tryd.prog (binOp BinOp.eql 27 (keyV a b c) (keyV a b c)) W = .ok (.bool true) W := by go_simp
theorem key_eq_no (a b c d e f : ByteArray) (h : ¬ (a = d ∧ b = e ∧ c = f)) (W : World) : Sem.run Tryd.prog (binOp BinOp.eql 27 (keyV a b c) (keyV d e f)) W = .ok (.bool false) W := by
  have H := Lib.hid h
  clear h
  go_simp
  intro h0 h1 h2
  exact absurd ⟨tl_inj h0, tl_inj h1, tl_inj h2⟩ H.out
theorem rkey_eq_yes (a b c : ByteArray) (W : World) : Sem.run Tryd.prog (binOp BinOp.eql 30 (keyV a b c) (keyV a b c)) W = .ok (.bool true) W := by go_simp
end Go.Proofs.YtkpdejnhjbojpaaDoor
