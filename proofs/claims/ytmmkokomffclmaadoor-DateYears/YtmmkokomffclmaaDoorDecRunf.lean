/-
  Unfixed of the document.
-/
import Derived.Test.YtmmkokomffclmaaDoorDecRef
namespace Go.Proofs.YtmmkokomffclmaaDoor
open Go.RowKit
set_option linter.unusedVariables false

set_option maxRecDepth 100000 in
set_option maxHeartbeats 400000 in
theorem runfixed_yes (s : ByteArray) (n : Nat) (w : World) (h1 : 1 ≤ s.size) (h2 : s.size ≤ 18) (h : allD s.data.toList = true) (hv : valN s.data.toList = n) :
    Calls Tryd.prog 41 #[.string s] w fun e w' => e = .returned (.tuple #[.int .i64 (n : Int), .bool true]) ∧ w = w' := by
  have hl := valN_lt _ h
  rw [list_len, hv] at hl
  have hn : n < 1000000000000000000 := Nat.lt_of_lt_of_le hl (Nat.pow_le_pow_right (n := 10) (by decide) h2)
  have H := Lib.hid h
  have HV := Lib.hid hv
  clear h hv hl
  go_enter Tryd.func41, Tryd.ntmps41
  go_wp2_with fail
  refine (value_yes s 18 n _ h1 (by omega) (by omega) H.out HV.out).mono ?_
  rintro _ w1 ⟨rfl, rfl⟩
  go_wp2
  go_ret2
  exact ⟨rfl, rfl⟩

set_option maxRecDepth 100000 in
set_option maxHeartbeats 400000 in
theorem runfixed_no (s : ByteArray) (w : World) (hs : s.size ≤ maxLen) (h : s.size = 0 ∨ 18 < s.size ∨ allD s.data.toList = false) :
    Calls Tryd.prog 41 #[.string s] w fun e w' => e = .returned (.tuple #[.int .i64 0, .bool false]) ∧ w = w' := by
  have H := Lib.hid h
  clear h
  go_enter Tryd.func41, Tryd.ntmps41
  go_wp2_with fail
  refine (value_no s 18 _ hs (by omega) (by rcases H.out with h | h | h; exact .inl h; exact .inr (.inl (by omega)); exact .inr (.inr h))).mono ?_
  rintro _ w1 ⟨rfl, rfl⟩
  go_wp2
  go_ret2
  exact ⟨rfl, rfl⟩
end Go.Proofs.YtmmkokomffclmaaDoor
