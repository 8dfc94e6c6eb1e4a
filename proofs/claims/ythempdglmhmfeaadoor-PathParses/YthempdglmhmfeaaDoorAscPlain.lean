/-
  Plain of package ascii: a contract.
-/
import Derived.Test.YthempdglmhmfeaaDoorAscAll
namespace Go.Proofs.YthempdglmhmfeaaDoor
open Go.RowKit
set_option linter.unusedVariables false

set_option maxHeartbeats 400000 in
theorem plain_any (s : ByteArray) (w : World) (hs : s.size ≤ maxLen) :
    Calls Tryd.prog 22 #[.string s] w fun e w' =>
      e = .returned (.bool (allB (inSpans plainL) s)) ∧ Below w.heap.size w w' := by
  go_enter Tryd.func22, Tryd.ntmps22
  go_wp2_with fail
  refine (among_any _ _ _ _).mono ?_
  rintro e w' ⟨rfl, rfl⟩
  go_wp2_with fail
  refine (all_any s _ (inSpans plainL) _ hs (by simp) (Lib.hid fun w1 c hb => spans_calls plainL (cellsOf plainL) w (by decide) (has_cellsOf _) 2 rfl w1 c hb)).mono ?_
  rintro e w' ⟨rfl, hb⟩
  go_wp2
  go_ret
  exact ⟨rfl, ((((Below.refl _ _).alloc (Nat.le_refl _) _).alloc (by simp) _).trans (hb.mono (by simp; omega)))⟩
end Go.Proofs.YthempdglmhmfeaaDoor
