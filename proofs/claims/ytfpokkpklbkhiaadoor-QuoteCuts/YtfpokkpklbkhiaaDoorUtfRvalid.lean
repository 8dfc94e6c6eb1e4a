/-
  The document's own Valid (package cracknelref05): a contract, for a seat whose program has it.
-/
import Derived.Test.YtfpokkpklbkhiaaDoorUtfRunesR
namespace Go.Proofs.YtfpokkpklbkhiaaDoor
open Go.RowKit
set_option linter.unusedVariables false

set_option maxRecDepth 100000 in
set_option maxHeartbeats 400000 in
theorem rvalid_any (s : ByteArray) (w : World) (hs : s.size ≤ 1000000000000) :
    Calls Tryd.prog 14 #[.string s] w fun e w' => e = .returned (.bool (validB s)) ∧ Below w.heap.size w w' := by
  go_enter Tryd.func14, Tryd.ntmps14
  go_wp2_with fail
  refine (rrunes_any s _ hs).mono ?_
  rintro _ w1 ⟨⟨rs, v, h, rfl, _⟩ | ⟨h, rfl⟩, hb⟩
  · have HE : Hid (validB s = true) := by show _ = _; unfold validB; rw [h]; rfl
    clear h
    go_wp2
    go_ret
    exact ⟨ret_bool HE.out.symm, hb⟩
  · have HE : Hid (validB s = false) := by show _ = _; unfold validB; rw [h]; rfl
    clear h
    go_wp2
    go_ret
    exact ⟨ret_bool HE.out.symm, hb⟩

end Go.Proofs.YtfpokkpklbkhiaaDoor
