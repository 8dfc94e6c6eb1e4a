/-
  The document's own answers (package cracknelref12): Right: a contract.
-/
import Derived.Test.YtkpdejnhjbojpaaDoorCkMa
import Derived.Test.YtkpdejnhjbojpaaDoorAscRq
import Derived.Test.YtkpdejnhjbojpaaDoorPatByte
namespace Go.Proofs.YtkpdejnhjbojpaaDoor
open Go.RowKit
set_option linter.unusedVariables false

theorem right_at (s : ByteArray) (h1 : 0 < s.size) (h2 : s.size ≤ 64) : rightB s.data.toList = (decide (s[0] = 47) && allB (inSpans plainL) s) := by
  unfold rightB
  rw [list_len, getD_b s 0 h1, decide_eq_true (show 1 ≤ s.size by omega), decide_eq_true h2]
  rfl

set_option maxRecDepth 100000 in
set_option maxHeartbeats 1600000 in
theorem rright_any (s : ByteArray) (w : World) (hs : s.size ≤ maxLen) :
    Calls Tryd.prog 33 #[.string s] w fun e w' => e = .returned (.bool (rightB s.data.toList)) ∧ Below w.heap.size w w' := by
  unfold maxLen at hs
  by_cases h0 : s.size = 0
  · have HV : Hid (rightB s.data.toList = false) := by
      show _ = _
      unfold rightB
      rw [list_len, h0]
      rfl
    go_enter Tryd.func33, Tryd.ntmps33
    go_wp2
    go_ret
    exact ⟨ret_bool HV.out.symm, Below.refl _ _⟩
  have hp : 0 < s.size := by omega
  by_cases h64 : 64 < s.size
  · have HV : Hid (rightB s.data.toList = false) := by
      show _ = _
      unfold rightB
      rw [list_len, decide_eq_false (show ¬ s.size ≤ 64 by omega), Bool.and_false, Bool.false_and, Bool.false_and]
    go_enter Tryd.func33, Tryd.ntmps33
    go_wp2
    go_ret
    exact ⟨ret_bool HV.out.symm, Below.refl _ _⟩
  have HR := Lib.hid (right_at s hp (by omega))
  by_cases h47 : s[0] = 47
  · have hi := u8_is h47 47 rfl
    have HP := Lib.hid (rplain_any s · (by unfold maxLen; omega))
    obtain ⟨b, hb⟩ : ∃ b, b = allB (inSpans plainL) s := ⟨_, rfl⟩
    rw [← hb] at HP HR
    have H47 := Lib.hid h47
    clear hb h47
    have e1 : decide ((1 : Int) ≤ (s.size : Int)) = true := decide_eq_true (by omega)
    have e2 : decide ((s.size : Int) ≤ 64) = true := decide_eq_true (by omega)
    go_enter Tryd.func33, Tryd.ntmps33
    go_wp2_with fail
    refine (HP.out _).mono ?_
    rintro _ w1 ⟨rfl, hb1⟩
    go_wp2
    go_ret
    exact ⟨ret_bool (by rw [HR.out, decide_eq_true H47.out]; simp), hb1 ▸ Below.refl _ _⟩
  · have hi := u8_isnt h47 47 rfl
    have H47 := Lib.hid h47
    clear h47
    go_enter Tryd.func33, Tryd.ntmps33
    go_wp2
    go_ret
    exact ⟨ret_bool (by rw [HR.out, decide_eq_false H47.out]; simp), Below.refl _ _⟩
end Go.Proofs.YtkpdejnhjbojpaaDoor
