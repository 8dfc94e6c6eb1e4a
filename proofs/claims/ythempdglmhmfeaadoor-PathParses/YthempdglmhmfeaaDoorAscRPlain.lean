/-
  The document's own Plain (package cracknelref01): a contract.
-/
import Derived.Test.YthempdglmhmfeaaDoorAscMth
namespace Go.Proofs.YthempdglmhmfeaaDoor
open Go.RowKit
set_option linter.unusedVariables false

set_option maxHeartbeats 400000 in
theorem rplain_any (s : ByteArray) (w : World) (hs : s.size ≤ maxLen) :
    Calls Tryd.prog 23 #[.string s] w fun e w' => e = .returned (.bool (allB (inSpans plainL) s)) ∧ w = w' := by
  unfold maxLen at hs
  go_enter Tryd.func23, Tryd.ntmps23
  go_wp2
  go_loop [3] (fun i => ∃ k : Nat, k ≤ s.size ∧ i = .int .i64 k ∧ firstAt (fun c => !inSpans plainL c) (s.data.toList.take k) = k) (fun i => s.size - (intOf i).toNat)
  case atStart => exact ⟨0, Nat.zero_le _, rfl, by simp [firstAt]⟩
  case round =>
    obtain ⟨k, hk, rfl, hno⟩ := hrel
    have Hno := Lib.hid hno
    clear hno
    by_cases hlt : k < s.size
    · have Hn := Lib.hid (allB_no (inSpans plainL) s k hlt Hno.out)
      have Hs := Lib.hid (allB_step (inSpans plainL) s k hlt Hno.out)
      rcases (show (s[k].toNat < 33 ∨ 126 < s[k].toNat ∨ s[k].toNat = 59) ∨ ((33 ≤ s[k].toNat ∧ s[k].toNat < 59) ∨ (59 < s[k].toNat ∧ s[k].toNat ≤ 126)) from by omega) with h | h
      · have hf : inSpans plainL (s[k].toNat : Int) = false := by simp [inSpans, plainL]; omega
        have Hf := Lib.hid hf
        clear hf
        rcases h with h | h | h
        · go_wp2
          go_ret
          exact ⟨ret_bool (Hn.out Hf.out).symm, rfl⟩
        · go_wp2
          go_ret
          exact ⟨ret_bool (Hn.out Hf.out).symm, rfl⟩
        · have h2 : ((s[k].toNat : Int) == 59) = true := by simp; omega
          have h3 : ¬ (s[k].toNat : Int) < 33 := by omega
          have h4 : ¬ (126 : Int) < (s[k].toNat : Int) := by omega
          clear h
          go_wp2
          go_ret
          exact ⟨ret_bool (Hn.out Hf.out).symm, rfl⟩
      · have hf : inSpans plainL (s[k].toNat : Int) = true := by simp [inSpans, plainL]; omega
        have Hf := Lib.hid hf
        clear hf
        rcases h with ⟨h, h'⟩ | ⟨h, h'⟩
        all_goals
          have h2 : ((s[k].toNat : Int) == 59) = false := by simp; omega
          go_wp2
          go_round
          case rel => exact ⟨k + 1, by omega, by go_num, Hs.out Hf.out⟩
          case measure => simp [intOf]; omega
    · have e : k = s.size := by omega
      subst e
      go_wp2
      go_ret
      exact ⟨ret_bool (allB_yes _ _ Hno.out).symm, rfl⟩
end Go.Proofs.YthempdglmhmfeaaDoor
