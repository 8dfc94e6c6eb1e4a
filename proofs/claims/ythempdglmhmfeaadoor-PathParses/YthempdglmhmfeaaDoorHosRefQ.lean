/-
  The document's own answers (package cracknelref11): part: a contract.
-/
import Derived.Test.YthempdglmhmfeaaDoorHosMath
import Derived.Test.YthempdglmhmfeaaDoorBaseOfL
namespace Go.Proofs.YthempdglmhmfeaaDoor
open Go.RowKit
set_option linter.unusedVariables false

theorem getD_byte (s : ByteArray) (k : Nat) (h : k < s.size) : s.data.toList.getD k 0 = s[k] := by
  rw [← bget s k h, List.getD_eq_getElem?_getD, List.getElem?_eq_getElem (by simpa using h)]
  rfl

theorem partB_at (s : ByteArray) (h : 0 < s.size) : partB s.data.toList = (decide (s.size ≤ 63) && decide (s[0] ≠ 45) && decide (s[s.size - 1] ≠ 45) && s.data.toList.all hostC) := by
  unfold partB
  rw [list_len, getD_byte s 0 h, getD_byte s (s.size - 1) (by omega), decide_eq_true (show 1 ≤ s.size by omega), Bool.true_and]

theorem hostC_yes (c : UInt8) (h : (97 ≤ c.toNat ∧ c.toNat ≤ 122) ∨ (48 ≤ c.toNat ∧ c.toNat ≤ 57) ∨ c.toNat = 45) : hostC c = true := by
  unfold hostC
  simp only [Bool.or_eq_true, Bool.and_eq_true, decide_eq_true_eq]
  omega
theorem hostC_no (c : UInt8) (h : ¬ ((97 ≤ c.toNat ∧ c.toNat ≤ 122) ∨ (48 ≤ c.toNat ∧ c.toNat ≤ 57) ∨ c.toNat = 45)) : hostC c = false := by
  rw [Bool.eq_false_iff]
  intro h2
  unfold hostC at h2
  simp only [Bool.or_eq_true, Bool.and_eq_true, decide_eq_true_eq] at h2
  omega

theorem all_step (l : List UInt8) (p : UInt8 → Bool) (k : Nat) (h : k < l.length) (h1 : (l.take k).all p = true) (h2 : p l[k] = true) : (l.take (k + 1)).all p = true := by
  rw [List.take_succ_eq_append_getElem h, List.all_append, h1]
  simp [h2]
theorem all_not (l : List UInt8) (p : UInt8 → Bool) (k : Nat) (h : k < l.length) (h2 : p l[k] = false) : l.all p = false := by
  rw [Bool.eq_false_iff]
  intro h3
  rw [List.all_eq_true.1 h3 _ (List.getElem_mem h)] at h2
  cases h2

def PartAt (s : ByteArray) (w0 : World) (gk : Nat) (i : Value) (wr : World) : Prop :=
  ∃ k : Nat, i = .int .i64 (k : Int) ∧ k + gk = s.size + 1 ∧ 1 ≤ gk ∧ (s.data.toList.take k).all hostC = true ∧ wr = w0

set_option maxRecDepth 100000 in
set_option maxHeartbeats 1600000 in
theorem rpart_any (s : ByteArray) (w : World) (hs : s.size ≤ 1000000000000) :
    Calls Tryd.prog 47 #[.string s] w fun e w' => e = .returned (.bool (partB s.data.toList)) ∧ w' = w := by
  by_cases h0 : s.size = 0
  · have HP : Hid (partB s.data.toList = false) := by
      show _ = _
      unfold partB
      rw [list_len, h0]
      rfl
    go_enter Tryd.func47, Tryd.ntmps47
    go_wp2
    go_ret
    exact ⟨ret_bool HP.out.symm, rfl⟩
  have hpos : 0 < s.size := by omega
  have HP := Lib.hid (partB_at s hpos)
  by_cases h63 : 63 < s.size
  · have HP2 : Hid (partB s.data.toList = false) := by
      show _ = _
      rw [HP.out, decide_eq_false (show ¬ s.size ≤ 63 by omega)]
      rfl
    go_enter Tryd.func47, Tryd.ntmps47
    go_wp2
    go_ret
    exact ⟨ret_bool HP2.out.symm, rfl⟩
  by_cases ha : s[0] = 45
  · have HP2 : Hid (partB s.data.toList = false) := by
      show _ = _
      rw [HP.out, decide_eq_false (show ¬ (s[0] ≠ 45) from fun h => h ha), Bool.and_false, Bool.false_and, Bool.false_and]
    have hi := u8_is ha 45 rfl
    clear ha
    go_enter Tryd.func47, Tryd.ntmps47
    go_wp2
    go_ret
    exact ⟨ret_bool HP2.out.symm, rfl⟩
  have hi := u8_isnt ha 45 rfl
  have hl : s.size - 1 < s.size := by omega
  by_cases hz : s[s.size - 1] = 45
  · have HP2 : Hid (partB s.data.toList = false) := by
      show _ = _
      rw [HP.out, decide_eq_false (show ¬ (s[s.size - 1] ≠ 45) from fun h => h hz), Bool.and_false, Bool.false_and]
    have hj := u8_is hz 45 rfl
    clear hz ha
    go_enter Tryd.func47, Tryd.ntmps47
    go_wp2
    go_ret
    exact ⟨ret_bool HP2.out.symm, rfl⟩
  have hj := u8_isnt hz 45 rfl
  have HP2 : Hid (partB s.data.toList = s.data.toList.all hostC) := by
    show _ = _
    rw [HP.out, decide_eq_true (show s.size ≤ 63 by omega), decide_eq_true ha, decide_eq_true hz]
    simp
  have hi2 : ((s[0].toNat : Int) == 45) = false := beq_eq_false_iff_ne.2 hi
  have hj2 : ((s[s.size - 1].toNat : Int) == 45) = false := beq_eq_false_iff_ne.2 hj
  have e1 : decide ((s.size : Int) < 1) = false := decide_eq_false (by omega)
  have e2 : decide ((63 : Int) < (s.size : Int)) = false := decide_eq_false (by omega)
  clear ha hz HP hi hj
  go_enter Tryd.func47, Tryd.ntmps47
  go_wp2
  go_loopg [3] (s.size + 1) (fun gk i wr => PartAt s w gk i wr)
  case atStart => exact ⟨0, rfl, by omega, by omega, rfl, rfl⟩
  case round =>
    clear hi2 hj2 e1 e2
    obtain ⟨k, rfl, hk, hg, hall, rfl⟩ := hrel
    have HA := Lib.hid hall
    clear hall
    by_cases hlt : k < s.size
    · have hkl : k < s.data.toList.length := by rw [list_len]; exact hlt
      have HB := Lib.hid (bget s k hlt)
      have HY := Lib.hid (hostC_yes s[k])
      have HN := Lib.hid (hostC_no s[k])
      obtain ⟨c, hc⟩ : ∃ c : Nat, c = s[k].toNat := ⟨_, rfl⟩
      rw [← hc] at HY HN
      have HC := Lib.hid hc
      rcases (show (97 ≤ (s[k].toNat : Int) ∧ (s[k].toNat : Int) ≤ 122) ∨ (¬ 97 ≤ (s[k].toNat : Int) ∧ 48 ≤ (s[k].toNat : Int) ∧ (s[k].toNat : Int) ≤ 57) ∨ (¬ 97 ≤ (s[k].toNat : Int) ∧ ¬ 48 ≤ (s[k].toNat : Int) ∧ (s[k].toNat : Int) = 45) ∨
        (97 ≤ (s[k].toNat : Int) ∧ ¬ (s[k].toNat : Int) ≤ 122 ∧ 48 ≤ (s[k].toNat : Int) ∧ ¬ (s[k].toNat : Int) ≤ 57 ∧ ¬ (s[k].toNat : Int) = 45) ∨ (¬ 97 ≤ (s[k].toNat : Int) ∧ 48 ≤ (s[k].toNat : Int) ∧ ¬ (s[k].toNat : Int) ≤ 57 ∧ ¬ (s[k].toNat : Int) = 45) ∨
        (¬ 97 ≤ (s[k].toNat : Int) ∧ ¬ 48 ≤ (s[k].toNat : Int) ∧ ¬ (s[k].toNat : Int) = 45) by omega) with ⟨g1, g2⟩ | ⟨g1, g2, g3⟩ | ⟨g1, g2, g3⟩ | ⟨g1, g2, g3, g4, g5⟩ | ⟨g1, g2, g3, g4⟩ | ⟨g1, g2, g3⟩
      case inl | inr.inl | inr.inr.inl =>
        have HS : Hid ((s.data.toList.take (k + 1)).all hostC = true) := all_step _ hostC k hkl HA.out (by rw [HB.out]; exact HY.out (by omega))
        clear hc
        go_wp2
        go_roundg (gk - 1)
        case measure => omega
        case rel => exact ⟨k + 1, by go_num, by omega, by omega, HS.out, rfl⟩
      all_goals
        have HS : Hid (partB s.data.toList = false) := by
          show _ = _
          rw [HP2.out]
          exact all_not _ hostC k hkl (by rw [HB.out]; exact HN.out (by omega))
        clear hc
        go_wp2
        go_ret
        exact ⟨ret_bool HS.out.symm, rfl⟩
    · have e : s.data.toList.take k = s.data.toList := List.take_of_length_le (by rw [list_len]; omega)
      have HS : Hid (partB s.data.toList = true) := by
        show _ = _
        rw [HP2.out, ← e]
        exact HA.out
      clear e
      go_wp2
      go_ret
      exact ⟨ret_bool HS.out.symm, rfl⟩
end Go.Proofs.YthempdglmhmfeaaDoor
