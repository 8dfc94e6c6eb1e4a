/-
  The document's own Plain (package cracknelref01): a contract.
  The document's own name (package cracknelref01): a contract.
  The document's own Token (package cracknelref01): a contract.
  The document's own octet (package cracknelref01): a contract.
  The document's own Octets (package cracknelref01): a contract.
-/
import Derived.Test.YtkpdejnhjbojpaaDoorCkMa
namespace Go.Proofs.YtkpdejnhjbojpaaDoor
open Go.RowKit
set_option linter.unusedVariables false

set_option maxHeartbeats 400000 in
theorem rplain_any (s : ByteArray) (w : World) (hs : s.size ≤ maxLen) :
    Calls Tryd.prog 60 #[.string s] w fun e w' => e = .returned (.bool (allB (inSpans plainL) s)) ∧ w = w' := by
  unfold maxLen at hs
  go_enter Tryd.func60, Tryd.ntmps60
  go_wp2
  go_loop [3] (fun i => ∃ k : Nat, k ≤ s.size ∧ i = .int .i64 k ∧ firstAt (fun c => !inSpans plainL c) (s.data.toList.take k) = k) (fun i => s.size - (intOf i).toNat)
  case atStart => exact ⟨0, Nat.zero_le _, rfl, by simp [firstAt]⟩
  case round =>
    obtain ⟨k, hk, rfl, hno⟩ := hrel
    have Hno := Lib.hid hno
    clear hno
    by_cases hlt : k < s.size
    · have Hn := Lib.hid (allB_no (inSpans plainL) s k hlt Hno.out)
      have Hs := Lib.hid (allB_step (inSpans plainL) s k hlt Hno.out)
      rcases (show (s[k].toNat < 33 ∨ 126 < s[k].toNat ∨ s[k].toNat = 59) ∨ ((33 ≤ s[k].toNat ∧ s[k].toNat < 59) ∨ (59 < s[k].toNat ∧ s[k].toNat ≤ 126)) from by omega) with h | h
      · have hf : inSpans plainL (s[k].toNat : Int) = false := by simp [inSpans, plainL]; omega
        have Hf := Lib.hid hf
        clear hf
        rcases h with h | h | h
        · go_wp2
          go_ret
          exact ⟨ret_bool (Hn.out Hf.out).symm, rfl⟩
        · go_wp2
          go_ret
          exact ⟨ret_bool (Hn.out Hf.out).symm, rfl⟩
        · have h2 : ((s[k].toNat : Int) == 59) = true := by simp; omega
          have h3 : ¬ (s[k].toNat : Int) < 33 := by omega
          have h4 : ¬ (126 : Int) < (s[k].toNat : Int) := by omega
          clear h
          go_wp2
          go_ret
          exact ⟨ret_bool (Hn.out Hf.out).symm, rfl⟩
      · have hf : inSpans plainL (s[k].toNat : Int) = true := by simp [inSpans, plainL]; omega
        have Hf := Lib.hid hf
        clear hf
        rcases h with ⟨h, h'⟩ | ⟨h, h'⟩
        all_goals
          have h2 : ((s[k].toNat : Int) == 59) = false := by simp; omega
          go_wp2
          go_round
          case rel => exact ⟨k + 1, by omega, by go_num, Hs.out Hf.out⟩
          case measure => simp [intOf]; omega
    · have e : k = s.size := by omega
      subst e
      go_wp2
      go_ret
      exact ⟨ret_bool (allB_yes _ _ Hno.out).symm, rfl⟩
end Go.Proofs.YtkpdejnhjbojpaaDoor
namespace Go.Proofs.YtkpdejnhjbojpaaDoor
open Go.RowKit
set_option linter.unusedVariables false

set_option maxHeartbeats 4000000 in
theorem name_any (c : Int) (w : World) :
    Calls Tryd.prog 61 #[.int .u8 c] w fun e w' => e = .returned (.bool (inSpans tokL c)) ∧ w = w' := by
  go_enter Tryd.func61, Tryd.ntmps61
  go_wp2
  all_goals
    go_ret
    refine ⟨ret_bool ?_, rfl⟩
    rw [Bool.eq_iff_iff]
    simp [inSpans, tokL] <;> omega
end Go.Proofs.YtkpdejnhjbojpaaDoor
namespace Go.Proofs.YtkpdejnhjbojpaaDoor
open Go.RowKit
set_option linter.unusedVariables false

theorem size_pos_list (s : ByteArray) : s.toList.isEmpty = !decide ((0 : Int) < (s.size : Int)) := by
  have h : s.toList.isEmpty = true ↔ s.size = 0 := by rw [ByteArray.toList_eq, List.isEmpty_iff, ← List.length_eq_zero_iff, list_len]
  by_cases h0 : s.size = 0
  · rw [h.2 h0, h0]
    rfl
  · have h1 : s.toList.isEmpty = false := by rw [← Bool.not_eq_true, h]; exact h0
    have h2 : decide ((0 : Int) < (s.size : Int)) = true := by rw [decide_eq_true_eq]; omega
    rw [h1, h2]
    rfl

set_option maxHeartbeats 400000 in
theorem rtoken_any (s : ByteArray) (w : World) (hs : s.size ≤ maxLen) :
    Calls Tryd.prog 34 #[.string s] w fun e w' => e = .returned (.bool (tokenB s)) ∧ w = w' := by
  unfold maxLen at hs
  have HT : Hid (tokenB s = (decide ((0 : Int) < (s.size : Int)) && allB (inSpans tokL) s)) := by
    show _ = _
    unfold tokenB
    rw [size_pos_list]
    simp
  go_enter Tryd.func34, Tryd.ntmps34
  go_wp2
  go_loop [3] (fun i => ∃ k : Nat, k ≤ s.size ∧ i = .int .i64 k ∧ firstAt (fun c => !inSpans tokL c) (s.data.toList.take k) = k) (fun i => s.size - (intOf i).toNat)
  case atStart => exact ⟨0, Nat.zero_le _, rfl, by simp [firstAt]⟩
  case round =>
    obtain ⟨k, hk, rfl, hno⟩ := hrel
    have Hno := Lib.hid hno
    clear hno
    by_cases hlt : k < s.size
    · have Hn := Lib.hid (allB_no (inSpans tokL) s k hlt Hno.out)
      have Hs := Lib.hid (allB_step (inSpans tokL) s k hlt Hno.out)
      go_wp2_with fail
      refine (name_any _ _).mono ?_
      rintro _ w' ⟨rfl, rfl⟩
      cases hb : inSpans tokL (s[k].toNat : Int)
      · have Hb := Lib.hid hb
        clear hb
        go_wp2
        go_ret
        exact ⟨ret_bool (by rw [HT.out, Hn.out Hb.out]; simp), rfl⟩
      · have Hb := Lib.hid hb
        clear hb
        go_wp2
        go_round
        case rel => exact ⟨k + 1, by omega, by go_num, Hs.out Hb.out⟩
        case measure => simp [intOf]; omega
    · have e : k = s.size := by omega
      subst e
      go_wp2
      go_ret
      exact ⟨ret_bool (by rw [HT.out, allB_yes _ _ Hno.out]; simp), rfl⟩
end Go.Proofs.YtkpdejnhjbojpaaDoor
namespace Go.Proofs.YtkpdejnhjbojpaaDoor
open Go.RowKit
set_option linter.unusedVariables false

set_option maxHeartbeats 400000 in
theorem octet_any (c : Int) (w : World) :
    Calls Tryd.prog 62 #[.int .u8 c] w fun e w' => e = .returned (.bool (inSpans octL c)) ∧ w = w' := by
  go_enter Tryd.func62, Tryd.ntmps62
  go_wp2
  all_goals
    go_ret
    refine ⟨ret_bool ?_, rfl⟩
    rw [Bool.eq_iff_iff]
    simp [inSpans, octL] <;> omega
end Go.Proofs.YtkpdejnhjbojpaaDoor
namespace Go.Proofs.YtkpdejnhjbojpaaDoor
open Go.RowKit
set_option linter.unusedVariables false

set_option maxHeartbeats 400000 in
theorem roctets_any (s : ByteArray) (w : World) (hs : s.size ≤ maxLen) :
    Calls Tryd.prog 35 #[.string s] w fun e w' => e = .returned (.bool (allB (inSpans octL) s)) ∧ w = w' := by
  unfold maxLen at hs
  go_enter Tryd.func35, Tryd.ntmps35
  go_wp2
  go_loop [3] (fun i => ∃ k : Nat, k ≤ s.size ∧ i = .int .i64 k ∧ firstAt (fun c => !inSpans octL c) (s.data.toList.take k) = k) (fun i => s.size - (intOf i).toNat)
  case atStart => exact ⟨0, Nat.zero_le _, rfl, by simp [firstAt]⟩
  case round =>
    obtain ⟨k, hk, rfl, hno⟩ := hrel
    have Hno := Lib.hid hno
    clear hno
    by_cases hlt : k < s.size
    · have Hn := Lib.hid (allB_no (inSpans octL) s k hlt Hno.out)
      have Hs := Lib.hid (allB_step (inSpans octL) s k hlt Hno.out)
      go_wp2_with fail
      refine (octet_any _ _).mono ?_
      rintro _ w' ⟨rfl, rfl⟩
      cases hb : inSpans octL (s[k].toNat : Int)
      · have Hb := Lib.hid hb
        clear hb
        go_wp2
        go_ret
        exact ⟨ret_bool (Hn.out Hb.out).symm, rfl⟩
      · have Hb := Lib.hid hb
        clear hb
        go_wp2
        go_round
        case rel => exact ⟨k + 1, by omega, by go_num, Hs.out Hb.out⟩
        case measure => simp [intOf]; omega
    · have e : k = s.size := by omega
      subst e
      go_wp2
      go_ret
      exact ⟨ret_bool (allB_yes _ _ Hno.out).symm, rfl⟩
end Go.Proofs.YtkpdejnhjbojpaaDoor
