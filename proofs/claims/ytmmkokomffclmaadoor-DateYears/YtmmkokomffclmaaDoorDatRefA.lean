/-
  The document's own answers (package cracknelref10): Parts, digits: contracts.
-/
import Derived.Test.YtmmkokomffclmaaDoorDatMath
import Derived.Test.YtmmkokomffclmaaDoorBase
namespace Go.Proofs.YtmmkokomffclmaaDoor
open Go.RowKit
set_option linter.unusedVariables false

set_option maxRecDepth 100000 in
set_option maxHeartbeats 1600000 in
theorem rparts_any (c : UInt8) (w : World) :
    Calls Tryd.prog 20 #[.int .u8 (c.toNat : Int)] w fun e w' => e = .returned (.bool (partC c)) ∧ w' = w := by
  go_enter Tryd.func20, Tryd.ntmps20
  go_wp2
  all_goals
    go_ret
    refine ⟨ret_bool ?_, rfl⟩
    rw [Bool.eq_iff_iff]
    simp [partC] <;> omega

theorem digN_drop (s : ByteArray) (k : Nat) (h : k < s.size) : digN (s.data.toList.drop k) = if isD s[k] = true then digN (s.data.toList.drop (k + 1)) + 1 else 0 := by
  have h' : k < s.data.toList.length := by simpa using h
  rw [List.drop_eq_getElem_cons h', bget s k h]
  rfl

theorem isD_iff (c : UInt8) : isD c = true ↔ 48 ≤ c.toNat ∧ c.toNat ≤ 57 := by simp [isD]

set_option maxRecDepth 100000 in
set_option maxHeartbeats 1600000 in
theorem dcount_any (s : ByteArray) (w : World) (hs : s.size ≤ 4611686018427387904) :
    Calls Tryd.prog 52 #[.string s] w fun e w' => e = .returned (.int .i64 (digN s.data.toList : Nat)) ∧ w' = w := by
  go_enter Tryd.func52, Tryd.ntmps52
  go_wp2
  go_loopg [3] (s.size + 1) (fun gk n wr => ∃ k : Nat, n = .int .i64 k ∧ k + gk = s.size + 1 ∧ 1 ≤ gk ∧ digN s.data.toList = k + digN (s.data.toList.drop k) ∧ wr = w)
  case atStart => exact ⟨0, rfl, by omega, by omega, by simp, rfl⟩
  case round =>
    obtain ⟨k, rfl, hk, hg, hd, rfl⟩ := hrel
    by_cases hlt : k < s.size
    · have HD := Lib.hid (digN_drop s k hlt)
      have HE := Lib.hid hd
      clear hd
      by_cases h1 : 48 ≤ s[k].toNat
      · by_cases h2 : s[k].toNat ≤ 57
        · have hI : Hid (isD s[k] = true) := (isD_iff _).2 ⟨h1, h2⟩
          go_wp2
          go_roundg (gk - 1)
          case measure => omega
          case rel => exact ⟨k + 1, by go_num, by omega, by omega, by rw [HE.out, HD.out, if_pos hI.out]; omega, rfl⟩
        · have hI : Hid (¬ isD s[k] = true) := fun h => h2 ((isD_iff _).1 h).2
          go_wp2
          go_ret
          exact ⟨ret_i64 (by rw [HE.out, HD.out, if_neg hI.out]; simp), rfl⟩
      · have hI : Hid (¬ isD s[k] = true) := fun h => h1 ((isD_iff _).1 h).1
        go_wp2
        go_ret
        exact ⟨ret_i64 (by rw [HE.out, HD.out, if_neg hI.out]; simp), rfl⟩
    · have HE := Lib.hid hd
      have hk' : k = s.size := by omega
      subst hk'
      clear hd
      go_wp2
      go_ret
      exact ⟨ret_i64 (by rw [HE.out, List.drop_eq_nil_of_le (by simp)]; simp [digN]), rfl⟩
end Go.Proofs.YtmmkokomffclmaaDoor
