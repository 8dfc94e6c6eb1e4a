/-
  first of package ascii: a contract.
-/
import Derived.Test.YthempdglmhmfeaaDoorAscMth
namespace Go.Proofs.YthempdglmhmfeaaDoor
open Go.RowKit
set_option linter.unusedVariables false

set_option maxHeartbeats 400000 in
/-- first: the place of the first byte of which the closure says yes. -/
theorem first_any (N : Nat) (cap : Value) (p : Int → Bool) (s : ByteArray) (w : World) (hs : s.size ≤ maxLen)
    (hN : ∀ args w, Sem.run Tryd.prog (callFunc N args) w = .ok (.enter N args) w)
    (hp : Hid (∀ c, Calls Tryd.prog N #[.int .u8 c, cap] w fun e w' => e = .returned (.bool (p c)) ∧ w = w')) :
    Calls Tryd.prog 49 #[.string s, .func (.func N) #[] #[cap]] w fun e w' => e = .returned (.int .i64 (firstAt p s.data.toList)) ∧ w = w' := by
  unfold maxLen at hs
  go_enter Tryd.func49, Tryd.ntmps49
  go_wp2
  go_loop [8] (fun i => ∃ k : Nat, k ≤ s.size ∧ i = .int .i64 k ∧ firstAt p (s.data.toList.take k) = k) (fun i => s.size - (intOf i).toNat)
  case atStart => exact ⟨0, Nat.zero_le _, rfl, by simp [firstAt]⟩
  case round =>
    obtain ⟨k, hk, rfl, hno⟩ := hrel
    have Hno := Lib.hid hno
    clear hno
    by_cases hlt : k < s.size
    · go_wp2_with fail
      refine (hp.out _).mono ?_
      rintro e w' ⟨rfl, rfl⟩
      have hg := Lib.hid (bget s k hlt)
      have hit := Lib.hid (firstAt_hit p s.data.toList k (by simpa using hlt) Hno.out)
      have miss := Lib.hid (firstAt_miss p s.data.toList k (by simpa using hlt) Hno.out)
      cases hb : p (s[k].toNat : Int)
      · go_wp2
        go_round
        case rel => exact ⟨k + 1, by omega, by go_num, miss.out (by rw [hg.out]; exact hb)⟩
        case measure => simp [intOf]; omega
      · go_wp2
        go_ret
        exact ⟨ret_i64 (by rw [hit.out (by rw [hg.out]; exact hb)]), rfl⟩
    · go_wp2
      go_ret
      have e : k = s.size := by omega
      subst e
      refine ⟨ret_i64 ?_, rfl⟩
      have h := Hno.out
      rw [List.take_of_length_le (by simp)] at h
      rw [h]
end Go.Proofs.YthempdglmhmfeaaDoor
