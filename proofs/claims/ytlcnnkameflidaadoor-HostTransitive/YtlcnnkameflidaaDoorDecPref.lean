/-
  strings.CutPrefix and what it calls: contracts.
-/
import Derived.Test.YtlcnnkameflidaaDoorRows
import Derived.Test.YtlcnnkameflidaaDoorDecPlain
import Derived.WalkKit
import Derived.WalkSpells
import Derived.WalkLawsBesides
import Derived.Lib.Hide
namespace Go.Proofs.YtlcnnkameflidaaDoor
open Go.RowKit
set_option linter.unusedVariables false

set_option maxHeartbeats 400000 in
theorem hasprefix_any (s p : ByteArray) (w : World) (hs : s.size ≤ maxLen) (hp : p.size ≤ maxLen) :
    Calls Tryd.prog 56 #[.string s, .string p] w fun e w' => e = .returned (.bool (prefB s p)) ∧ w = w' := by
  unfold maxLen at hs hp
  by_cases h : p.size ≤ s.size
  · have HE : Hid (prefB s p = ((s.extract 0 p.size).toList == p.toList)) := by show _ = _; simp [prefB, h]
    go_enter Tryd.func56, Tryd.ntmps56
    go_wp2
    go_ret
    exact ⟨ret_bool HE.out.symm, rfl⟩
  · have HE : Hid (prefB s p = false) := by show _ = _; simp [prefB, h]
    go_enter Tryd.func56, Tryd.ntmps56
    go_wp2
    go_ret
    exact ⟨ret_bool HE.out.symm, rfl⟩

set_option maxHeartbeats 400000 in
theorem cutp_yes (s p : ByteArray) (w : World) (hs : s.size ≤ maxLen) (hp : p.size ≤ maxLen) (h : prefB s p = true) :
    Calls Tryd.prog 41 #[.string s, .string p] w fun e w' => e = .returned (.tuple #[.string (s.extract p.size s.size), .bool true]) ∧ w = w' := by
  have hle : p.size ≤ s.size := by
    unfold prefB at h
    simp at h
    exact h.1
  have H := Lib.hid h
  clear h
  have in23 : Calls Tryd.prog 49 #[.string s, .string p] w fun e w' => e = .returned (.tuple #[.string (s.extract p.size s.size), .bool true]) ∧ w = w' := by
    go_enter Tryd.func49, Tryd.ntmps49
    go_wp2_with fail
    refine (hasprefix_any s p _ hs hp).mono ?_
    rintro e w' ⟨rfl, rfl⟩
    rw [H.out]
    unfold maxLen at hs hp
    go_wp2
    go_ret2
    exact ⟨rfl, rfl⟩
  go_enter Tryd.func41, Tryd.ntmps41
  go_wp2_with fail
  refine in23.mono ?_
  rintro e w' ⟨rfl, rfl⟩
  go_wp2
  go_ret2
  exact ⟨rfl, rfl⟩

set_option maxHeartbeats 400000 in
theorem cutp_no (s p : ByteArray) (w : World) (hs : s.size ≤ maxLen) (hp : p.size ≤ maxLen) (h : prefB s p = false) :
    Calls Tryd.prog 41 #[.string s, .string p] w fun e w' => e = .returned (.tuple #[.string s, .bool false]) ∧ w = w' := by
  have H := Lib.hid h
  clear h
  have in23 : Calls Tryd.prog 49 #[.string s, .string p] w fun e w' => e = .returned (.tuple #[.string s, .bool false]) ∧ w = w' := by
    go_enter Tryd.func49, Tryd.ntmps49
    go_wp2_with fail
    refine (hasprefix_any s p _ hs hp).mono ?_
    rintro e w' ⟨rfl, rfl⟩
    rw [H.out]
    go_wp2
    go_ret2
    exact ⟨rfl, rfl⟩
  go_enter Tryd.func41, Tryd.ntmps41
  go_wp2_with fail
  refine in23.mono ?_
  rintro e w' ⟨rfl, rfl⟩
  go_wp2
  go_ret2
  exact ⟨rfl, rfl⟩
end Go.Proofs.YtlcnnkameflidaaDoor
