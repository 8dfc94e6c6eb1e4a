/-
  The program's Take and begins (package utf): contracts.
-/
import Derived.Test.YtfpokkpklbkhiaaDoorUtfPutP
import Derived.Test.YtfpokkpklbkhiaaDoorUtfShelf
namespace Go.Proofs.YtfpokkpklbkhiaaDoor
open Go.RowKit
set_option linter.unusedVariables false

theorem dec_yes (s : ByteArray) (r n : Nat) (h : takeU s.data.toList = (r, n, true)) : decB s = (r, n) := by
  unfold decB
  rw [h]
  rfl

theorem dec_no (s : ByteArray) (r n : Nat) (h : takeU s.data.toList = (r, n, false)) : ∃ m, decB s = (65533, m) ∧ m < 3 := by
  unfold decB
  rw [h]
  exact ⟨_, rfl, by split <;> omega⟩

/-- The letter 65533 has three bytes. -/
theorem long_three (l : List UInt8) (n : Nat) (h : takeU l = (65533, n, true)) : n = 3 := (takeU_yes l 65533 n h).2.2.1

set_option maxRecDepth 100000 in
set_option maxHeartbeats 800000 in
theorem takeu_any (s : ByteArray) (r n : Nat) (b : Bool) (w : World) (hT : Tabs w) (h : takeU s.data.toList = (r, n, b)) :
    Calls Tryd.prog 36 #[.string s] w fun e w' => e = .returned (.tuple #[.int .i64 (r : Int), .int .i64 (n : Int), .bool b]) ∧ Below w.heap.size w w' := by
  cases b with
  | true =>
    have HD := Lib.hid (dec_yes s r n h)
    have y := takeU_yes _ _ _ h
    have g1 : (r : Int) ≤ 1114111 := by have := y.1.1; omega
    by_cases h3 : r = 65533
    · subst h3
      have hn := long_three _ _ h
      subst hn
      clear y h
      go_enter Tryd.func36, Tryd.ntmps36
      go_wp2_with fail
      refine (lib_dec s 65533 3 _ hT HD.out).mono ?_
      rintro _ w1 ⟨rfl, hb⟩
      clear HD
      go_wp2
      go_ret3
      exact ⟨rfl, hb⟩
    · have d0 : ((r : Int) == 65533) = false := by rw [beq_eq_false_iff_ne]; omega
      clear y h
      go_enter Tryd.func36, Tryd.ntmps36
      go_wp2_with fail
      refine (lib_dec s r n _ hT HD.out).mono ?_
      rintro _ w1 ⟨rfl, hb⟩
      clear HD
      go_wp2
      go_ret3
      exact ⟨rfl, hb⟩
  | false =>
    obtain ⟨rfl, rfl⟩ := takeU_no _ _ _ h
    obtain ⟨m, hd, hm⟩ := dec_no s _ _ h
    have HD := Lib.hid hd
    have hm' : (m : Int) < 3 := by omega
    clear hd h
    go_enter Tryd.func36, Tryd.ntmps36
    go_wp2_with fail
    refine (lib_dec s 65533 m _ hT HD.out).mono ?_
    rintro _ w1 ⟨rfl, hb⟩
    clear HD
    go_wp2
    go_ret3
    exact ⟨rfl, hb⟩

set_option maxRecDepth 100000 in
set_option maxHeartbeats 400000 in
theorem begins_any (s : ByteArray) (b : Bool) (w : World) (hT : Tabs w) (h : (takeU s.data.toList).2.2 = b) :
    Calls Tryd.prog 30 #[.string s] w fun e w' => e = .returned (.bool b) ∧ Below w.heap.size w w' := by
  obtain ⟨r, n, b', ht⟩ : ∃ r n b', takeU s.data.toList = (r, n, b') := ⟨_, _, _, rfl⟩
  rw [ht] at h
  have e : b' = b := h
  subst e
  have HT := Lib.hid ht
  clear ht h
  go_enter Tryd.func30, Tryd.ntmps30
  go_wp2_with fail
  refine (takeu_any s r n b' _ hT HT.out).mono ?_
  rintro _ w1 ⟨rfl, hb⟩
  clear HT
  go_wp2
  go_ret
  exact ⟨rfl, hb⟩
end Go.Proofs.YtfpokkpklbkhiaaDoor
