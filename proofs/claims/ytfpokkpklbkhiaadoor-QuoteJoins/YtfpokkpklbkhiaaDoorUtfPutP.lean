/-
  The program's letter and Put (package utf): contracts.
-/
import Derived.Test.YtfpokkpklbkhiaaDoorUtfRunesR
import Derived.Laws.Runes
namespace Go.Proofs.YtfpokkpklbkhiaaDoor
open Go.RowKit
set_option linter.unusedVariables false

set_option maxRecDepth 100000 in
set_option maxHeartbeats 400000 in
theorem letter_any (r : Int) (w : World) : Calls Tryd.prog 37 #[.int .i64 r] w fun e w' => e = .returned (.bool (letB r)) ∧ w = w' := by
  have HL := Lib.hid (letB_iff r)
  rcases (show r < 0 ∨ (0 ≤ r ∧ 57343 < r ∧ 1114111 < r) ∨ (0 ≤ r ∧ r ≤ 1114111 ∧ r < 55296) ∨ (0 ≤ r ∧ r ≤ 1114111 ∧ 55296 ≤ r ∧ 57343 < r) ∨ (0 ≤ r ∧ r ≤ 1114111 ∧ 55296 ≤ r ∧ r ≤ 57343) from by omega) with h | ⟨h, h', h''⟩ | ⟨h, h', h''⟩ | ⟨h, h', h'', h3⟩ | ⟨h, h', h'', h3⟩
  all_goals
    go_enter Tryd.func37, Tryd.ntmps37
    go_wp2
    go_ret
    refine ⟨ret_bool ?_, rfl⟩
    rw [Bool.eq_iff_iff, HL.out]
    simp
    try omega

/-- What the language makes of a letter's number. -/
theorem encode_put (r : Nat) (h : letter r) : Utf8.encode (r : Int) = putUB r := by
  have hv : Utf8.valid (r : Int) = true := by rw [valid_letter]; simpa using h
  unfold Utf8.encode putUB putU
  simp only [hv, if_true, Int.toNat_natCast]
  repeat' split
  all_goals first | rfl | (exfalso; omega)

theorem enc_back (r : Nat) (R : Int) (hR : R = (r : Int)) (hr : letter r) (W : World) : Sem.run Tryd.prog (convert 21 9 (.int .i32 R)) W = .ok (.string (putUB r)) W := by
  rw [run_convert_int_string W 21 9 .i32 R (by rw [Tryd.underlying21]; rfl) Tryd.underlying9, hR, encode_put r hr]

theorem at_letter {r : Int} {b : Bool} (w : World) (h : letB r = b) : Calls Tryd.prog 37 #[.int .i64 r] w fun e w' => e = .returned (.bool b) ∧ w = w' := h ▸ letter_any r w

set_option maxRecDepth 100000 in
set_option maxHeartbeats 800000 in
theorem at_putu (r : Nat) (R : Int) (w : World) (hR : R = (r : Int)) (hr : letter r) :
    Calls Tryd.prog 26 #[.int .i64 R] w fun e w' => e = .returned (.tuple #[.string (putUB r), .bool true]) ∧ Below w.heap.size w w' := by
  have h0 := hr.1
  have HL : Hid (letB R = true) := by show _ = _; rw [hR, letB_nat]; simpa using hr
  have g0 : 0 ≤ R := by omega
  have g1 : R ≤ 1114111 := by omega
  have hcv := enc_back r R hR hr
  clear hr hR h0
  go_enter Tryd.func26, Tryd.ntmps26
  go_wp2_with fail
  refine (at_letter _ HL.out).mono ?_
  rintro _ w1 ⟨rfl, rfl⟩
  clear HL
  go_wp2
  go_ret2
  exact ⟨rfl, Below.refl _ _⟩

theorem putu_yes (r : Nat) (w : World) (hr : letter r) :
    Calls Tryd.prog 26 #[.int .i64 (r : Int)] w fun e w' => e = .returned (.tuple #[.string (putUB r), .bool true]) ∧ Below w.heap.size w w' := at_putu r _ w rfl hr

set_option maxRecDepth 100000 in
set_option maxHeartbeats 400000 in
theorem putu_no (r : Int) (w : World) (h1 : -9223372036854775808 ≤ r) (h2 : r ≤ 9223372036854775807) (hr : letB r = false) :
    Calls Tryd.prog 26 #[.int .i64 r] w fun e w' => e = .returned (.tuple #[.string ByteArray.empty, .bool false]) ∧ Below w.heap.size w w' := by
  have HL := Lib.hid hr
  clear hr
  go_enter Tryd.func26, Tryd.ntmps26
  go_wp2_with fail
  refine (at_letter _ HL.out).mono ?_
  rintro _ w1 ⟨rfl, rfl⟩
  clear HL
  go_wp2
  go_ret2
  exact ⟨rfl, Below.refl _ _⟩
end Go.Proofs.YtfpokkpklbkhiaaDoor
