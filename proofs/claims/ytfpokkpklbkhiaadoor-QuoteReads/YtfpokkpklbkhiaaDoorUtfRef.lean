/-
  The document's own answers (package cracknelref05): Letter, Put, first, Take: contracts.
-/
import Derived.Test.YtfpokkpklbkhiaaDoorUtfMath
import Derived.Test.YtfpokkpklbkhiaaDoorBaseBytes
import Derived.Test.YtfpokkpklbkhiaaDoorBaseDraw
import Derived.Test.YtfpokkpklbkhiaaDoorBaseInts
namespace Go.Proofs.YtfpokkpklbkhiaaDoor
open Go.RowKit
set_option linter.unusedVariables false

def letB (r : Int) : Bool := decide (0 ≤ r) && decide (letter r.toNat)

theorem letB_nat (r : Nat) : letB (r : Int) = decide (letter r) := by simp [letB]

theorem letB_iff (r : Int) : letB r = true ↔ 0 ≤ r ∧ r ≤ 1114111 ∧ (r < 55296 ∨ 57343 < r) := by
  unfold letB
  rw [Bool.and_eq_true, decide_eq_true_eq, decide_eq_true_eq]
  unfold letter
  omega

theorem ret_yes {a b : ByteArray} (h : a = b) : Ending.returned (.tuple #[.string a, .bool true]) = .returned (.tuple #[.string b, .bool true]) := by rw [h]

set_option maxRecDepth 100000 in
set_option maxHeartbeats 400000 in
theorem rletter_any (r : Int) (w : World) : Calls Tryd.prog 29 #[.int .i64 r] w fun e w' => e = .returned (.bool (letB r)) ∧ w = w' := by
  have HL := Lib.hid (letB_iff r)
  rcases (show r < 0 ∨ (0 ≤ r ∧ 1114111 < r) ∨ (0 ≤ r ∧ r ≤ 1114111 ∧ r < 55296) ∨ (0 ≤ r ∧ r ≤ 1114111 ∧ 55296 ≤ r ∧ 57343 < r) ∨ (0 ≤ r ∧ r ≤ 1114111 ∧ 55296 ≤ r ∧ r ≤ 57343) from by omega) with h | ⟨h, h'⟩ | ⟨h, h', h''⟩ | ⟨h, h', h'', h3⟩ | ⟨h, h', h'', h3⟩
  all_goals
    go_enter Tryd.func29, Tryd.ntmps29
    go_wp2
    go_ret
    refine ⟨ret_bool ?_, rfl⟩
    rw [Bool.eq_iff_iff, HL.out]
    simp
    try omega

def putUB (r : Nat) : ByteArray := ⟨(putU r).toArray⟩

theorem putUB_1 (r : Nat) (h : r < 128) : putUB r = ⟨#[UInt8.ofNat r]⟩ := by unfold putUB putU; rw [if_pos h]
theorem putUB_2 (r : Nat) (h1 : ¬ r < 128) (h : r < 2048) : putUB r = ⟨#[UInt8.ofNat (192 + r / 64), UInt8.ofNat (128 + r % 64)]⟩ := by unfold putUB putU; rw [if_neg h1, if_pos h]
theorem putUB_3 (r : Nat) (h1 : ¬ r < 128) (h2 : ¬ r < 2048) (h : r < 65536) : putUB r = ⟨#[UInt8.ofNat (224 + r / 4096), UInt8.ofNat (128 + r / 64 % 64), UInt8.ofNat (128 + r % 64)]⟩ := by unfold putUB putU; rw [if_neg h1, if_neg h2, if_pos h]
theorem putUB_4 (r : Nat) (h1 : ¬ r < 128) (h2 : ¬ r < 2048) (h3 : ¬ r < 65536) : putUB r = ⟨#[UInt8.ofNat (240 + r / 262144), UInt8.ofNat (128 + r / 4096 % 64), UInt8.ofNat (128 + r / 64 % 64), UInt8.ofNat (128 + r % 64)]⟩ := by unfold putUB putU; rw [if_neg h1, if_neg h2, if_neg h3]

theorem nat_u8 (n : Nat) (v : Int) (h : n < 256) (hv : v = (n : Int)) : v = ((UInt8.ofNat n).toNat : Int) := by
  rw [u8n n h]
  exact hv

set_option maxRecDepth 100000 in
set_option maxHeartbeats 800000 in
theorem at_rputu (r : Nat) (R : Int) (w : World) (hR : R = (r : Int)) (hr : letter r) :
    Calls Tryd.prog 15 #[.int .i64 R] w fun e w' => e = .returned (.tuple #[.string (putUB r), .bool true]) ∧ Below w.heap.size w w' := by
  have h0 := hr.1
  have HL : Hid (letB R = true) := by show _ = _; rw [hR, letB_nat]; simpa using hr
  have g0 : 0 ≤ R := by omega
  have g1 : R ≤ 1114111 := by omega
  clear hr
  by_cases h1 : r < 128
  · have hcv := one_back R (UInt8.ofNat r) (nat_u8 r _ (by omega) hR)
    rw [← putUB_1 r h1] at hcv
    have k1 : R < 128 := by omega
    clear hR h0 h1
    go_enter Tryd.func15, Tryd.ntmps15
    go_wp2_with fail
    refine (rletter_any _ _).mono ?_
    rintro _ w1 ⟨rfl, rfl⟩
    rw [HL.out]
    clear HL
    go_wp2
    go_ret2
    exact ⟨rfl, (Below.refl _ _).alloc (Nat.le_refl _) _⟩
  · by_cases h2 : r < 2048
    · have hcv := two_back (192 + R / 64) (128 + R % 64) _ _ (nat_u8 (192 + r / 64) _ (by omega) (by omega)) (nat_u8 (128 + r % 64) _ (by omega) (by omega))
      rw [← putUB_2 r h1 h2] at hcv
      have k1 : 128 ≤ R := by omega
      have k2 : R < 2048 := by omega
      clear hR h0 h1 h2
      go_enter Tryd.func15, Tryd.ntmps15
      go_wp2_with fail
      refine (rletter_any _ _).mono ?_
      rintro _ w1 ⟨rfl, rfl⟩
      rw [HL.out]
      clear HL
      go_wp2
      go_ret2
      exact ⟨rfl, (Below.refl _ _).alloc (Nat.le_refl _) _⟩
    · by_cases h3 : r < 65536
      · have hcv := three_back (224 + R / 4096) (128 + R / 64 % 64) (128 + R % 64) _ _ _ (nat_u8 (224 + r / 4096) _ (by omega) (by omega)) (nat_u8 (128 + r / 64 % 64) _ (by omega) (by omega)) (nat_u8 (128 + r % 64) _ (by omega) (by omega))
        rw [← putUB_3 r h1 h2 h3] at hcv
        have k2 : 2048 ≤ R := by omega
        have k3 : R < 65536 := by omega
        clear hR h0 h1 h2 h3
        go_enter Tryd.func15, Tryd.ntmps15
        go_wp2_with fail
        refine (rletter_any _ _).mono ?_
        rintro _ w1 ⟨rfl, rfl⟩
        rw [HL.out]
        clear HL
        go_wp2
        go_ret2
        exact ⟨rfl, (Below.refl _ _).alloc (Nat.le_refl _) _⟩
      · have hcv := four_back (240 + R / 262144) (128 + R / 4096 % 64) (128 + R / 64 % 64) (128 + R % 64) _ _ _ _ (nat_u8 (240 + r / 262144) _ (by omega) (by omega)) (nat_u8 (128 + r / 4096 % 64) _ (by omega) (by omega)) (nat_u8 (128 + r / 64 % 64) _ (by omega) (by omega)) (nat_u8 (128 + r % 64) _ (by omega) (by omega))
        rw [← putUB_4 r h1 h2 h3] at hcv
        have k3 : 65536 ≤ R := by omega
        clear hR h0 h1 h2 h3
        go_enter Tryd.func15, Tryd.ntmps15
        go_wp2_with fail
        refine (rletter_any _ _).mono ?_
        rintro _ w1 ⟨rfl, rfl⟩
        rw [HL.out]
        clear HL
        go_wp2
        go_ret2
        exact ⟨rfl, (Below.refl _ _).alloc (Nat.le_refl _) _⟩

theorem rputu_yes (r : Nat) (w : World) (hr : letter r) :
    Calls Tryd.prog 15 #[.int .i64 (r : Int)] w fun e w' => e = .returned (.tuple #[.string (putUB r), .bool true]) ∧ Below w.heap.size w w' := at_rputu r _ w rfl hr

set_option maxRecDepth 100000 in
set_option maxHeartbeats 400000 in
theorem rputu_no (r : Int) (w : World) (hr : letB r = false) :
    Calls Tryd.prog 15 #[.int .i64 r] w fun e w' => e = .returned (.tuple #[.string ByteArray.empty, .bool false]) ∧ Below w.heap.size w w' := by
  have HL := Lib.hid hr
  clear hr
  go_enter Tryd.func15, Tryd.ntmps15
  go_wp2_with fail
  refine (rletter_any _ _).mono ?_
  rintro _ w1 ⟨rfl, rfl⟩
  rw [HL.out]
  go_wp2
  go_ret2
  exact ⟨rfl, Below.refl _ _⟩

theorem ret_two {a b c d : Int} (h1 : a = c) (h2 : b = d) : Ending.returned (.tuple #[.int .i64 a, .int .i64 b]) = .returned (.tuple #[.int .i64 c, .int .i64 d]) := by rw [h1, h2]

set_option maxRecDepth 100000 in
set_option maxHeartbeats 400000 in
theorem rfirst_any (c long n : Nat) (w : World) (hc : c < 256) (h : firstU c = (long, n)) :
    Calls Tryd.prog 46 #[.int .i64 (c : Int)] w fun e w' => e = .returned (.tuple #[.int .i64 (long : Int), .int .i64 (n : Int)]) ∧ w = w' := by
  have HF := Lib.hid h
  clear h
  rcases (show c < 128 ∨ (128 ≤ c ∧ c < 192) ∨ (192 ≤ c ∧ c < 224) ∨ (224 ≤ c ∧ c < 240) ∨ (240 ≤ c ∧ c < 248) ∨ 248 ≤ c from by omega) with h | ⟨h, h'⟩ | ⟨h, h'⟩ | ⟨h, h'⟩ | ⟨h, h'⟩ | h
  all_goals
    go_enter Tryd.func46, Tryd.ntmps46
    go_wp2
    go_ret2
    have hf := HF.out
    unfold firstU at hf
    refine ⟨?_, rfl⟩
    (first
      | (rw [if_pos (by omega)] at hf; cases hf; exact ret_two (by rfl) (by omega))
      | (rw [if_neg (by omega), if_pos (by omega)] at hf; cases hf; exact ret_two (by rfl) (by omega))
      | (rw [if_neg (by omega), if_neg (by omega), if_pos (by omega)] at hf; cases hf; exact ret_two (by rfl) (by omega))
      | (rw [if_neg (by omega), if_neg (by omega), if_neg (by omega), if_pos (by omega)] at hf; cases hf; exact ret_two (by rfl) (by omega))
      | (rw [if_neg (by omega), if_neg (by omega), if_neg (by omega), if_neg (by omega)] at hf; cases hf; exact ret_two (by rfl) (by rfl)))
end Go.Proofs.YtfpokkpklbkhiaaDoor
