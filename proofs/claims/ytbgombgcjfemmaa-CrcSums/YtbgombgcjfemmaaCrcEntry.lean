/-
  entry, Step and Table of package crc: contracts.
-/
import Derived.Test.YtbgombgcjfemmaaCrcTab
import Derived.Test.YtbgombgcjfemmaaBaseStrs
namespace Go.Proofs.Ytbgombgcjfemmaa
open Go.RowKit
set_option linter.unusedVariables false

theorem ret_u32 {a b : Int} (h : a = b) : Ending.returned (.int .u32 a) = .returned (.int .u32 b) := by rw [h]

/-- What entry holds. -/
def EntryP (c : Nat) (num i : Value) : Prop := ∃ k x : Nat, k ≤ 8 ∧ num = .int .u32 (x : Int) ∧ i = .int .i64 (k : Int) ∧ x < 4294967296 ∧ crcN (8 - k) x = crcN 8 c

theorem turned_odd (x : Nat) (hx : x < 4294967296) (h : x % 2 = 1) : bits .xor .u32 ((x : Int) / 2) 3988292384 = (crcT x : Int) := by
  have h1 := xor_u32 (x / 2) 3988292384 (by omega) (by omega)
  rw [crcT_odd x h] at h1
  rw [← h1]
  congr 1

set_option maxRecDepth 100000 in
set_option maxHeartbeats 400000 in
theorem entry_any (c : Nat) (w : World) (hc : c < 256) :
    Calls Try.prog 21 #[.int .u8 (c : Int)] w fun e w' => e = .returned (.int .u32 (crcN 8 c : Int)) ∧ w = w' := by
  go_enter Try.func21, Try.ntmps21
  go_wp2
  go_loop [3, 7] (fun num i => EntryP c num i) (fun _ i => 8 - (intOf i).toNat)
  case atStart => exact ⟨0, c, by omega, rfl, rfl, by omega, rfl⟩
  case round =>
    obtain ⟨k, x, hk, rfl, rfl, hx, hN⟩ := hrel
    have HN := Lib.hid hN
    clear hN
    by_cases h8 : k < 8
    · have HS := Lib.hid (entry_step c k x h8 HN.out)
      have HT := Lib.hid (crcT_lt x hx)
      clear HN
      rcases Nat.mod_two_eq_zero_or_one x with hm | hm
      · have HE := Lib.hid (crcT_ev x hm)
        have hm2 : ((x : Int) % 2 == 1) = false := by rw [beq_eq_false_iff_ne]; omega
        clear hm
        go_wp2
        go_round
        case rel => exact ⟨k + 1, x / 2, by omega, by go_num, by go_num, by omega, by rw [HE.out]; exact HS.out⟩
        case measure => simp [intOf]; omega
      · have he := turned_odd x hx hm
        have hm2 : ((x : Int) % 2 == 1) = true := by rw [beq_iff_eq]; omega
        clear hm
        go_wp2
        go_round
        case rel => exact ⟨k + 1, crcT x, by omega, rfl, by go_num, HT.out, HS.out⟩
        case measure => simp [intOf]; omega
    · have e : k = 8 := by omega
      subst e
      go_wp2
      go_ret
      refine ⟨ret_u32 ?_, rfl⟩
      have h : x = crcN 8 c := HN.out
      rw [h]

theorem at_entry {A : Int} {a v : Nat} (w : World) (hA : A = (a : Int)) (ha : a < 256) (hv : crcN 8 a = v) :
    Calls Try.prog 21 #[.int .u8 A] w fun e w' => e = .returned (.int .u32 (v : Int)) ∧ w = w' := by
  subst hA hv
  exact entry_any a w ha

/-- One byte, by an entry. -/
theorem step_parts (s c : Nat) (hs : s < 4294967296) (hc : c < 256) : ∃ x y : Nat, x < 256 ∧ y < 4294967296 ∧ crcN 8 x = y ∧ bits .xor .u8 (c : Int) ((s : Int) % 256) = (x : Int) ∧ bits .xor .u32 ((s : Int) / 256) (y : Int) = (crcStep s c : Int) := by
  have hx8 : c ^^^ s % 256 < 256 := Nat.xor_lt_two_pow (n := 8) hc (by omega)
  have hy : crcN 8 (c ^^^ s % 256) < 4294967296 := crcN_lt 8 _ (by omega)
  refine ⟨c ^^^ s % 256, crcN 8 (c ^^^ s % 256), hx8, hy, rfl, ?_, ?_⟩
  · have h := xor_u8 c (s % 256) hc (by omega)
    rw [← h]
    congr 1
  · have h := xor_u32 (s / 256) _ (by omega) hy
    rw [crcStep_table s c hc, Nat.xor_comm (s % 256), ← h]
    congr 1

theorem crcStep_lt (s c : Nat) (hs : s < 4294967296) (hc : c < 256) : crcStep s c < 4294967296 := crcN_lt 8 _ (Nat.xor_lt_two_pow (n := 32) hs (by omega))

set_option maxRecDepth 100000 in
set_option maxHeartbeats 400000 in
theorem step_same (s c : Nat) (w : World) (hs : s < 4294967296) (hc : c < 256) :
    Calls Try.prog 13 #[.int .u32 (s : Int), .int .u8 (c : Int)] w fun e w' => e = .returned (.int .u32 (crcStep s c : Int)) ∧ w = w' := by
  obtain ⟨x, y, hx, hy, he, h1, h2⟩ := step_parts s c hs hc
  have HE := Lib.hid he
  clear he
  go_enter Try.func13, Try.ntmps13
  go_wp2_with fail
  refine (at_entry (a := x) (v := y) _ rfl hx HE.out).mono ?_
  rintro _ w1 ⟨rfl, rfl⟩
  go_wp2
  go_ret
  exact ⟨rfl, rfl⟩

theorem step_any (s c : Nat) (w : World) (hs : s < 4294967296) (hc : c < 256) :
    Calls Try.prog 13 #[.int .u32 (s : Int), .int .u8 (c : Int)] w fun e w' => e = .returned (.int .u32 (crcStep s c : Int)) ∧ Below w.heap.size w w' :=
  (step_same s c w hs hc).mono fun _ _ ⟨he, hw⟩ => ⟨he, hw ▸ Below.refl _ _⟩
end Go.Proofs.Ytbgombgcjfemmaa
