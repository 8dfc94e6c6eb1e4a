/-
  A letter by its four digits, as cracknellaw07's QuoteDigits writes it: the closure's contract.
-/
import Derived.BigRegion
import Derived.Test.YtfpokkpklbkhiaaDoorQuoteAlive
namespace Go.Proofs.YtfpokkpklbkhiaaDoor
open Go.RowKit
set_option linter.unusedVariables false

def signsB (g : Bool) : ByteArray := if g then ⟨#[48, 49, 50, 51, 52, 53, 54, 55, 56, 57, 65, 66, 67, 68, 69, 70]⟩ else ⟨#[48, 49, 50, 51, 52, 53, 54, 55, 56, 57, 97, 98, 99, 100, 101, 102]⟩
theorem signs_size (g : Bool) : (signsB g).size = 16 := by cases g <;> rfl
theorem signs_at : ∀ (g : Bool) (a : Fin 16), ((signsB g)[a.1]'(by rw [signs_size]; exact a.2)) = UInt8.ofNat (digG g a.1) := by decide
theorem signs_is (g : Bool) (a : Nat) (h : a < 16) (h' : a < (signsB g).size) : (((signsB g)[a]'h').toNat : Int) = ((UInt8.ofNat (digG g a)).toNat : Int) := by
  rw [show (signsB g)[a]'h' = UInt8.ofNat (digG g a) from signs_at g ⟨a, h⟩]

theorem and_mask (n : Int) (k : Nat) (hk : k ≤ 10) : bits .and .i64 n ((2 ^ k - 1 : Nat) : Int) = n % ((2 ^ k : Nat) : Int) := by
  have hp : (2 : Nat) ^ k ≤ 2 ^ 10 := Nat.pow_le_pow_right (by decide) hk
  have hpos : 0 < (2 : Nat) ^ k := Nat.two_pow_pos k
  have hd : ((2 : Nat) ^ k) ∣ 2 ^ 64 := Nat.pow_dvd_pow 2 (by omega)
  have hm : (BitVec.ofInt 64 ((2 ^ k - 1 : Nat) : Int)).toNat = 2 ^ k - 1 := by
    rw [BitVec.ofInt_natCast, BitVec.toNat_ofNat]
    exact Nat.mod_eq_of_lt (by omega)
  have key : (BitVec.ofInt 64 n &&& BitVec.ofInt 64 ((2 ^ k - 1 : Nat) : Int)).toNat = (n % ((2 ^ 64 : Nat) : Int)).toNat % 2 ^ k := by
    rw [BitVec.toNat_and, BitVec.toNat_ofInt, hm, Nat.and_two_pow_sub_one_eq_mod]
  show IntKind.i64.wrap ((BitVec.ofInt 64 n &&& BitVec.ofInt 64 ((2 ^ k - 1 : Nat) : Int)).toNat : Nat) = _
  rw [key, IntKind.wrap_i64]
  have e1 : ((((n % ((2 ^ 64 : Nat) : Int)).toNat % 2 ^ k : Nat)) : Int) = n % ((2 ^ k : Nat) : Int) := by
    rw [Int.natCast_emod, Int.toNat_of_nonneg (Int.emod_nonneg _ (by decide))]
    exact Int.emod_emod_of_dvd n (Int.natCast_dvd_natCast.2 hd)
  rw [e1]
  have h1 := Int.emod_nonneg n (show ((2 ^ k : Nat) : Int) ≠ 0 by omega)
  have h2 := Int.emod_lt_of_pos n (show (0 : Int) < ((2 ^ k : Nat) : Int) by omega)
  generalize n % ((2 ^ k : Nat) : Int) = m at *
  omega
theorem and15 (n : Int) : bits .and .i64 n 15 = n % 16 := and_mask n 4 (by decide)
theorem and1023 (n : Int) : bits .and .i64 n 1023 = n % 1024 := and_mask n 10 (by decide)

def fourB (g : Bool) (n : Nat) : ByteArray := ⟨(fourL g n).toArray⟩

set_option maxRecDepth 100000 in
set_option maxHeartbeats 1600000 in
theorem four_any (g : Bool) (n : Nat) (N : Int) (X : Nat) (w : World) (hN : N = (n : Int)) (hn : n ≤ 1114111) (hX : w.cell? ⟨X, 0, none⟩ = some (.string (signsB g))) :
    Calls Tryd.prog 16 #[.int .i64 N, .pointer (some ⟨X, 0, none⟩)] w fun e w' => e = .returned (.string (fourB g n)) ∧ Below w.heap.size w w' := by
  obtain ⟨a, ha⟩ : ∃ a, n / 4096 % 16 = a := ⟨_, rfl⟩
  obtain ⟨b, hb⟩ : ∃ b, n / 256 % 16 = b := ⟨_, rfl⟩
  obtain ⟨c, hc⟩ : ∃ c, n / 16 % 16 = c := ⟨_, rfl⟩
  obtain ⟨d, hd⟩ : ∃ d, n % 16 = d := ⟨_, rfl⟩
  have HE : Hid (fourB g n = ⟨#[92, 117, UInt8.ofNat (digG g a), UInt8.ofNat (digG g b), UInt8.ofNat (digG g c), UInt8.ofNat (digG g d)]⟩) := by
    show _ = _
    unfold fourB fourL
    rw [ha, hb, hc, hd]
  obtain ⟨s, hs⟩ : ∃ s, signsB g = s := ⟨_, rfl⟩
  have hz := signs_size g
  have i1 := signs_is g a (by omega)
  have i2 := signs_is g b (by omega)
  have i3 := signs_is g c (by omega)
  have i4 := signs_is g d (by omega)
  rw [hs] at hz i1 i2 i3 i4 hX
  have p1 : a < s.size := by omega
  have p2 : b < s.size := by omega
  have p3 : c < s.size := by omega
  have p4 : d < s.size := by omega
  have P1 : (a : Int) < (s.size : Int) := by omega
  have P2 : (b : Int) < (s.size : Int) := by omega
  have P3 : (c : Int) < (s.size : Int) := by omega
  have P4 : (d : Int) < (s.size : Int) := by omega
  have r1 : bits .and .i64 (N / 4096) 15 = (a : Int) := by rw [and15]; omega
  have r2 : bits .and .i64 (N / 256) 15 = (b : Int) := by rw [and15]; omega
  have r3 : bits .and .i64 (N / 16) 15 = (c : Int) := by rw [and15]; omega
  have r4 : bits .and .i64 N 15 = (d : Int) := by rw [and15]; omega
  have g0 : 0 ≤ N := by omega
  have g1 : N ≤ 1114111 := by omega
  have h6 := fun W => six_backQ 92 117 ((s[a]'p1).toNat : Int) ((s[b]'p2).toNat : Int) ((s[c]'p3).toNat : Int) ((s[d]'p4).toNat : Int) 92 117 _ _ _ _ rfl rfl (i1 p1) (i2 p2) (i3 p3) (i4 p4) W
  clear ha hb hc hd i1 i2 i3 i4 hN hn hs hz
  go_enter Tryd.func16, Tryd.ntmps16
  go_wp2_with fail
  go_region
  all_goals
    go_wp2
    go_ret
    exact ⟨ret_str HE.out.symm, ((Below.refl _ _).alloc (Nat.le_refl _) _).drew⟩
end Go.Proofs.YtfpokkpklbkhiaaDoor
