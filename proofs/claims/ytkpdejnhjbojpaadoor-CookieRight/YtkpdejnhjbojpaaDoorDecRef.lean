/-
  The document's own answers (package cracknelref02): digits, Print, value, Fixed, Unfixed: contracts.
-/
import Derived.Test.YtkpdejnhjbojpaaDoorRows
import Derived.Test.YtkpdejnhjbojpaaDoorDecPlain
import Derived.Test.YtkpdejnhjbojpaaDoorBaseBytes
import Derived.WalkKit
import Derived.WalkSpells
import Derived.WalkLawsBesides
import Derived.Lib.Hide
import Derived.Lib.OthersKept
import Derived.Laws.RangeAny
import Derived.Laws.Bits64
import Derived.Laws.Cover4
import Derived.WalkMore
import Derived.Deep.LoopGhost
import Derived.Laws.IdiomStrings
namespace Go.Proofs.YtkpdejnhjbojpaaDoor
open Go.RowKit
set_option linter.unusedVariables false

/-- What the document's digits hold when j digits are written. -/
def RDigAt (n : Nat) (g : Nat) (w0 : World) (gk : Nat) (left out : Value) (wr : World) : Prop :=
  ∃ j q : Nat, left = .int .u64 (q : Int) ∧ out = .string (padB n j) ∧ j + gk = nd n ∧ 1 ≤ gk ∧ q ≤ n ∧ q = n / 10 ^ j ∧ Below g w0 wr

theorem padB_cons (n j : Nat) (c : UInt8) (h : c = UInt8.ofNat (48 + n / 10 ^ j % 10)) : (⟨#[c]⟩ : ByteArray) ++ padB n j = padB n (j + 1) := by
  subst h
  apply ba_ext
  simp [padB, padK]

theorem u8_toNat (m : Nat) (h : m < 10) : (48 : Int) + (m : Int) = ((UInt8.ofNat (48 + m)).toNat : Int) := by
  rw [dig_toNat m h]
  omega

set_option maxRecDepth 100000 in
set_option maxHeartbeats 800000 in
theorem rdigits_any (n : Nat) (w : World) (h64 : n < 18446744073709551616) :
    Calls Tryd.prog 89 #[.int .u64 (n : Int)] w fun e w' => e = .returned (.string (padB n (nd n))) ∧ Below w.heap.size w w' := by
  have hnd : nd n ≤ 20 := nd_le n 20 (by omega) (by omega) (by omega)
  obtain ⟨k1, k2, k3⟩ := nd_spec n (by omega)
  have K2 := Lib.hid k2
  have K3 := Lib.hid k3
  clear k2 k3
  go_enter Tryd.func89, Tryd.ntmps89
  go_wp2
  go_loopg [0, 3] (nd n) (fun gk left out wr => RDigAt n w.heap.size w gk left out wr)
  case atStart => exact ⟨0, n, rfl, rfl, by omega, k1, Nat.le_refl _, by simp, Below.refl _ _⟩
  case round =>
    obtain ⟨j, q, rfl, rfl, hjk, hg1, hqn, hq, hbe⟩ := hrel
    have HQ := Lib.hid hq
    clear hq
    have hsz : (padB n j).size ≤ 20 := by rw [padB_size]; omega
    have hs1 : ∀ c : UInt8, (ByteArray.mk #[c]).size = 1 := fun _ => rfl
    by_cases h10 : 10 ≤ q
    · obtain ⟨c, hc⟩ : ∃ c : UInt8, c = UInt8.ofNat (48 + q % 10) := ⟨_, rfl⟩
      have hcv := fun W => one_back (48 + (q : Int) % 10) c (by rw [hc, ← u8_toNat _ (Nat.mod_lt _ (by decide))]; omega) W
      have HP := Lib.hid (padB_cons n j c (by rw [hc, HQ.out]))
      have HST := Lib.hid (pow_step n j q HQ.out)
      have hgk : 2 ≤ gk := by
        rcases Nat.lt_or_ge gk 2 with h | h
        · have e : nd n = j + 1 := by omega
          have h2 := K2.out
          rw [e, Nat.pow_succ] at h2
          have := (Nat.div_lt_iff_lt_mul (k := 10 ^ j) (x := n) (y := 10) (pow_pos10 j)).2 (by omega)
          rw [← HQ.out] at this
          omega
        · exact h
      have hss : (ByteArray.mk #[c]).size + (padB n j).size ≤ 9223372036854775807 := by rw [hs1]; omega
      clear hs1 hc
      go_wp2
      go_roundg (gk - 1)
      case measure => omega
      case rel => exact ⟨j + 1, q / 10, by go_num, by rw [HP.out], by omega, by omega, by omega, HST.out, hbe.alloc hbe.size _⟩
    · obtain ⟨c, hc⟩ : ∃ c : UInt8, c = UInt8.ofNat (48 + q) := ⟨_, rfl⟩
      have hcv := fun W => one_back (48 + (q : Int)) c (by rw [hc, ← u8_toNat _ (by omega)]) W
      have HP := Lib.hid (padB_cons n j c (by rw [hc, ← HQ.out, Nat.mod_eq_of_lt (by omega)]))
      have hjn : j + 1 = nd n := by
        have h1 : n < 10 ^ (j + 1) := by
          rw [Nat.pow_succ, Nat.mul_comm]
          exact (Nat.div_lt_iff_lt_mul (pow_pos10 j)).1 (by rw [← HQ.out]; omega)
        have := nd_le n (j + 1) (by omega) (by omega) h1
        omega
      have HJN := Lib.hid hjn
      have hss : (ByteArray.mk #[c]).size + (padB n j).size ≤ 9223372036854775807 := by rw [hs1]; omega
      clear hs1 hc hjn
      go_wp2
      go_ret
      exact ⟨ret_str (by rw [HP.out, HJN.out]), hbe.alloc hbe.size _⟩

set_option maxRecDepth 100000 in
set_option maxHeartbeats 400000 in
theorem rprint_pos (n : Nat) (w : World) (h : n ≤ 9223372036854775807) :
    Calls Tryd.prog 80 #[.int .i64 (n : Int)] w fun e w' => e = .returned (.string (printB n)) ∧ Below w.heap.size w w' := by
  have HP := Lib.hid (printB_pos n)
  go_enter Tryd.func80, Tryd.ntmps80
  go_wp2_with fail
  refine (rdigits_any n _ (by omega)).mono ?_
  rintro _ w1 ⟨rfl, hb1⟩
  go_wp2
  go_ret
  exact ⟨ret_str HP.out.symm, hb1⟩

set_option maxRecDepth 100000 in
set_option maxHeartbeats 400000 in
theorem rprint_neg (n : Nat) (w : World) (h1 : 1 ≤ n) (h : n ≤ 9223372036854775808) :
    Calls Tryd.prog 80 #[.int .i64 (-(n : Int))] w fun e w' => e = .returned (.string (printB (-(n : Int)))) ∧ Below w.heap.size w w' := by
  have H19 := nd_le19 n (by omega)
  have HP := Lib.hid (printB_neg n h1)
  have hneg : (-(n : Int)) < 0 := by omega
  have HM := Lib.hid (minus_pad n (nd n))
  have hsz := padB_size n (nd n)
  have hss : (ByteArray.mk #[45]).size + (padB n (nd n)).size ≤ 9223372036854775807 := by rw [hsz]; show 1 + _ ≤ _; omega
  have hw : -(-(n : Int) + 1) + 1 = n := by omega
  clear hsz
  go_enter Tryd.func80, Tryd.ntmps80
  go_wp2_with fail
  try rw [hw]
  with_reducible refine (rdigits_any n _ (by omega)).mono ?_
  rintro _ w1 ⟨rfl, hb1⟩
  go_wp2
  go_ret
  exact ⟨ret_str (by rw [HP.out, HM.out]), hb1⟩

theorem rprint_any (n : Int) (w : World) (h1 : -9223372036854775808 ≤ n) (h2 : n ≤ 9223372036854775807) :
    Calls Tryd.prog 80 #[.int .i64 n] w fun e w' => e = .returned (.string (printB n)) ∧ Below w.heap.size w w' := by
  by_cases h : 0 ≤ n
  · obtain ⟨m, rfl⟩ := Int.eq_ofNat_of_zero_le h
    exact rprint_pos m w (by omega)
  · obtain ⟨m, hm⟩ : ∃ m : Nat, n = -(m : Int) := ⟨n.natAbs, by omega⟩
    subst hm
    exact rprint_neg m w (by omega) (by omega)

/-- What value holds at place k. -/
def ValAt (s : ByteArray) (n i : Value) : Prop :=
  ∃ k V : Nat, k ≤ s.size ∧ n = .int .u64 (V : Int) ∧ i = .int .i64 (k : Int) ∧ V = valN (s.data.toList.take k) ∧ allD (s.data.toList.take k) = true

theorem valAt_step (s : ByteArray) (k V : Nat) (hk : k < s.size) (hV : V = valN (s.data.toList.take k)) (ha : allD (s.data.toList.take k) = true) (hc : isD s[k] = true) (n i : Value)
    (hn : n = .int .u64 (10 * (V : Int) + (s[k].toNat : Int) - 48)) (hi : i = .int .i64 ((k : Int) + 1)) : ValAt s n i := by
  have hc' : 48 ≤ s[k].toNat ∧ s[k].toNat ≤ 57 := by simpa [isD] using hc
  refine ⟨k + 1, 10 * V + (s[k].toNat - 48), by omega, ?_, ?_, ?_, ?_⟩
  · rw [hn]
    congr 1
    omega
  · rw [hi]
    congr 1
  · rw [take_snoc s k hk, valN_snoc, hV]
  · rw [take_snoc s k hk, allD_snoc _ _ ha, hc]

theorem val_bound (s : ByteArray) (k : Nat) (hk : k < s.size) (h19 : s.size ≤ 19) (h : allD (s.data.toList.take k) = true) : valN (s.data.toList.take k) < 1000000000000000000 := by
  have h1 := valN_lt _ h
  rw [List.length_take, list_len, Nat.min_eq_left (by omega)] at h1
  exact Nat.lt_of_lt_of_le h1 (Nat.pow_le_pow_right (n := 10) (by decide) (show k ≤ 18 by omega))

set_option maxRecDepth 100000 in
set_option maxHeartbeats 800000 in
theorem value_yes (s : ByteArray) (most : Int) (n : Nat) (w : World) (h1 : 1 ≤ s.size) (h2 : s.size ≤ 19) (h3 : (s.size : Int) ≤ most) (h : allD s.data.toList = true) (hv : valN s.data.toList = n) :
    Calls Tryd.prog 79 #[.string s, .int .i64 most] w fun e w' => e = .returned (.tuple #[.int .u64 (n : Int), .bool true]) ∧ w = w' := by
  have HA := Lib.hid h
  have HV := Lib.hid hv
  clear h hv
  go_enter Tryd.func79, Tryd.ntmps79
  go_wp2
  go_loop [6, 7] (fun n i => ValAt s n i) (fun _ i => s.size - (intOf i).toNat)
  case atStart => exact ⟨0, 0, by omega, rfl, rfl, rfl, rfl⟩
  case round =>
    obtain ⟨k, V, hk, rfl, rfl, hV, hall⟩ := hrel
    have Hall := Lib.hid hall
    have HVV := Lib.hid hV
    clear hall hV
    by_cases hlt : k < s.size
    · have hcd : isD s[k] = true := by
        have := HA.out
        unfold allD at this
        rw [List.all_eq_true] at this
        exact this _ (by rw [← bget s k hlt]; exact List.getElem_mem _)
      have hc : 48 ≤ s[k].toNat ∧ s[k].toNat ≤ 57 := by simpa [isD] using hcd
      obtain ⟨hc1, hc2⟩ := hc
      have HCD := Lib.hid hcd
      have hb : V < 1000000000000000000 := by rw [HVV.out]; exact val_bound s k hlt h2 Hall.out
      clear hcd
      go_wp2
      go_round
      case rel => exact valAt_step s k V hlt HVV.out Hall.out HCD.out _ _ rfl rfl
      case measure => simp [intOf]; omega
    · go_wp2
      go_ret2
      refine ⟨ret_u64b true ?_, rfl⟩
      have e : V = n := by
        rw [HVV.out, List.take_of_length_le (by rw [list_len]; omega)]
        exact HV.out
      rw [e]

set_option maxRecDepth 100000 in
set_option maxHeartbeats 800000 in
theorem value_no (s : ByteArray) (most : Int) (w : World) (hs : s.size ≤ maxLen) (hm : most ≤ 19) (h : s.size = 0 ∨ most < (s.size : Int) ∨ allD s.data.toList = false) :
    Calls Tryd.prog 79 #[.string s, .int .i64 most] w fun e w' => e = .returned (.tuple #[.int .u64 0, .bool false]) ∧ w = w' := by
  unfold maxLen at hs
  by_cases h0 : s.size < 1
  · clear h
    go_enter Tryd.func79, Tryd.ntmps79
    go_wp2
    go_ret2
    exact ⟨rfl, rfl⟩
  · by_cases h1 : most < (s.size : Int)
    · clear h
      go_enter Tryd.func79, Tryd.ntmps79
      go_wp2
      go_ret2
      exact ⟨rfl, rfl⟩
    · have ha : allD s.data.toList = false := by
        rcases h with h | h | h
        · omega
        · omega
        · exact h
      have HA := Lib.hid ha
      have h2 : s.size ≤ 19 := by omega
      clear h ha
      go_enter Tryd.func79, Tryd.ntmps79
      go_wp2
      go_loop [6, 7] (fun n i => ValAt s n i) (fun _ i => s.size - (intOf i).toNat)
      case atStart => exact ⟨0, 0, by omega, rfl, rfl, rfl, rfl⟩
      case round =>
        obtain ⟨k, V, hk, rfl, rfl, hV, hall⟩ := hrel
        have Hall := Lib.hid hall
        have HVV := Lib.hid hV
        clear hall hV
        by_cases hlt : k < s.size
        · have hb : V < 1000000000000000000 := by rw [HVV.out]; exact val_bound s k hlt h2 Hall.out
          rcases (show s[k].toNat < 48 ∨ (48 ≤ s[k].toNat ∧ s[k].toNat ≤ 57) ∨ (48 ≤ s[k].toNat ∧ 57 < s[k].toNat) from by omega) with hc | ⟨hc1, hc2⟩ | ⟨hc1, hc2⟩
          · go_wp2
            go_ret2
            exact ⟨rfl, rfl⟩
          · have HCD : Hid (isD s[k] = true) := by show _ = _; simp [isD, hc1, hc2]
            go_wp2
            go_round
            case rel => exact valAt_step s k V hlt HVV.out Hall.out HCD.out _ _ rfl rfl
            case measure => simp [intOf]; omega
          · go_wp2
            go_ret2
            exact ⟨rfl, rfl⟩
        · exfalso
          have h := Hall.out
          rw [List.take_of_length_le (by rw [list_len]; omega), HA.out] at h
          cases h

end Go.Proofs.YtkpdejnhjbojpaaDoor
