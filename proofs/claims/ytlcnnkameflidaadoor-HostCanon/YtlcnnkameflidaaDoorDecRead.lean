/-
  Read of package dec: contracts.
-/
import Derived.Test.YtlcnnkameflidaaDoorDecFns
namespace Go.Proofs.YtlcnnkameflidaaDoor
open Go.RowKit
set_option linter.unusedVariables false

set_option maxRecDepth 100000 in
set_option maxHeartbeats 800000 in
theorem read_pos (n : Nat) (s : ByteArray) (w : World) (hn : n ≤ 9223372036854775807) (hs : printB (n : Int) = s) :
    Calls Tryd.prog 33 #[.string s] w fun e w' => e = .returned (.tuple #[.int .i64 (n : Int), .bool true]) ∧ Below w.heap.size w w' := by
  have hl : s.data.toList = padK n (nd n) := by rw [← hs, printB_pos, padB_list]
  have hz : s.size ≤ 19 := by rw [← list_len, hl, padK_len]; exact nd_le19 n (by omega)
  have hm : prefB s ⟨#[45]⟩ = false := by
    rw [← Bool.not_eq_true, pref_minus]
    rintro ⟨r, hr⟩
    exact padK_head n (nd n) (nd_spec n (by omega)).1 r (by rw [← hl, hr])
  have HA : Hid (allD s.data.toList = true) := by show _ = _; rw [hl]; exact padK_all _ _
  have HV : Hid (valN s.data.toList % 18446744073709551616 = n) := by show _ = _; rw [hl]; exact val_pad_nd n (by omega)
  have hq : ((printB (n : Int)).toList == s.toList) = true := by rw [hs]; simp
  have HM := Lib.hid hm
  clear hm hl hs
  go_enter Tryd.func33, Tryd.ntmps33
  go_wp2_with fail
  refine (cutp_no s _ _ (by unfold maxLen; omega) (by decide) HM.out).mono ?_
  rintro _ w1 ⟨rfl, rfl⟩
  go_wp2_with fail
  refine (at_worth (n := n) _ (by unfold maxLen; omega) HA.out HV.out).mono ?_
  rintro _ w1 ⟨rfl, hb1⟩
  go_wp2_with fail
  refine (print_any n _ (by omega) (by omega)).mono ?_
  rintro _ w2 ⟨rfl, hb⟩
  have hb2 := chain hb1 hb
  clear hb hb1
  go_wp2
  go_ret2
  exact ⟨rfl, hb2⟩

set_option maxRecDepth 100000 in
set_option maxHeartbeats 800000 in
theorem read_neg (n : Nat) (s : ByteArray) (w : World) (h1 : 1 ≤ n) (hn : n ≤ 9223372036854775808) (hs : printB (-(n : Int)) = s) :
    Calls Tryd.prog 33 #[.string s] w fun e w' => e = .returned (.tuple #[.int .i64 (-(n : Int)), .bool true]) ∧ Below w.heap.size w w' := by
  have hl : s.data.toList = 45 :: padK n (nd n) := by rw [← hs, printB_neg n h1]
  have hz : s.size ≤ 20 := by
    have := nd_le19 n (by omega)
    rw [← list_len, hl, List.length_cons, padK_len]
    omega
  have hm : prefB s ⟨#[45]⟩ = true := (pref_minus s).2 ⟨_, hl⟩
  have he := ext1_list s _ _ hl
  have hez : (s.extract 1 s.size).size ≤ 20 := by rw [ByteArray.size_extract]; omega
  have HA : Hid (allD (s.extract 1 s.size).data.toList = true) := by show _ = _; rw [he]; exact padK_all _ _
  have HV : Hid (valN (s.extract 1 s.size).data.toList % 18446744073709551616 = n) := by show _ = _; rw [he]; exact val_pad_nd n (by omega)
  have hq : ((printB (-(n : Int))).toList == s.toList) = true := by rw [hs]; simp
  have HM := Lib.hid hm
  clear hm hl hs he
  have hw : wrap64 (-(wrap64 (n : Int))) = -(n : Int) := by unfold wrap64; omega
  go_enter Tryd.func33, Tryd.ntmps33
  go_wp2_with fail
  refine (cutp_yes s _ _ (by unfold maxLen; omega) (by decide) HM.out).mono ?_
  rintro _ w1 ⟨rfl, rfl⟩
  rw [show (ByteArray.mk #[45]).size = 1 from rfl]
  generalize s.extract 1 s.size = b at *
  go_wp2_with fail
  refine (at_worth (n := n) _ (by unfold maxLen; omega) HA.out HV.out).mono ?_
  rintro _ w1 ⟨rfl, hb1⟩
  go_wp2_with fail
  rw [hw]
  with_reducible refine (print_any (-(n : Int)) _ (by omega) (by omega)).mono ?_
  rintro _ w2 ⟨rfl, hb⟩
  have hb2 := chain hb1 hb
  clear hb hb1
  go_wp2
  go_ret2
  exact ⟨rfl, hb2⟩

theorem read_yes (n : Int) (s : ByteArray) (w : World) (h1 : -9223372036854775808 ≤ n) (h2 : n ≤ 9223372036854775807) (hs : printB n = s) :
    Calls Tryd.prog 33 #[.string s] w fun e w' => e = .returned (.tuple #[.int .i64 n, .bool true]) ∧ Below w.heap.size w w' := by
  by_cases h : 0 ≤ n
  · obtain ⟨m, rfl⟩ := Int.eq_ofNat_of_zero_le h
    exact read_pos m s w (by omega) hs
  · obtain ⟨m, hm⟩ : ∃ m : Nat, n = -(m : Int) := ⟨n.natAbs, by omega⟩
    subst hm
    exact read_neg m s w (by omega) (by omega) hs

set_option maxRecDepth 100000 in
set_option maxHeartbeats 800000 in
theorem read_no (s : ByteArray) (w : World) (hs : s.size ≤ maxLen) (h : ∀ n : Int, -9223372036854775808 ≤ n → n ≤ 9223372036854775807 → printB n ≠ s) :
    Calls Tryd.prog 33 #[.string s] w fun e w' => e = .returned (.tuple #[.int .i64 0, .bool false]) ∧ Below w.heap.size w w' := by
  have HN : Hid (∀ n : Int, -9223372036854775808 ≤ n → n ≤ 9223372036854775807 → ((printB n).toList == s.toList) = false) := fun n h1 h2 => by
    rw [eq_toList, decide_eq_false_iff_not]
    exact h n h1 h2
  clear h
  cases hm : prefB s ⟨#[45]⟩
  · have HM := Lib.hid hm
    clear hm
    go_enter Tryd.func33, Tryd.ntmps33
    go_wp2_with fail
    refine (cutp_no s _ _ hs (by decide) HM.out).mono ?_
    rintro _ w1 ⟨rfl, rfl⟩
    cases ha : allD s.data.toList
    · have HA := Lib.hid ha
      clear ha
      go_wp2_with fail
      refine (worth_no s _ hs HA.out).mono ?_
      rintro _ w1 ⟨rfl, hb1⟩
      go_wp2
      go_ret2
      exact ⟨rfl, hb1⟩
    · have HA := Lib.hid ha
      clear ha
      go_wp2_with fail
      refine (worth_yes s _ hs HA.out).mono ?_
      rintro _ w1 ⟨rfl, hb1⟩
      generalize hv : ((valN s.data.toList % 18446744073709551616 : Nat) : Int) = v
      clear hv
      obtain ⟨r1, r2⟩ := wrap64_range v
      have hq := HN.out (wrap64 v) r1 r2
      go_wp2_with fail
      generalize wrap64 v = u at *
      with_reducible refine (print_any u _ r1 r2).mono ?_
      rintro _ w2 ⟨rfl, hb⟩
      have hb2 := chain hb1 hb
      clear hb hb1
      go_wp2
      go_ret2
      exact ⟨rfl, hb2⟩
  · have HM := Lib.hid hm
    clear hm
    have hez : (s.extract 1 s.size).size ≤ maxLen := by rw [ByteArray.size_extract]; omega
    go_enter Tryd.func33, Tryd.ntmps33
    go_wp2_with fail
    refine (cutp_yes s _ _ hs (by decide) HM.out).mono ?_
    rintro _ w1 ⟨rfl, rfl⟩
    rw [show (ByteArray.mk #[45]).size = 1 from rfl]
    generalize s.extract 1 s.size = b at *
    cases ha : allD b.data.toList
    · have HA := Lib.hid ha
      clear ha
      go_wp2_with fail
      refine (worth_no b _ hez HA.out).mono ?_
      rintro _ w1 ⟨rfl, hb1⟩
      go_wp2
      go_ret2
      exact ⟨rfl, hb1⟩
    · have HA := Lib.hid ha
      clear ha
      go_wp2_with fail
      refine (worth_yes b _ hez HA.out).mono ?_
      rintro _ w1 ⟨rfl, hb1⟩
      generalize hv : ((valN b.data.toList % 18446744073709551616 : Nat) : Int) = v
      clear hv
      obtain ⟨r1, r2⟩ := wrap64_range (-(wrap64 v))
      have hq := HN.out (wrap64 (-(wrap64 v))) r1 r2
      go_wp2_with fail
      generalize wrap64 (-(wrap64 v)) = u at *
      with_reducible refine (print_any u _ r1 r2).mono ?_
      rintro _ w2 ⟨rfl, hb⟩
      have hb2 := chain hb1 hb
      clear hb hb1
      go_wp2
      go_ret2
      exact ⟨rfl, hb2⟩
end Go.Proofs.YtlcnnkameflidaaDoor
