/-
  Read of the document.
-/
import Derived.Test.YtkpdejnhjbojpaaDoorDecRef
namespace Go.Proofs.YtkpdejnhjbojpaaDoor
open Go.RowKit
set_option linter.unusedVariables false

theorem head_get (s : ByteArray) (h0 : 0 < s.size) : ((s[0].toNat : Int) == 45) = prefB s ⟨#[45]⟩ := by
  rw [Bool.eq_iff_iff, pref_minus]
  have hg := bget s 0 h0
  have hl := list_len s
  cases h : s.data.toList with
  | nil => rw [h] at hl; simp at hl; omega
  | cons c r =>
    have hc : c = s[0] := by rw [← hg]; simp [h]
    rw [← hc]
    simp only [beq_iff_eq, List.cons.injEq]
    constructor
    · intro h2
      refine ⟨r, ?_, rfl⟩
      apply UInt8.toNat_inj.1
      show c.toNat = 45
      omega
    · rintro ⟨_, h2, _⟩
      rw [h2]
      rfl

theorem pref_size (s : ByteArray) (h : prefB s ⟨#[45]⟩ = true) : 0 < s.size := by
  obtain ⟨r, hr⟩ := (pref_minus s).1 h
  rw [← list_len, hr]
  simp

set_option maxRecDepth 100000 in
set_option maxHeartbeats 800000 in
theorem rread_pos (n : Nat) (s : ByteArray) (w : World) (hn : n ≤ 9223372036854775807) (hs : printB (n : Int) = s) :
    Calls Tryd.prog 59 #[.string s] w fun e w' => e = .returned (.tuple #[.int .i64 (n : Int), .bool true]) ∧ Below w.heap.size w w' := by
  have hl : s.data.toList = padK n (nd n) := by rw [← hs, printB_pos, padB_list]
  have hz1 : 1 ≤ s.size := by rw [← list_len, hl, padK_len]; exact (nd_spec n (by omega)).1
  have hz : s.size ≤ 19 := by rw [← list_len, hl, padK_len]; exact nd_le19 n (by omega)
  have hm : prefB s ⟨#[45]⟩ = false := by
    rw [← Bool.not_eq_true, pref_minus]
    rintro ⟨r, hr⟩
    exact padK_head n (nd n) (nd_spec n (by omega)).1 r (by rw [← hl, hr])
  have HA : Hid (allD s.data.toList = true) := by show _ = _; rw [hl]; exact padK_all _ _
  have HV : Hid (valN s.data.toList = n) := by show _ = _; rw [hl, valN_pad, Nat.mod_eq_of_lt (nd_spec n (by omega)).2.1]
  have hq : ((printB (n : Int)).toList == s.toList) = true := by rw [hs]; simp
  have h45 : ((s[0].toNat : Int) == 45) = false := by rw [head_get s (by omega)]; exact hm
  clear hm hl hs
  go_enter Tryd.func59, Tryd.ntmps59
  go_wp2_with fail
  with_reducible refine (value_yes s 19 n _ hz1 hz (by omega) HA.out HV.out).mono ?_
  rintro _ w1 ⟨rfl, rfl⟩
  go_wp2_with fail
  with_reducible refine (rprint_any n _ (by omega) (by omega)).mono ?_
  rintro _ w1 ⟨rfl, hb1⟩
  go_wp2
  go_ret2
  exact ⟨rfl, hb1⟩

set_option maxRecDepth 100000 in
set_option maxHeartbeats 800000 in
theorem rread_neg (n : Nat) (s : ByteArray) (w : World) (h1 : 1 ≤ n) (hn : n ≤ 9223372036854775808) (hs : printB (-(n : Int)) = s) :
    Calls Tryd.prog 59 #[.string s] w fun e w' => e = .returned (.tuple #[.int .i64 (-(n : Int)), .bool true]) ∧ Below w.heap.size w w' := by
  have hl : s.data.toList = 45 :: padK n (nd n) := by rw [← hs, printB_neg n h1]
  have hz0 : 1 ≤ s.size := by rw [← list_len, hl, List.length_cons]; omega
  have hz : s.size ≤ 20 := by
    have := nd_le19 n (by omega)
    rw [← list_len, hl, List.length_cons, padK_len]
    omega
  have hm : prefB s ⟨#[45]⟩ = true := (pref_minus s).2 ⟨_, hl⟩
  have he := ext1_list s _ _ hl
  have hez : (s.extract 1 s.size).size ≤ 19 := by rw [ByteArray.size_extract]; omega
  have hez1 : 1 ≤ (s.extract 1 s.size).size := by rw [← list_len, he, padK_len]; exact (nd_spec n (by omega)).1
  have HA : Hid (allD (s.extract 1 s.size).data.toList = true) := by show _ = _; rw [he]; exact padK_all _ _
  have HV : Hid (valN (s.extract 1 s.size).data.toList = n) := by show _ = _; rw [he, valN_pad, Nat.mod_eq_of_lt (nd_spec n (by omega)).2.1]
  have hq : ((printB (-(n : Int))).toList == s.toList) = true := by rw [hs]; simp
  have h45 : ((s[0].toNat : Int) == 45) = true := by rw [head_get s (by omega)]; exact hm
  clear hm hl hs he
  have hne : ((n : Int) == 0) = false := by rw [beq_eq_false_iff_ne]; omega
  go_enter Tryd.func59, Tryd.ntmps59
  go_wp2_with fail
  generalize s.extract 1 s.size = b at *
  with_reducible refine (value_yes b 19 n _ hez1 hez (by omega) HA.out HV.out).mono ?_
  rintro _ w1 ⟨rfl, rfl⟩
  go_wp2_with fail
  have hw : -((n : Int) - 1) - 1 = -(n : Int) := by omega
  rw [hw]
  with_reducible refine (rprint_any (-(n : Int)) _ (by omega) (by omega)).mono ?_
  rintro _ w1 ⟨rfl, hb1⟩
  go_wp2
  go_ret2
  exact ⟨rfl, hb1⟩

theorem rread_yes (n : Int) (s : ByteArray) (w : World) (h1 : -9223372036854775808 ≤ n) (h2 : n ≤ 9223372036854775807) (hs : printB n = s) :
    Calls Tryd.prog 59 #[.string s] w fun e w' => e = .returned (.tuple #[.int .i64 n, .bool true]) ∧ Below w.heap.size w w' := by
  by_cases h : 0 ≤ n
  · obtain ⟨m, rfl⟩ := Int.eq_ofNat_of_zero_le h
    exact rread_pos m s w (by omega) hs
  · obtain ⟨m, hm⟩ : ∃ m : Nat, n = -(m : Int) := ⟨n.natAbs, by omega⟩
    subst hm
    exact rread_neg m s w (by omega) (by omega) hs

theorem not_val (s : ByteArray) (h : ¬ (1 ≤ s.size ∧ s.size ≤ 19 ∧ allD s.data.toList = true)) : s.size = 0 ∨ (19 : Int) < (s.size : Int) ∨ allD s.data.toList = false := by
  by_cases h0 : s.size = 0
  · exact .inl h0
  · by_cases h1 : s.size ≤ 19
    · refine .inr (.inr ?_)
      rw [← Bool.not_eq_true]
      intro h2
      exact h ⟨by omega, h1, h2⟩
    · exact .inr (.inl (by omega))

set_option maxRecDepth 100000 in
set_option maxHeartbeats 1600000 in
theorem rread_no (s : ByteArray) (w : World) (hs : s.size ≤ maxLen) (h : ∀ n : Int, -9223372036854775808 ≤ n → n ≤ 9223372036854775807 → printB n ≠ s) :
    Calls Tryd.prog 59 #[.string s] w fun e w' => e = .returned (.tuple #[.int .i64 0, .bool false]) ∧ Below w.heap.size w w' := by
  have HN : Hid (∀ n : Int, -9223372036854775808 ≤ n → n ≤ 9223372036854775807 → ((printB n).toList == s.toList) = false) := fun n h1 h2 => by
    rw [eq_toList, decide_eq_false_iff_not]
    exact h n h1 h2
  clear h
  have hs' := hs
  unfold maxLen at hs'
  cases hm : prefB s ⟨#[45]⟩
  · -- no minus ahead
    have HM := Lib.hid hm
    clear hm
    by_cases hv : 1 ≤ s.size ∧ s.size ≤ 19 ∧ allD s.data.toList = true
    · obtain ⟨v1, v2, v3⟩ := hv
      have HA := Lib.hid v3
      have h45 : ((s[0].toNat : Int) == 45) = false := by rw [head_get s (by omega)]; exact HM.out
      obtain ⟨n, hn⟩ : ∃ n, valN s.data.toList = n := ⟨_, rfl⟩
      have HV := Lib.hid hn
      clear v3 hn
      by_cases hbig : 9223372036854775807 < n
      · go_enter Tryd.func59, Tryd.ntmps59
        go_wp2_with fail
        with_reducible refine (value_yes s 19 n _ v1 v2 (by omega) HA.out HV.out).mono ?_
        rintro _ w1 ⟨rfl, rfl⟩
        go_wp2
        go_ret2
        exact ⟨rfl, Below.refl _ _⟩
      · have hq := HN.out n (by omega) (by omega)
        go_enter Tryd.func59, Tryd.ntmps59
        go_wp2_with fail
        with_reducible refine (value_yes s 19 n _ v1 v2 (by omega) HA.out HV.out).mono ?_
        rintro _ w1 ⟨rfl, rfl⟩
        go_wp2_with fail
        with_reducible refine (rprint_any n _ (by omega) (by omega)).mono ?_
        rintro _ w1 ⟨rfl, hb1⟩
        go_wp2
        go_ret2
        exact ⟨rfl, hb1⟩
    · have HV := Lib.hid (not_val s hv)
      clear hv
      by_cases h0 : 0 < s.size
      · have h45 : ((s[0].toNat : Int) == 45) = false := by rw [head_get s (by omega)]; exact HM.out
        go_enter Tryd.func59, Tryd.ntmps59
        go_wp2_with fail
        with_reducible refine (value_no s 19 _ hs (by omega) HV.out).mono ?_
        rintro _ w1 ⟨rfl, rfl⟩
        go_wp2
        go_ret2
        exact ⟨rfl, Below.refl _ _⟩
      · go_enter Tryd.func59, Tryd.ntmps59
        go_wp2_with fail
        with_reducible refine (value_no s 19 _ hs (by omega) HV.out).mono ?_
        rintro _ w1 ⟨rfl, rfl⟩
        go_wp2
        go_ret2
        exact ⟨rfl, Below.refl _ _⟩
  · -- a minus ahead
    have h0 := pref_size s hm
    have h45 : ((s[0].toNat : Int) == 45) = true := by rw [head_get s h0]; exact hm
    have hez : (s.extract 1 s.size).size ≤ maxLen := by rw [ByteArray.size_extract]; omega
    clear hm
    by_cases hv : 1 ≤ (s.extract 1 s.size).size ∧ (s.extract 1 s.size).size ≤ 19 ∧ allD (s.extract 1 s.size).data.toList = true
    · obtain ⟨v1, v2, v3⟩ := hv
      have HA := Lib.hid v3
      obtain ⟨n, hn⟩ : ∃ n, valN (s.extract 1 s.size).data.toList = n := ⟨_, rfl⟩
      have hlt := valN_lt _ v3
      rw [hn, list_len] at hlt
      have hn19 : n < 10000000000000000000 := Nat.lt_of_lt_of_le hlt (Nat.pow_le_pow_right (n := 10) (by decide) v2)
      have HV := Lib.hid hn
      clear v3 hn hlt
      rcases (show n = 0 ∨ (1 ≤ n ∧ 9223372036854775808 < n) ∨ (1 ≤ n ∧ n ≤ 9223372036854775808) from by omega) with hz | ⟨hz, hz2⟩ | ⟨hz, hz2⟩
      · subst hz
        go_enter Tryd.func59, Tryd.ntmps59
        go_wp2_with fail
        generalize s.extract 1 s.size = b at *
        with_reducible refine (value_yes b 19 0 _ v1 v2 (by omega) HA.out HV.out).mono ?_
        rintro _ w1 ⟨rfl, rfl⟩
        go_wp2
        go_ret2
        exact ⟨rfl, Below.refl _ _⟩
      · have hne : ((n : Int) == 0) = false := by rw [beq_eq_false_iff_ne]; omega
        go_enter Tryd.func59, Tryd.ntmps59
        go_wp2_with fail
        generalize s.extract 1 s.size = b at *
        with_reducible refine (value_yes b 19 n _ v1 v2 (by omega) HA.out HV.out).mono ?_
        rintro _ w1 ⟨rfl, rfl⟩
        go_wp2
        go_ret2
        exact ⟨rfl, Below.refl _ _⟩
      · have hne : ((n : Int) == 0) = false := by rw [beq_eq_false_iff_ne]; omega
        have hq := HN.out (-(n : Int)) (by omega) (by omega)
        go_enter Tryd.func59, Tryd.ntmps59
        go_wp2_with fail
        generalize s.extract 1 s.size = b at *
        with_reducible refine (value_yes b 19 n _ v1 v2 (by omega) HA.out HV.out).mono ?_
        rintro _ w1 ⟨rfl, rfl⟩
        go_wp2_with fail
        have hw : -((n : Int) - 1) - 1 = -(n : Int) := by omega
        rw [hw]
        with_reducible refine (rprint_any (-(n : Int)) _ (by omega) (by omega)).mono ?_
        rintro _ w1 ⟨rfl, hb1⟩
        go_wp2
        go_ret2
        exact ⟨rfl, hb1⟩
    · have HV := Lib.hid (not_val _ hv)
      clear hv
      go_enter Tryd.func59, Tryd.ntmps59
      go_wp2_with fail
      generalize s.extract 1 s.size = b at *
      with_reducible refine (value_no b 19 _ hez (by omega) HV.out).mono ?_
      rintro _ w1 ⟨rfl, rfl⟩
      go_wp2
      go_ret2
      exact ⟨rfl, Below.refl _ _⟩
end Go.Proofs.YtkpdejnhjbojpaaDoor
