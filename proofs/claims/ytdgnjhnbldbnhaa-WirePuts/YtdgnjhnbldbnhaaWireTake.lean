/-
  Take of package wire and of the document: contracts.
-/
import Derived.Test.YtdgnjhnbldbnhaaWireMath
import Derived.Test.YtdgnjhnbldbnhaaBase
import Derived.Laws.Closers25b
import Derived.Laws.Cover4
namespace Go.Proofs.Ytdgnjhnbldbnhaa
open Go.RowKit
set_option linter.unusedVariables false

/-- What Take holds at place k. -/
def TakeAt (s : ByteArray) (T : Nat × Nat × Nat) (num at' : Value) : Prop :=
  ∃ k V : Nat, k ≤ 10 ∧ k ≤ s.size ∧ num = .int .u64 (V : Int) ∧ at' = .int .i64 (k : Int) ∧ V < 18446744073709551616 ∧ (k < 10 → V < 128 ^ k) ∧ scan (s.data.toList.drop k) k V = T

theorem takeAt_end (s : ByteArray) (k V : Nat) (T : Nat × Nat × Nat) (hk : k < 10) (he : k = s.size) (h : scan (s.data.toList.drop k) k V = T) : T = (0, 0, 30) := by
  rw [← h, List.drop_of_length_le (by rw [list_len]; omega), scan_nil k V hk]

theorem takeAt_ten (s : ByteArray) (V : Nat) (T : Nat × Nat × Nat) (h : scan (s.data.toList.drop 10) 10 V = T) : T = (0, 0, 31) := by
  rw [← h, scan_ten]

theorem takeAt_long (s : ByteArray) (k V : Nat) (T : Nat × Nat × Nat) (hk : k < s.size) (h9 : k = 9) (hc : s[k].toNat < 128) (h1 : 1 < s[k].toNat) (h : scan (s.data.toList.drop k) k V = T) : T = (0, 0, 31) := by
  subst h9
  rw [← h, drop_cons s 9 hk, scan_long _ _ _ hc h1]

theorem takeAt_form (s : ByteArray) (k V : Nat) (T : Nat × Nat × Nat) (h10 : k < 10) (hk : k < s.size) (h0 : 0 < k) (hc : s[k].toNat = 0) (h : scan (s.data.toList.drop k) k V = T) : T = (0, 0, 32) := by
  rw [← h, drop_cons s k hk, scan_form _ _ _ _ h10 h0 hc]

theorem takeAt_last (s : ByteArray) (k V : Nat) (T : Nat × Nat × Nat) (h10 : k < 10) (hk : k < s.size) (hc : s[k].toNat < 128) (h9 : k < 9 ∨ s[k].toNat ≤ 1) (h0 : k = 0 ∨ 0 < s[k].toNat) (h : scan (s.data.toList.drop k) k V = T) :
    T = (V + s[k].toNat * 128 ^ k, k + 1, 0) := by
  rw [← h, drop_cons s k hk, scan_last _ _ _ _ h10 hc h9 h0]

theorem ret_take {a b c d e f : Nat} (h : (d, e, f) = (a, b, c)) : Ending.returned (.tuple #[.int .u64 (a : Int), .int .i64 (b : Int), .int .i64 (c : Int)]) = .returned (.tuple #[.int .u64 (d : Int), .int .i64 (e : Int), .int .i64 (f : Int)]) := by
  cases h
  rfl

theorem pow_le9 (k : Nat) (h : k ≤ 9) : 128 ^ k ≤ 9223372036854775808 := Nat.pow_le_pow_right (n := 128) (by decide) h

theorem wraps_u64 (n : Int) (h₀ : 0 ≤ n) (h₁ : n < 2 ^ 64) : IntKind.u64.wrap n = n := by rw [IntKind.wrap_u64]; omega

theorem or_up (V c k : Nat) (hV : V < 128 ^ k) (h64 : V < 18446744073709551616) (hb : c * 128 ^ k < 18446744073709551616) :
    bits .or .u64 (V : Int) (IntKind.u64.wrap ((c : Int) * 2 ^ (7 * k))) = ((V + c * 128 ^ k : Nat) : Int) := by
  have e : 128 ^ k = 2 ^ (7 * k) := by rw [Nat.pow_mul]
  rw [e] at hV hb ⊢
  have ec : ((c : Int) * 2 ^ (7 * k)) = ((c * 2 ^ (7 * k) : Nat) : Int) := by simp
  rw [ec, wraps_u64 _ (by omega) (by omega), (bits_nat .u64 64 (by decide) wraps_u64 V _ (by omega) (by omega)).2, Nat.or_comm, Nat.mul_comm c, ← Nat.two_pow_add_eq_or_of_lt hV]
  omega

theorem up_bound (V c k : Nat) (hk : k < 9) (hV : V < 128 ^ k) (hc : c < 128) : c * 128 ^ k < 18446744073709551616 ∧ V + c * 128 ^ k < 18446744073709551616 ∧ V + c * 128 ^ k < 128 ^ (k + 1) := by
  have h1 : 128 ^ (k + 1) ≤ 9223372036854775808 := pow_le9 (k + 1) (by omega)
  have h2 : c * 128 ^ k ≤ 127 * 128 ^ k := Nat.mul_le_mul_right _ (by omega)
  rw [Nat.pow_succ] at h1 ⊢
  generalize 128 ^ k = P at *
  generalize c * P = X at *
  omega

theorem takeAt_more (s : ByteArray) (k V : Nat) (T : Nat × Nat × Nat) (h10 : k < 10) (hk : k < s.size) (hc : 128 ≤ s[k].toNat) (h64 : V < 18446744073709551616) (hV : k < 10 → V < 128 ^ k) (h : scan (s.data.toList.drop k) k V = T)
    (X : Int) (hX : (k < 9 → X = ((V + (s[k].toNat - 128) * 128 ^ k : Nat) : Int))) (hX0 : 0 ≤ X) (hX1 : X < 18446744073709551616) : TakeAt s T (.int .u64 X) (.int .i64 ((k : Int) + 1)) := by
  have hcl := s[k].toNat_lt
  rw [drop_cons s k hk, scan_more _ _ _ _ h10 hc] at h
  obtain ⟨Y, rfl⟩ := Int.eq_ofNat_of_zero_le hX0
  refine ⟨k + 1, Y, by omega, by omega, rfl, by congr 1, by omega, ?_, ?_⟩
  · intro h'
    have e := hX (by omega)
    have := (up_bound V (s[k].toNat - 128) k (by omega) (hV h10) (by omega)).2.2
    omega
  · by_cases h9 : k = 9
    · subst h9
      rw [scan_ten] at h ⊢
      exact h
    · have e := hX (by omega)
      have e' : Y = V + (s[k].toNat - 128) * 128 ^ k := by exact_mod_cast e
      rw [e']
      exact h

theorem takeAt_or (s : ByteArray) (k V : Nat) (T : Nat × Nat × Nat) (h10 : k < 10) (hk : k < s.size) (hc : 128 ≤ s[k].toNat) (h64 : V < 18446744073709551616) (hV : k < 10 → V < 128 ^ k) (h : scan (s.data.toList.drop k) k V = T) :
    TakeAt s T (.int .u64 (bits .or .u64 (V : Int) (IntKind.u64.wrap (((s[k].toNat : Int) - 128) % 256 * 2 ^ (7 * k))))) (.int .i64 ((k : Int) + 1)) := by
  have hcl := s[k].toNat_lt
  obtain ⟨b1, b2⟩ := bits_within .or .u64 (V : Int) (IntKind.u64.wrap (((s[k].toNat : Int) - 128) % 256 * 2 ^ (7 * k)))
  have m1 : IntKind.u64.min = 0 := by decide
  have m2 : IntKind.u64.max = 18446744073709551615 := by decide
  rw [m1] at b1
  rw [m2] at b2
  refine takeAt_more s k V T h10 hk hc h64 hV h _ (fun h9 => ?_) b1 (by omega)
  have e : ((s[k].toNat : Int) - 128) % 256 = ((s[k].toNat - 128 : Nat) : Int) := by omega
  rw [e]
  exact or_up V _ k (hV h10) h64 (up_bound V (s[k].toNat - 128) k h9 (hV h10) (by omega)).1

theorem or_nine (V c k : Nat) (h9 : k = 9) (hV : V < 128 ^ k) (hc : c ≤ 1) : bits .or .u64 (V : Int) ((c : Int) * 9223372036854775808) = ((V + c * 128 ^ k : Nat) : Int) := by
  subst h9
  have e : (128 : Nat) ^ 9 = 9223372036854775808 := by decide
  have h := or_up V c 9 hV (by rw [e] at hV; omega) (by rw [e]; omega)
  rw [← h, wraps_u64 _ (by omega) (by omega)]
  rfl

theorem last_bound (V c k : Nat) (hk : k < 10) (hV : V < 128 ^ k) (hc : c < 128) (h9 : k < 9 ∨ c ≤ 1) : c * 128 ^ k < 18446744073709551616 ∧ V + c * 128 ^ k < 18446744073709551616 := by
  by_cases h : k < 9
  · have := up_bound V c k h hV hc
    omega
  · have : k = 9 := by omega
    subst this
    have : c ≤ 1 := by omega
    have e : (128 : Nat) ^ 9 = 9223372036854775808 := by decide
    rw [e] at hV ⊢
    omega

set_option maxRecDepth 100000 in
set_option maxHeartbeats 1600000 in
theorem take_any (s : ByteArray) (n m e : Nat) (w : World) (hs : s.size ≤ maxLen) (h : takeB s = (n, m, e)) :
    Calls Try.prog 11 #[.string s] w fun r w' => r = .returned (.tuple #[.int .u64 (n : Int), .int .i64 (m : Int), .int .i64 (e : Int)]) ∧ w = w' := by
  have HT := Lib.hid h
  unfold maxLen at hs
  clear h
  go_enter Try.func11, Try.ntmps11
  go_wp2
  go_step3
  go_wp2
  go_step3
  go_wp2
  go_loop [5, 6] (fun num at' => TakeAt s (n, m, e) num at') (fun _ i => 10 - (intOf i).toNat)
  case atStart => exact ⟨0, 0, by omega, by omega, rfl, rfl, by omega, by intros; decide, HT.out⟩
  case round =>
    obtain ⟨k, V, hk, hks, rfl, rfl, hV, hVk, hT⟩ := hrel
    have HV := Lib.hid hVk
    have HS := Lib.hid hT
    clear hVk hT HT
    rcases (show k = 10 ∨ (k < 10 ∧ k = s.size) ∨ (k < 10 ∧ k < s.size) from by omega) with h10 | ⟨h10, hke⟩ | ⟨h10, hlt⟩
    · subst h10
      have HE := Lib.hid (takeAt_ten s V _ HS.out)
      clear HV HS
      go_wp2
      go_ret3
      exact ⟨ret_take HE.out, rfl⟩
    · have HE := Lib.hid (takeAt_end s k V _ h10 hke HS.out)
      clear HV HS
      go_wp2
      go_ret3
      exact ⟨ret_take HE.out, rfl⟩
    · by_cases hc : 128 ≤ s[k].toNat
      · have h7 : (0 : Int) ≤ 7 * (k : Int) := by omega
        have HE := Lib.hid (takeAt_or s k V _ h10 hlt hc hV HV.out HS.out)
        clear HV HS
        go_wp2
        go_round
        case rel => exact HE.out
        case measure => simp [intOf]; omega
      · have h7 : (0 : Int) ≤ 7 * (k : Int) := by omega
        have hc' : s[k].toNat < 128 := by omega
        rcases (show (k = 9 ∧ 1 < s[k].toNat) ∨ (0 < k ∧ s[k].toNat = 0) ∨ ((k < 9 ∨ s[k].toNat ≤ 1) ∧ (k = 0 ∨ 0 < s[k].toNat)) from by omega) with ⟨h9, h1⟩ | ⟨h0, h1⟩ | ⟨h9, h0⟩
        · have HE := Lib.hid (takeAt_long s k V _ hlt h9 hc' h1 HS.out)
          have h9' : 9 ≤ k := by omega
          clear HV HS hc h9
          go_wp2
          go_ret3
          exact ⟨ret_take HE.out, rfl⟩
        · have HE := Lib.hid (takeAt_form s k V _ h10 hlt h0 h1 HS.out)
          clear HV HS hc
          go_wp2
          all_goals
            go_ret3
            exact ⟨ret_take HE.out, rfl⟩
        · have HE := Lib.hid (takeAt_last s k V _ h10 hlt hc' h9 h0 HS.out)
          have HO := Lib.hid (or_up V s[k].toNat k (HV.out h10) hV (last_bound V _ k h10 (HV.out h10) hc' h9).1)
          have HVk := Lib.hid (HV.out h10)
          clear HV HS hc
          go_wp2
          all_goals
            go_ret3
            refine ⟨?_, rfl⟩
            first
              | (have h9' : (k : Int) = 9 := by assumption
                 have h1' : (s[k].toNat : Int) ≤ 1 := by assumption
                 have HO9 := or_nine V s[k].toNat k (by omega) HVk.out (by omega)
                 show Ending.returned (.tuple #[.int .u64 (bits .or .u64 (V : Int) ((s[k].toNat : Int) * 9223372036854775808)), .int .i64 10, .int .i64 0]) = _
                 rw [HO9]
                 have e10 : k + 1 = 10 := by omega
                 have h := HE.out
                 rw [e10] at h
                 exact ret_take h)
              | (show Ending.returned (.tuple #[.int .u64 (bits .or .u64 (V : Int) (IntKind.u64.wrap ((s[k].toNat : Int) * 2 ^ (7 * k)))), .int .i64 ((k : Int) + 1), .int .i64 0]) = _
                 rw [HO.out]
                 exact ret_take HE.out)
/-- What the document's Take holds at place k. -/
def RTakeAt (s : ByteArray) (T : Nat × Nat × Nat) (num pow at' : Value) : Prop :=
  ∃ k V P : Nat, k ≤ 10 ∧ k ≤ s.size ∧ num = .int .u64 (V : Int) ∧ pow = .int .u64 (P : Int) ∧ at' = .int .i64 (k : Int) ∧ V < 18446744073709551616 ∧ P < 18446744073709551616 ∧ (k < 10 → V < 128 ^ k ∧ P = 128 ^ k) ∧ scan (s.data.toList.drop k) k V = T

theorem rtake_step (s : ByteArray) (k V P : Nat) (T : Nat × Nat × Nat) (h10 : k < 10) (hk : k < s.size) (hc : 128 ≤ s[k].toNat) (h64 : V < 18446744073709551616) (hP : k < 10 → V < 128 ^ k ∧ P = 128 ^ k) (h : scan (s.data.toList.drop k) k V = T) (X Y : Int)
    (hX : X = IntKind.u64.wrap ((V : Int) + IntKind.u64.wrap (((s[k].toNat : Int) - 128) * P))) (hY : Y = IntKind.u64.wrap ((P : Int) * 128)) :
    RTakeAt s T (.int .u64 X) (.int .u64 Y) (.int .i64 ((k : Int) + 1)) := by
  have hcl := s[k].toNat_lt
  rw [IntKind.wrap_u64] at hY
  rw [IntKind.wrap_u64, IntKind.wrap_u64] at hX
  have hX0 : 0 ≤ X ∧ X < 18446744073709551616 := by omega
  have hY0 : 0 ≤ Y ∧ Y < 18446744073709551616 := by omega
  obtain ⟨hP1, hP2⟩ := hP h10
  have hXY : k < 9 → X = ((V + (s[k].toNat - 128) * 128 ^ k : Nat) : Int) ∧ Y = ((128 ^ (k + 1) : Nat) : Int) := by
    intro h9
    obtain ⟨u1, u2, u3⟩ := up_bound V (s[k].toNat - 128) k h9 hP1 (by omega)
    have h1 : 128 ^ (k + 1) ≤ 9223372036854775808 := pow_le9 (k + 1) (by omega)
    have e : ((s[k].toNat : Int) - 128) * (P : Int) = (((s[k].toNat - 128) * 128 ^ k : Nat) : Int) := by
      rw [← hP2, show ((s[k].toNat : Int) - 128) = ((s[k].toNat - 128 : Nat) : Int) by omega]
      simp
    rw [e] at hX
    refine ⟨?_, ?_⟩
    · rw [hX]
      omega
    · rw [hY, hP2]
      rw [Nat.pow_succ] at h1 ⊢
      omega
  obtain ⟨k', V', e1, e2, e3, e4, e5, e6, e7⟩ := takeAt_more s k V T h10 hk hc h64 (fun _ => hP1) h X (fun h9 => (hXY h9).1) hX0.1 hX0.2
  have ek : k' = k + 1 := by
    injection e4 with _ e4
    omega
  subst ek
  refine ⟨k + 1, V', Y.toNat, e1, e2, e3, by congr 1; omega, e4, e5, by omega, fun h' => ⟨e6 h', ?_⟩, e7⟩
  have := (hXY (by omega)).2
  omega

theorem rlast_sum (V c k P : Nat) (hk : k < 10) (hV : V < 128 ^ k) (hP : P = 128 ^ k) (hc : c < 128) (h9 : k < 9 ∨ c ≤ 1) : IntKind.u64.wrap ((V : Int) + IntKind.u64.wrap ((c : Int) * (P : Int))) = ((V + c * 128 ^ k : Nat) : Int) := by
  obtain ⟨b1, b2⟩ := last_bound V c k hk hV hc h9
  have e : (c : Int) * (P : Int) = ((c * 128 ^ k : Nat) : Int) := by rw [hP]; simp
  rw [e]
  generalize c * 128 ^ k = Z at *
  have e2 : IntKind.u64.wrap (Z : Int) = (Z : Int) := wraps_u64 _ (by omega) (by omega)
  rw [e2, wraps_u64 _ (by omega) (by omega)]
  omega

set_option maxRecDepth 100000 in
set_option maxHeartbeats 1600000 in
theorem rtake_any (s : ByteArray) (n m e : Nat) (w : World) (hs : s.size ≤ maxLen) (h : takeB s = (n, m, e)) :
    Calls Try.prog 14 #[.string s] w fun r w' => r = .returned (.tuple #[.int .u64 (n : Int), .int .i64 (m : Int), .int .i64 (e : Int)]) ∧ w = w' := by
  have HT := Lib.hid h
  unfold maxLen at hs
  clear h
  go_enter Try.func14, Try.ntmps14
  go_wp2
  go_loop [5, 6, 7] (fun num pow at' => RTakeAt s (n, m, e) num pow at') (fun _ _ i => 10 - (intOf i).toNat)
  case atStart => exact ⟨0, 0, 1, by omega, by omega, rfl, rfl, rfl, by omega, by omega, by intros; decide, HT.out⟩
  case round =>
    obtain ⟨k, V, P, hk, hks, rfl, rfl, rfl, hV, hP, hVk, hT⟩ := hrel
    have HV := Lib.hid hVk
    have HS := Lib.hid hT
    clear hVk hT HT
    rcases (show k = 10 ∨ (k < 10 ∧ k = s.size) ∨ (k < 10 ∧ k < s.size) from by omega) with h10 | ⟨h10, hke⟩ | ⟨h10, hlt⟩
    · subst h10
      have HE := Lib.hid (takeAt_ten s V _ HS.out)
      clear HV HS
      go_wp2
      go_ret3
      exact ⟨ret_take HE.out, rfl⟩
    · have HE := Lib.hid (takeAt_end s k V _ h10 hke HS.out)
      clear HV HS
      go_wp2
      go_ret3
      exact ⟨ret_take HE.out, rfl⟩
    · have hcl : s[k].toNat < 256 := s[k].toNat_lt
      have hw : IntKind.u64.wrap (s[k].toNat : Int) = (s[k].toNat : Int) := by rw [IntKind.wrap_u64]; omega
      by_cases hc : 128 ≤ s[k].toNat
      · have HE := Lib.hid (fun X Y => rtake_step s k V P _ h10 hlt hc hV HV.out HS.out X Y)
        clear HV HS
        go_wp2
        go_round
        case rel => exact HE.out _ _ rfl rfl
        case measure => simp [intOf]; omega
      · have hc' : s[k].toNat < 128 := by omega
        rcases (show (9 ≤ k ∧ 1 < s[k].toNat) ∨ (0 < k ∧ s[k].toNat = 0) ∨ ((k < 9 ∨ s[k].toNat ≤ 1) ∧ (k = 0 ∨ 0 < s[k].toNat)) from by omega) with ⟨h9, h1⟩ | ⟨h0, h1⟩ | ⟨h9, h0⟩
        · have HE := Lib.hid (takeAt_long s k V _ hlt (by omega) hc' h1 HS.out)
          clear HV HS hc
          go_wp2
          go_ret3
          exact ⟨ret_take HE.out, rfl⟩
        · have HE := Lib.hid (takeAt_form s k V _ h10 hlt h0 h1 HS.out)
          clear HV HS hc
          go_wp2
          all_goals
            go_ret3
            exact ⟨ret_take HE.out, rfl⟩
        · have HE := Lib.hid (takeAt_last s k V _ h10 hlt hc' h9 h0 HS.out)
          have HO := Lib.hid (rlast_sum V s[k].toNat k P h10 (HV.out h10).1 (HV.out h10).2 hc' h9)
          clear HV HS hc
          go_wp2
          all_goals
            go_ret3
            refine ⟨?_, rfl⟩
            first
              | (have h9' : (k : Int) = 9 := by assumption
                 show Ending.returned (.tuple #[.int .u64 (IntKind.u64.wrap ((V : Int) + IntKind.u64.wrap ((s[k].toNat : Int) * (P : Int)))), .int .i64 10, .int .i64 0]) = _
                 rw [HO.out]
                 have e10 : k + 1 = 10 := by omega
                 have h := HE.out
                 rw [e10] at h
                 exact ret_take h)
              | (show Ending.returned (.tuple #[.int .u64 (IntKind.u64.wrap ((V : Int) + IntKind.u64.wrap ((s[k].toNat : Int) * (P : Int)))), .int .i64 ((k : Int) + 1), .int .i64 0]) = _
                 rw [HO.out]
                 exact ret_take HE.out)
end Go.Proofs.Ytdgnjhnbldbnhaa
