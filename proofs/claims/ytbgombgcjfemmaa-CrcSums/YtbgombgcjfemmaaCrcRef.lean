/-
  The document's own answers (package cracknelref04): contracts.
-/
import Derived.Test.YtbgombgcjfemmaaCrcMath
import Derived.Test.YtbgombgcjfemmaaBaseBytes
import Derived.Test.YtbgombgcjfemmaaBaseDraw
namespace Go.Proofs.Ytbgombgcjfemmaa
open Go.RowKit
set_option linter.unusedVariables false

/-- A number's bit at a place. -/
def bitN (n k : Nat) : Nat := n / 2 ^ k % 2

/-- What bit holds. -/
def BitAt (n k : Nat) (num i : Value) : Prop := ∃ j q : Nat, j ≤ k ∧ num = .int .i64 (q : Int) ∧ i = .int .i64 (j : Int) ∧ q ≤ n ∧ q = n / 2 ^ (k - j)

theorem bit_step (n k j q : Nat) (hj : 0 < j) (hk : j ≤ k) (h : q = n / 2 ^ (k - j)) : q / 2 = n / 2 ^ (k - (j - 1)) := by
  rw [h, Nat.div_div_eq_div_mul, ← Nat.pow_succ, show (k - j).succ = k - (j - 1) by omega]

set_option maxRecDepth 100000 in
set_option maxHeartbeats 400000 in
theorem rbit_any (n k : Nat) (w : World) (hn : n ≤ 9223372036854775807) (hk : k ≤ 1000) :
    Calls Try.prog 23 #[.int .i64 (n : Int), .int .i64 (k : Int)] w fun e w' => e = .returned (.int .i64 (bitN n k : Int)) ∧ w = w' := by
  go_enter Try.func23, Try.ntmps23
  go_wp2
  go_loop [0, 1] (fun num i => BitAt n k num i) (fun _ i => (intOf i).toNat)
  case atStart => exact ⟨k, n, Nat.le_refl _, rfl, rfl, Nat.le_refl _, by simp⟩
  case round =>
    obtain ⟨j, q, hj, rfl, rfl, hqn, hq⟩ := hrel
    have HQ := Lib.hid hq
    clear hq
    by_cases h0 : 0 < j
    · have HS := Lib.hid (bit_step n k j q h0 hj HQ.out)
      clear HQ
      go_wp2
      go_round
      case rel => exact ⟨j - 1, q / 2, by omega, by go_num, by go_num, by omega, HS.out⟩
      case measure => simp [intOf]; omega
    · have e : j = 0 := by omega
      subst e
      go_wp2
      go_ret
      refine ⟨ret_i64 ?_, rfl⟩
      have h := HQ.out
      rw [Nat.sub_zero] at h
      unfold bitN
      rw [← h]
      omega

/-- What turn holds. -/
def TurnAt (X : Nat) (out pow i : Value) : Prop :=
  ∃ k P O : Nat, k ≤ 32 ∧ out = .int .i64 (O : Int) ∧ pow = .int .i64 (P : Int) ∧ i = .int .i64 (k : Int) ∧ P ≤ 4294967296 ∧ O < 4294967296 ∧ P = 2 ^ k ∧ O = X % 2 ^ k

theorem turn_step (a b k P O : Nat) (hk : k < 32) (hP : P = 2 ^ k) (hO : O = (a ^^^ b) % 2 ^ k) (hX : a ^^^ b < 4294967296) :
    2 * P ≤ 4294967296 ∧ 2 * P = 2 ^ (k + 1) ∧ (bitN a k = bitN b k → O = (a ^^^ b) % 2 ^ (k + 1)) ∧ (bitN a k ≠ bitN b k → O + P = (a ^^^ b) % 2 ^ (k + 1) ∧ O + P < 4294967296) := by
  unfold bitN
  have h1 : 2 ^ (k + 1) ≤ 2 ^ 32 := Nat.pow_le_pow_right (by decide) (by omega)
  have h2 : (a ^^^ b) / 2 ^ k % 2 = (a / 2 ^ k % 2 + b / 2 ^ k % 2) % 2 := by rw [Nat.xor_div_two_pow, xor_mod2]
  have h3 : (a ^^^ b) % 2 ^ (k + 1) = (a ^^^ b) % 2 ^ k + 2 ^ k * ((a ^^^ b) / 2 ^ k % 2) := Nat.mod_pow_succ
  have h4 : (a ^^^ b) % 2 ^ (k + 1) ≤ a ^^^ b := Nat.mod_le _ _
  rw [Nat.pow_succ] at h1
  refine ⟨by omega, by rw [Nat.pow_succ]; omega, fun he => ?_, fun hne => ?_⟩
  · rw [h3, h2, he, show (b / 2 ^ k % 2 + b / 2 ^ k % 2) % 2 = 0 by omega, Nat.mul_zero]
    exact hO
  · rw [h3, h2, show (a / 2 ^ k % 2 + b / 2 ^ k % 2) % 2 = 1 by omega, Nat.mul_one] at *
    omega

set_option maxRecDepth 100000 in
set_option maxHeartbeats 400000 in
theorem rturn_any (a b : Nat) (w : World) (ha : a < 4294967296) (hb : b < 4294967296) :
    Calls Try.prog 22 #[.int .i64 (a : Int), .int .i64 (b : Int)] w fun e w' => e = .returned (.int .i64 ((a ^^^ b : Nat) : Int)) ∧ w = w' := by
  have HX := Lib.hid (Nat.xor_lt_two_pow (n := 32) (x := a) (y := b) ha hb)
  go_enter Try.func22, Try.ntmps22
  go_wp2
  go_loop [5, 6, 7] (fun out pow i => TurnAt (a ^^^ b) out pow i) (fun _ _ i => 32 - (intOf i).toNat)
  case atStart => exact ⟨0, 1, 0, by omega, rfl, rfl, rfl, by omega, by omega, rfl, by rw [Nat.pow_zero, Nat.mod_one]⟩
  case round =>
    obtain ⟨k, P, O, hk, rfl, rfl, rfl, hP, hO, hPk, hOk⟩ := hrel
    have HP := Lib.hid hPk
    have HO := Lib.hid hOk
    clear hPk hOk
    by_cases h32 : k < 32
    · obtain ⟨b1, b2, b3, b4⟩ := turn_step a b k P O h32 HP.out HO.out HX.out
      have HB2 := Lib.hid b2
      have HB3 := Lib.hid b3
      have HB4 := Lib.hid b4
      clear b2 b3 b4 HP HO HX
      go_wp2_with fail
      refine (rbit_any a k _ (by omega) (by omega)).mono ?_
      rintro _ w1 ⟨rfl, rfl⟩
      go_wp2_with fail
      refine (rbit_any b k _ (by omega) (by omega)).mono ?_
      rintro _ w1 ⟨rfl, rfl⟩
      generalize bitN a k = x at *
      generalize bitN b k = y at *
      by_cases he : x = y
      · subst he
        have HE := Lib.hid (HB3.out rfl)
        clear HB3 HB4
        go_wp2
        go_round
        case rel => exact ⟨k + 1, 2 * P, O, by omega, rfl, by go_num, by go_num, by omega, hO, HB2.out, HE.out⟩
        case measure => simp [intOf]; omega
      · have HE := Lib.hid (HB4.out he)
        clear HB3 HB4
        go_wp2
        go_round
        case rel => exact ⟨k + 1, 2 * P, O + P, by omega, by go_num, by go_num, by go_num, by omega, HE.out.2, HB2.out, HE.out.1⟩
        case measure => simp [intOf]; omega
    · have e : k = 32 := by omega
      subst e
      have HE := Lib.hid (HO.out.trans (Nat.mod_eq_of_lt HX.out))
      clear HO HX HP
      go_wp2
      go_ret
      exact ⟨ret_i64 (by rw [HE.out]), rfl⟩

theorem at_rturn {A B : Int} {a b v : Nat} (w : World) (hA : A = (a : Int)) (hB : B = (b : Int)) (ha : a < 4294967296) (hb : b < 4294967296) (hv : a ^^^ b = v) :
    Calls Try.prog 22 #[.int .i64 A, .int .i64 B] w fun e w' => e = .returned (.int .i64 (v : Int)) ∧ w = w' := by
  subst hA hB hv
  exact rturn_any a b w ha hb

/-- What Entry holds. -/
def EntryAt (c : Nat) (num i : Value) : Prop := ∃ k x : Nat, k ≤ 8 ∧ num = .int .i64 (x : Int) ∧ i = .int .i64 (k : Int) ∧ x < 4294967296 ∧ crcN (8 - k) x = crcN 8 c

theorem entry_step (c k x : Nat) (hk : k < 8) (h : crcN (8 - k) x = crcN 8 c) : crcN (8 - (k + 1)) (crcT x) = crcN 8 c := by
  rw [← h, show 8 - k = (8 - (k + 1)) + 1 by omega]
  rfl

theorem crcT_odd (x : Nat) (h : x % 2 = 1) : x / 2 ^^^ 3988292384 = crcT x := by
  unfold crcT
  rw [if_pos h]

theorem crcT_ev (x : Nat) (h : x % 2 = 0) : x / 2 = crcT x := by
  unfold crcT
  rw [if_neg (by omega), Nat.xor_zero]

set_option maxRecDepth 100000 in
set_option maxHeartbeats 400000 in
theorem rentry_any (c : Nat) (w : World) (hc : c < 4294967296) :
    Calls Try.prog 12 #[.int .i64 (c : Int)] w fun e w' => e = .returned (.int .i64 ((crcN 8 c : Nat) : Int)) ∧ w = w' := by
  go_enter Try.func12, Try.ntmps12
  go_wp2
  go_loop [3, 4] (fun num i => EntryAt c num i) (fun _ i => 8 - (intOf i).toNat)
  case atStart => exact ⟨0, c, by omega, rfl, rfl, hc, rfl⟩
  case round =>
    obtain ⟨k, x, hk, rfl, rfl, hx, hN⟩ := hrel
    have HN := Lib.hid hN
    clear hN
    by_cases h8 : k < 8
    · have HS := Lib.hid (entry_step c k x h8 HN.out)
      have HT := Lib.hid (crcT_lt x hx)
      clear HN
      rcases Nat.mod_two_eq_zero_or_one x with hm | hm
      · have HE := Lib.hid (crcT_ev x hm)
        go_wp2
        go_round
        case rel => exact ⟨k + 1, x / 2, by omega, by go_num, by go_num, by omega, by rw [HE.out]; exact HS.out⟩
        case measure => simp [intOf]; omega
      · have HE := Lib.hid (crcT_odd x hm)
        go_wp2_with fail
        refine (at_rturn (a := x / 2) (b := 3988292384) (v := crcT x) _ (by omega) (by omega) (by omega) (by omega) HE.out).mono ?_
        rintro _ w1 ⟨rfl, rfl⟩
        clear HE
        go_wp2
        go_round
        case rel => exact ⟨k + 1, crcT x, by omega, rfl, by go_num, HT.out, HS.out⟩
        case measure => simp [intOf]; omega
    · have e : k = 8 := by omega
      subst e
      go_wp2
      go_ret
      refine ⟨ret_i64 ?_, rfl⟩
      have h : x = crcN 8 c := HN.out
      rw [h]
theorem at_rentry {A : Int} {a v : Nat} (w : World) (hA : A = (a : Int)) (ha : a < 4294967296) (hv : crcN 8 a = v) :
    Calls Try.prog 12 #[.int .i64 A] w fun e w' => e = .returned (.int .i64 (v : Int)) ∧ w = w' := by
  subst hA hv
  exact rentry_any a w ha

set_option maxRecDepth 100000 in
set_option maxHeartbeats 400000 in
theorem rstep_any (s c : Nat) (w : World) (hs : s < 4294967296) (hc : c < 256) :
    Calls Try.prog 14 #[.int .i64 (s : Int), .int .i64 (c : Int)] w fun e w' => e = .returned (.int .i64 (crcStep s c : Int)) ∧ w = w' := by
  obtain ⟨x, hx⟩ : ∃ x, c ^^^ s % 256 = x := ⟨_, rfl⟩
  obtain ⟨y, hy⟩ : ∃ y, crcN 8 x = y := ⟨_, rfl⟩
  have hx8 : x < 256 := by rw [← hx]; exact Nat.xor_lt_two_pow (n := 8) hc (by omega)
  have hy32 : y < 4294967296 := by rw [← hy]; exact crcN_lt 8 x (by omega)
  have hz : s / 256 ^^^ y = crcStep s c := by rw [crcStep_table s c hc, ← hy, ← hx, Nat.xor_comm c]
  have HX := Lib.hid hx
  have HY := Lib.hid hy
  have HZ := Lib.hid hz
  clear hx hy hz
  go_enter Try.func14, Try.ntmps14
  go_wp2_with fail
  refine (at_rturn (a := c) (b := s % 256) (v := x) _ (by omega) (by omega) (by omega) (by omega) HX.out).mono ?_
  rintro _ w1 ⟨rfl, rfl⟩
  go_wp2_with fail
  refine (at_rentry (a := x) (v := y) _ (by omega) (by omega) HY.out).mono ?_
  rintro _ w1 ⟨rfl, rfl⟩
  go_wp2_with fail
  refine (at_rturn (a := s / 256) (b := y) (v := crcStep s c) _ (by omega) (by omega) (by omega) (by omega) HZ.out).mono ?_
  rintro _ w1 ⟨rfl, rfl⟩
  clear HX HY HZ
  go_wp2
  go_ret
  exact ⟨rfl, rfl⟩

/-- What Sum holds. -/
def SumAt (s : ByteArray) (sum i : Value) : Prop := ∃ k x : Nat, k ≤ s.size ∧ sum = .int .i64 (x : Int) ∧ i = .int .i64 (k : Int) ∧ x < 4294967296 ∧ x = crcSt ones32 (s.data.toList.take k)

theorem sum_step (s : ByteArray) (k x : Nat) (hk : k < s.size) (h : x = crcSt ones32 (s.data.toList.take k)) : crcStep x s[k].toNat = crcSt ones32 (s.data.toList.take (k + 1)) ∧ crcStep x s[k].toNat < 4294967296 := by
  have e : crcStep x s[k].toNat = crcSt ones32 (s.data.toList.take (k + 1)) := by
    rw [take_snoc s k hk, crcSt_append, h]
    rfl
  exact ⟨e, by rw [e]; exact crcSt_lt _ _ (by decide)⟩

/-- The sum of a text. -/
def sumB (s : ByteArray) : Nat := crcSum s.data.toList

theorem sumB_lt (s : ByteArray) : sumB s < 4294967296 := crcSum_lt _

theorem sumB_sub (s : ByteArray) (x : Nat) (hx : x < 4294967296) (h : x = crcSt ones32 s.data.toList) : (4294967295 : Int) - (x : Int) = (sumB s : Int) := by
  have e : sumB s = 4294967295 - x := by
    unfold sumB crcSum
    rw [← h]
    exact xor_ones x hx
  omega

set_option maxRecDepth 100000 in
set_option maxHeartbeats 400000 in
theorem rsum_any (s : ByteArray) (w : World) (hs : s.size ≤ maxLen) :
    Calls Try.prog 17 #[.string s] w fun e w' => e = .returned (.int .i64 (sumB s : Int)) ∧ w = w' := by
  unfold maxLen at hs
  go_enter Try.func17, Try.ntmps17
  go_wp2
  go_loop [3, 4] (fun sum i => SumAt s sum i) (fun _ i => s.size - (intOf i).toNat)
  case atStart => exact ⟨0, 4294967295, by omega, rfl, rfl, by omega, rfl⟩
  case round =>
    obtain ⟨k, x, hk, rfl, rfl, hx, hS⟩ := hrel
    have HS := Lib.hid hS
    clear hS
    by_cases hlt : k < s.size
    · have hcl : s[k].toNat < 256 := s[k].toNat_lt
      have HE := Lib.hid (sum_step s k x hlt HS.out)
      clear HS
      go_wp2_with fail
      refine (rstep_any x s[k].toNat _ hx hcl).mono ?_
      rintro _ w1 ⟨rfl, rfl⟩
      go_wp2
      go_round
      case rel => exact ⟨k + 1, _, by omega, rfl, by go_num, HE.out.2, HE.out.1⟩
      case measure => simp [intOf]; omega
    · have HE := Lib.hid (sumB_sub s x hx (by
        have h := HS.out
        rw [List.take_of_length_le (by rw [list_len]; omega)] at h
        exact h))
      clear HS
      go_wp2
      go_ret
      exact ⟨ret_i64 HE.out, rfl⟩

/-- The four bytes behind a text. -/
def tailB (s : ByteArray) : ByteArray := ⟨(le4 (sumB s)).toArray⟩

theorem tailB_size (s : ByteArray) : (tailB s).size = 4 := rfl

theorem tailB_four (s : ByteArray) : tailB s = ⟨#[UInt8.ofNat (sumB s % 256), UInt8.ofNat (sumB s / 256 % 256), UInt8.ofNat (sumB s / 65536 % 256), UInt8.ofNat (sumB s / 16777216)]⟩ := rfl

set_option maxRecDepth 100000 in
set_option maxHeartbeats 400000 in
theorem rtail_any (s : ByteArray) (w : World) (hs : s.size ≤ maxLen) :
    Calls Try.prog 18 #[.string s] w fun e w' => e = .returned (.string (tailB s)) ∧ Below w.heap.size w w' := by
  have hx := sumB_lt s
  have HT := Lib.hid (tailB_four s)
  go_enter Try.func18, Try.ntmps18
  go_wp2_with fail
  refine (rsum_any s _ hs).mono ?_
  rintro _ w1 ⟨rfl, rfl⟩
  generalize sumB s = x at *
  have hcv := four_back ((x : Int) % 256) ((x : Int) / 256 % 256) ((x : Int) / 65536 % 256) ((x : Int) / 16777216) (UInt8.ofNat (x % 256)) (UInt8.ofNat (x / 256 % 256)) (UInt8.ofNat (x / 65536 % 256)) (UInt8.ofNat (x / 16777216))
    (by rw [u8_ofNat _ (by omega)]; omega) (by rw [u8_ofNat _ (by omega)]; omega) (by rw [u8_ofNat _ (by omega)]; omega) (by rw [u8_ofNat _ (by omega)]; omega) w
  rw [← HT.out] at hcv
  clear HT
  go_wp2
  go_ret
  exact ⟨rfl, (Below.refl _ _).alloc (Nat.le_refl _) _⟩

/-- Does s end with its sum? -/
def rightB (s : ByteArray) : Bool := decide (4 ≤ s.size) && ((s.extract (s.size - 4) s.size).toList == (tailB (s.extract 0 (s.size - 4))).toList)

set_option maxRecDepth 100000 in
set_option maxHeartbeats 800000 in
theorem rright_any (s : ByteArray) (w : World) (hs : s.size ≤ maxLen) :
    Calls Try.prog 20 #[.string s] w fun e w' => e = .returned (.bool (rightB s)) ∧ Below w.heap.size w w' := by
  by_cases h4 : 4 ≤ s.size
  · obtain ⟨k, hk⟩ : ∃ k, s.size = k + 4 := ⟨s.size - 4, by omega⟩
    have hkz : s.size - 4 = k := by omega
    have HE : Hid (rightB s = ((s.extract k s.size).toList == (tailB (s.extract 0 k)).toList)) := by
      show _ = _
      unfold rightB
      rw [hkz]
      simp [h4]
    have hki : (s.size : Int) - 4 = (k : Int) := by omega
    have hkl : (k : Int) ≤ (s.size : Int) := by omega
    have h4i : (4 : Int) ≤ (s.size : Int) := by omega
    have hks : k ≤ s.size := by omega
    have hez : (s.extract 0 k).size ≤ maxLen := by rw [ByteArray.size_extract]; unfold maxLen at *; omega
    clear hk hkz h4
    unfold maxLen at hs
    go_enter Try.func20, Try.ntmps20
    go_wp2_with fail
    refine wp_region_below (g := w.heap.size) (w0 := w) (by kernel_rfl) (by kernel_rfl) (Below.refl _ _) (fun hex => ?_)
    repeat (go_big_quiet_step (first
      | (intro _; rfl)
      | (intro hq; go_at_call 18; refine (rtail_any _ _ hez).mono ?_; rintro _ w1 ⟨rfl, hb1⟩; exact ⟨rfl, chain hq hb1⟩)))
    refine wpQuiet_nil ?_
    intro w1 hb1
    go_wp2
    go_ret
    exact ⟨ret_bool HE.out.symm, hb1⟩
  · have HE : Hid (rightB s = false) := by
      show _ = _
      unfold rightB
      simp [h4]
    have h4i : decide ((4 : Int) ≤ (s.size : Int)) = false := by rw [decide_eq_false_iff_not]; omega
    have h4j : (s.size : Int) < 4 := by omega
    clear h4
    go_enter Try.func20, Try.ntmps20
    go_wp2_with fail
    refine wp_region_below (g := w.heap.size) (w0 := w) (by kernel_rfl) (by kernel_rfl) (Below.refl _ _) (fun hex => ?_)
    repeat (go_big_quiet_step (first
      | (intro _; rfl)))
    refine wpQuiet_nil ?_
    intro w1 hb1
    go_wp2
    go_ret
    exact ⟨ret_bool HE.out.symm, hb1⟩
theorem rightB_iff (s : ByteArray) (h : 4 ≤ s.size) : rightB s = true ↔ crcSt ones32 s.data.toList = crcEnd := by
  have hl := list_len s
  unfold rightB
  rw [show decide (4 ≤ s.size) = true by simpa using h, Bool.true_and, eq_toList, decide_eq_true_eq]
  have e : s.data.toList = (s.extract 0 (s.size - 4)).data.toList ++ (s.extract (s.size - 4) s.size).data.toList := by
    rw [extract_list, extract_list, List.drop_zero, Nat.sub_zero, List.take_of_length_le (l := List.drop _ _) (by rw [List.length_drop]; omega), List.take_append_drop]
  have h4 : (s.extract (s.size - 4) s.size).data.toList.length = 4 := by
    rw [list_len, ByteArray.size_extract]
    omega
  have hr := right_iff (s.extract 0 (s.size - 4)).data.toList (s.extract (s.size - 4) s.size).data.toList h4
  rw [← e] at hr
  rw [← hr]
  constructor
  · intro h
    rw [h]
    simp [tailB, sumB]
  · intro h
    apply ba_ext
    rw [h]
    simp [tailB, sumB]
end Go.Proofs.Ytbgombgcjfemmaa
