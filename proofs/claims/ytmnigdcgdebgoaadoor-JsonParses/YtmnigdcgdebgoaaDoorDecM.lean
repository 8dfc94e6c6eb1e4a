/-
  Digits of numbers: plain facts of lists and numbers.
  strings.CutPrefix and what it calls: contracts.
  digits of package dec: a contract.
  worth of package dec: contracts.
  Print, Read, Fixed and Unfixed of package dec: contracts.
  Read of package dec: contracts.
-/
import Derived.Test.YtmnigdcgdebgoaaDoorBaseM
import Derived.Test.YtmnigdcgdebgoaaDoorRows
import Derived.WalkKit
import Derived.WalkSpells
import Derived.WalkLawsBesides
import Derived.Lib.Hide
import Derived.Laws.Cover4
import Derived.WalkMore
import Derived.Deep.LoopGhost
import Derived.Lib.OthersKept
import Derived.Laws.RangeAny
import Derived.Laws.Bits64
import Derived.Laws.BitsLemmas
namespace Go.Proofs.YtmnigdcgdebgoaaDoor
set_option linter.unusedVariables false

/-- The k lowest decimal digits of n, the highest one first. -/
def padK (n : Nat) : Nat → List UInt8
  | 0 => []
  | k + 1 => UInt8.ofNat (48 + n / 10 ^ k % 10) :: padK n k

theorem padK_len (n : Nat) : ∀ k, (padK n k).length = k
  | 0 => rfl
  | k + 1 => by simp [padK, padK_len n k]

theorem pow_pos10 (k : Nat) : 0 < 10 ^ k := Nat.pow_pos (by decide)

def isD (c : UInt8) : Bool := decide (48 ≤ c.toNat) && decide (c.toNat ≤ 57)
def allD (l : List UInt8) : Bool := l.all isD
def valA (a : Nat) : List UInt8 → Nat
  | [] => a
  | c :: r => valA (10 * a + (c.toNat - 48)) r
def valN (l : List UInt8) : Nat := valA 0 l

theorem valA_eq : ∀ (l : List UInt8) (a : Nat), valA a l = a * 10 ^ l.length + valN l
  | [], a => by
    show a = a * 10 ^ 0 + 0
    rw [Nat.pow_zero]
    omega
  | c :: r, a => by
    have h1 := valA_eq r (10 * a + (c.toNat - 48))
    have h2 := valA_eq r (10 * 0 + (c.toNat - 48))
    show valA (10 * a + (c.toNat - 48)) r = a * 10 ^ (r.length + 1) + valA (10 * 0 + (c.toNat - 48)) r
    rw [h1, h2, Nat.pow_succ, Nat.add_mul, Nat.add_mul]
    generalize 10 ^ r.length = P
    have e : 10 * a * P = a * (P * 10) := by rw [Nat.mul_comm 10 a, Nat.mul_assoc, Nat.mul_comm 10]
    rw [e, Nat.mul_zero, Nat.zero_mul, Nat.zero_add, Nat.add_assoc]

theorem valN_cons (c : UInt8) (r : List UInt8) : valN (c :: r) = (c.toNat - 48) * 10 ^ r.length + valN r := by
  show valA (10 * 0 + (c.toNat - 48)) r = _
  rw [valA_eq]
  simp

theorem valN_append : ∀ (l m : List UInt8), valN (l ++ m) = valN l * 10 ^ m.length + valN m
  | [], m => by
    show valN m = 0 * 10 ^ m.length + valN m
    rw [Nat.zero_mul, Nat.zero_add]
  | c :: r, m => by
    rw [List.cons_append, valN_cons, valN_cons, valN_append r m, List.length_append, Nat.pow_add, Nat.add_mul, Nat.mul_assoc]
    omega

theorem valN_snoc (l : List UInt8) (c : UInt8) : valN (l ++ [c]) = 10 * valN l + (c.toNat - 48) := by
  rw [valN_append, valN_cons]
  show valN l * 10 ^ 1 + ((c.toNat - 48) * 10 ^ 0 + 0) = _
  rw [Nat.pow_one, Nat.pow_zero]
  omega

theorem dig_toNat (n : Nat) (h : n < 10) : (UInt8.ofNat (48 + n)).toNat = 48 + n := by
  rw [UInt8.toNat_ofNat']
  omega

theorem dig_isD (n : Nat) : isD (UInt8.ofNat (48 + n % 10)) = true := by
  unfold isD
  rw [dig_toNat _ (Nat.mod_lt _ (by decide))]
  simp
  omega

theorem padK_all (n : Nat) : ∀ k, allD (padK n k) = true
  | 0 => rfl
  | k + 1 => by
    have := padK_all n k
    unfold allD at *
    rw [padK, List.all_cons, dig_isD, this]
    rfl

theorem valN_pad (n : Nat) : ∀ k, valN (padK n k) = n % 10 ^ k
  | 0 => (Nat.mod_one n).symm
  | k + 1 => by
    rw [padK, valN_cons, dig_toNat _ (Nat.mod_lt _ (by decide)), valN_pad n k, padK_len, Nat.pow_succ, Nat.mod_mul]
    have : (48 + n / 10 ^ k % 10 - 48) = n / 10 ^ k % 10 := by omega
    rw [this, Nat.mul_comm]
    omega

theorem valN_lt : ∀ l : List UInt8, allD l = true → valN l < 10 ^ l.length
  | [], _ => by
    show 0 < 10 ^ 0
    decide
  | c :: r, h => by
    have h' : isD c = true ∧ allD r = true := by simpa [allD] using h
    have ih := valN_lt r h'.2
    have hc : c.toNat - 48 ≤ 9 := by
      have := h'.1
      simp [isD] at this
      omega
    rw [valN_cons, List.length_cons, Nat.pow_succ]
    have : (c.toNat - 48) * 10 ^ r.length ≤ 9 * 10 ^ r.length := Nat.mul_le_mul_right _ hc
    omega

theorem padK_high (a b k : Nat) : ∀ j, j ≤ k → padK (a * 10 ^ k + b) j = padK b j
  | 0, _ => rfl
  | j + 1, hj => by
    rw [padK, padK, padK_high a b k j (by omega)]
    have e : 10 ^ k = 10 ^ j * (10 ^ (k - j - 1) * 10) := by
      rw [← Nat.pow_succ, ← Nat.pow_add]
      congr 1
      omega
    have : (a * 10 ^ k + b) / 10 ^ j % 10 = b / 10 ^ j % 10 := by
      rw [e, ← Nat.mul_assoc, Nat.mul_comm a, Nat.mul_assoc, Nat.mul_add_div (pow_pos10 j), ← Nat.mul_assoc, Nat.mul_add_mod_self_right]
    rw [this]

theorem pad_val : ∀ l : List UInt8, allD l = true → padK (valN l) l.length = l
  | [], _ => rfl
  | c :: r, h => by
    have h' : isD c = true ∧ allD r = true := by simpa [allD] using h
    have ih := pad_val r h'.2
    have hl := valN_lt r h'.2
    have hc : 48 ≤ c.toNat ∧ c.toNat ≤ 57 := by
      have := h'.1
      simpa [isD] using this
    rw [valN_cons, List.length_cons, padK, padK_high _ _ _ _ (Nat.le_refl _), ih]
    congr 1
    have : ((c.toNat - 48) * 10 ^ r.length + valN r) / 10 ^ r.length = c.toNat - 48 := by
      rw [Nat.mul_comm, Nat.mul_add_div (pow_pos10 _), Nat.div_eq_of_lt hl]
      omega
    rw [this]
    apply UInt8.toNat_inj.1
    rw [UInt8.toNat_ofNat']
    omega

/-- How many digits n has. -/
def ndF : Nat → Nat → Nat
  | 0, _ => 1
  | f + 1, n => if n < 10 then 1 else ndF f (n / 10) + 1
def nd (n : Nat) : Nat := ndF 20 n

theorem ndF_spec : ∀ (f n : Nat), n < 10 ^ (f + 1) → 1 ≤ ndF f n ∧ ndF f n ≤ f + 1 ∧ n < 10 ^ ndF f n ∧ (ndF f n = 1 ∨ 10 ^ (ndF f n - 1) ≤ n)
  | 0, n, h => by simp [ndF] at *; omega
  | f + 1, n, h => by
    unfold ndF
    by_cases h10 : n < 10
    · rw [if_pos h10]
      refine ⟨by omega, by omega, by omega, .inl rfl⟩
    · rw [if_neg h10]
      have h2 : n / 10 < 10 ^ (f + 1) := by
        rw [Nat.div_lt_iff_lt_mul (by decide)]
        rw [Nat.pow_succ] at h
        exact h
      obtain ⟨a, b, c, d⟩ := ndF_spec f (n / 10) h2
      refine ⟨by omega, by omega, ?_, .inr ?_⟩
      · rw [Nat.pow_succ]
        omega
      · rw [Nat.add_sub_cancel]
        rcases d with d | d
        · rw [d]
          omega
        · have e : ndF f (n / 10) = ndF f (n / 10) - 1 + 1 := by omega
          rw [e, Nat.pow_succ]
          omega

theorem nd_spec (n : Nat) (h : n < 10 ^ 20) : 1 ≤ nd n ∧ n < 10 ^ nd n ∧ (nd n = 1 ∨ 10 ^ (nd n - 1) ≤ n) := by
  obtain ⟨a, _, c, d⟩ := ndF_spec 20 n (by omega)
  exact ⟨a, c, d⟩

theorem nd_le (n k : Nat) (hk : 1 ≤ k) (h20 : n < 10 ^ 20) (h : n < 10 ^ k) : nd n ≤ k := by
  obtain ⟨a, b, c⟩ := nd_spec n h20
  rcases c with c | c
  · omega
  · rcases Nat.lt_or_ge k (nd n) with hlt | hge
    · have : 10 ^ k ≤ 10 ^ (nd n - 1) := Nat.pow_le_pow_right (by decide) (by omega)
      omega
    · exact hge

theorem lt_of_nd (n k : Nat) (h20 : n < 10 ^ 20) (h : nd n ≤ k) : n < 10 ^ k := by
  obtain ⟨_, b, _⟩ := nd_spec n h20
  have : 10 ^ nd n ≤ 10 ^ k := Nat.pow_le_pow_right (by decide) h
  omega

/-- A text of digits. -/
def padB (n k : Nat) : ByteArray := ⟨(padK n k).toArray⟩

/-- A number's text. -/
def printL (n : Int) : List UInt8 := if n < 0 then 45 :: padK n.natAbs (nd n.natAbs) else padK n.toNat (nd n.toNat)
def printB (n : Int) : ByteArray := ⟨(printL n).toArray⟩

/-- A number in so many digits, or nothing. -/
def fixB (n w : Int) : ByteArray := if 1 ≤ w ∧ w ≤ 18 ∧ 0 ≤ n ∧ n < 10 ^ w.toNat then padB n.toNat w.toNat else ByteArray.empty

theorem padB_list (n k : Nat) : (padB n k).data.toList = padK n k := by simp [padB]
theorem padB_size (n k : Nat) : (padB n k).size = k := by
  show (padK n k).toArray.size = k
  simp [padK_len]
theorem printB_list (n : Int) : (printB n).data.toList = printL n := by simp [printB]
theorem int_bound (n : Int) (h1 : -9223372036854775808 ≤ n) (h2 : n ≤ 9223372036854775807) : n.natAbs < 10 ^ 20 ∧ n.toNat < 10 ^ 20 := by omega

theorem allD_head (c : UInt8) (r : List UInt8) (h : allD (c :: r) = true) : 48 ≤ c.toNat := by
  simp [allD, isD] at h
  omega

theorem padK_head (n k : Nat) (hk : 1 ≤ k) (r : List UInt8) : padK n k ≠ 45 :: r := by
  intro h
  have := padK_all n k
  rw [h] at this
  have := allD_head _ _ this
  simp at this

theorem printL_inj (a b : Int) (ha1 : -9223372036854775808 ≤ a) (ha2 : a ≤ 9223372036854775807) (hb1 : -9223372036854775808 ≤ b) (hb2 : b ≤ 9223372036854775807) (h : printL a = printL b) : a = b := by
  obtain ⟨a1, a2⟩ := int_bound a ha1 ha2
  obtain ⟨b1, b2⟩ := int_bound b hb1 hb2
  have key : ∀ m n : Nat, m < 10 ^ 20 → n < 10 ^ 20 → padK m (nd m) = padK n (nd n) → m = n := by
    intro m n hm hn h
    have e := congrArg valN h
    rw [valN_pad, valN_pad, Nat.mod_eq_of_lt (nd_spec m hm).2.1, Nat.mod_eq_of_lt (nd_spec n hn).2.1] at e
    exact e
  unfold printL at h
  split at h <;> split at h
  · have := key _ _ a1 b1 (List.cons.inj h).2
    omega
  · exact absurd h.symm (padK_head _ _ (nd_spec _ b2).1 _)
  · exact absurd h (padK_head _ _ (nd_spec _ a2).1 _)
  · have := key _ _ a2 b2 h
    omega

theorem printB_inj (a b : Int) (ha1 : -9223372036854775808 ≤ a) (ha2 : a ≤ 9223372036854775807) (hb1 : -9223372036854775808 ≤ b) (hb2 : b ≤ 9223372036854775807) (h : printB a = printB b) : a = b := by
  refine printL_inj a b ha1 ha2 hb1 hb2 ?_
  rw [← printB_list, ← printB_list, h]

/-- Texts of as many digits compare as their numbers. -/
theorem padK_less : ∀ (k a b : Nat), a < 10 ^ k → b < 10 ^ k → Op.bytesLess (padK a k) (padK b k) = decide (a < b)
  | 0, a, b, ha, hb => by
    simp at ha hb
    subst ha hb
    simp [padK, Op.bytesLess]
  | k + 1, a, b, ha, hb => by
    have hp := pow_pos10 k
    have hma : a % 10 ^ k < 10 ^ k := Nat.mod_lt _ hp
    have hmb : b % 10 ^ k < 10 ^ k := Nat.mod_lt _ hp
    have eA : padK a k = padK (a % 10 ^ k) k := by
      conv => lhs; rw [← Nat.div_add_mod a (10 ^ k), Nat.mul_comm]
      exact padK_high _ _ k k (Nat.le_refl _)
    have eB : padK b k = padK (b % 10 ^ k) k := by
      conv => lhs; rw [← Nat.div_add_mod b (10 ^ k), Nat.mul_comm]
      exact padK_high _ _ k k (Nat.le_refl _)
    have ih := padK_less k (a % 10 ^ k) (b % 10 ^ k) hma hmb
    rw [Nat.pow_succ] at ha hb
    have da : a / 10 ^ k < 10 := (Nat.div_lt_iff_lt_mul hp).2 (by omega)
    have db : b / 10 ^ k < 10 := (Nat.div_lt_iff_lt_mul hp).2 (by omega)
    have qa := Nat.div_add_mod a (10 ^ k)
    have qb := Nat.div_add_mod b (10 ^ k)
    rw [padK, padK, Op.bytesLess, eA, eB, ih, Nat.mod_eq_of_lt da, Nat.mod_eq_of_lt db]
    have ta := dig_toNat _ da
    have tb := dig_toNat _ db
    have hlt : decide (UInt8.ofNat (48 + a / 10 ^ k) < UInt8.ofNat (48 + b / 10 ^ k)) = decide (a / 10 ^ k < b / 10 ^ k) := by
      rw [Bool.eq_iff_iff, decide_eq_true_eq, decide_eq_true_eq, UInt8.lt_iff_toNat_lt, ta, tb]
      omega
    have heq : (UInt8.ofNat (48 + a / 10 ^ k) == UInt8.ofNat (48 + b / 10 ^ k)) = decide (a / 10 ^ k = b / 10 ^ k) := by
      rw [Bool.eq_iff_iff, beq_iff_eq, decide_eq_true_eq, ← UInt8.toNat_inj, ta, tb]
      omega
    rw [hlt, heq]
    rw [Bool.eq_iff_iff]
    simp only [Bool.or_eq_true, Bool.and_eq_true, decide_eq_true_eq]
    generalize a / 10 ^ k = x at *
    generalize b / 10 ^ k = y at *
    generalize a % 10 ^ k = u at *
    generalize b % 10 ^ k = v at *
    generalize 10 ^ k = P at *
    clear ih hlt heq ta tb eA eB
    rcases Nat.lt_trichotomy x y with h | h | h
    · have : P * x + P ≤ P * y := by
        have := Nat.mul_le_mul_left P (show x + 1 ≤ y from h)
        rw [Nat.mul_add] at this
        omega
      omega
    · subst h
      omega
    · have : P * y + P ≤ P * x := by
        have := Nat.mul_le_mul_left P (show y + 1 ≤ x from h)
        rw [Nat.mul_add] at this
        omega
      omega

theorem padK_inj (k a b : Nat) (ha : a < 10 ^ k) (hb : b < 10 ^ k) (h : padK a k = padK b k) : a = b := by
  have e := congrArg valN h
  rw [valN_pad, valN_pad, Nat.mod_eq_of_lt ha, Nat.mod_eq_of_lt hb] at e
  exact e
end Go.Proofs.YtmnigdcgdebgoaaDoor
namespace Go.Proofs.YtmnigdcgdebgoaaDoor
open Go.RowKit
set_option linter.unusedVariables false

/-- Does s begin with p? -/
def prefB (s p : ByteArray) : Bool := decide (p.size ≤ s.size) && ((s.extract 0 p.size).toList == p.toList)

set_option maxHeartbeats 400000 in
theorem hasprefix_any (s p : ByteArray) (w : World) (hs : s.size ≤ maxLen) (hp : p.size ≤ maxLen) :
    Calls Tryd.prog 69 #[.string s, .string p] w fun e w' => e = .returned (.bool (prefB s p)) ∧ w = w' := by
  unfold maxLen at hs hp
  by_cases h : p.size ≤ s.size
  · have HE : Hid (prefB s p = ((s.extract 0 p.size).toList == p.toList)) := by show _ = _; simp [prefB, h]
    go_enter Tryd.func69, Tryd.ntmps69
    go_wp2
    go_ret
    exact ⟨ret_bool HE.out.symm, rfl⟩
  · have HE : Hid (prefB s p = false) := by show _ = _; simp [prefB, h]
    go_enter Tryd.func69, Tryd.ntmps69
    go_wp2
    go_ret
    exact ⟨ret_bool HE.out.symm, rfl⟩

set_option maxHeartbeats 400000 in
theorem cutp_yes (s p : ByteArray) (w : World) (hs : s.size ≤ maxLen) (hp : p.size ≤ maxLen) (h : prefB s p = true) :
    Calls Tryd.prog 108 #[.string s, .string p] w fun e w' => e = .returned (.tuple #[.string (s.extract p.size s.size), .bool true]) ∧ w = w' := by
  have hle : p.size ≤ s.size := by
    unfold prefB at h
    simp at h
    exact h.1
  have H := Lib.hid h
  clear h
  have in23 : Calls Tryd.prog 118 #[.string s, .string p] w fun e w' => e = .returned (.tuple #[.string (s.extract p.size s.size), .bool true]) ∧ w = w' := by
    go_enter Tryd.func118, Tryd.ntmps118
    go_wp2_with fail
    refine (hasprefix_any s p _ hs hp).mono ?_
    rintro e w' ⟨rfl, rfl⟩
    rw [H.out]
    unfold maxLen at hs hp
    go_wp2
    go_ret2
    exact ⟨rfl, rfl⟩
  go_enter Tryd.func108, Tryd.ntmps108
  go_wp2_with fail
  refine in23.mono ?_
  rintro e w' ⟨rfl, rfl⟩
  go_wp2
  go_ret2
  exact ⟨rfl, rfl⟩

set_option maxHeartbeats 400000 in
theorem cutp_no (s p : ByteArray) (w : World) (hs : s.size ≤ maxLen) (hp : p.size ≤ maxLen) (h : prefB s p = false) :
    Calls Tryd.prog 108 #[.string s, .string p] w fun e w' => e = .returned (.tuple #[.string s, .bool false]) ∧ w = w' := by
  have H := Lib.hid h
  clear h
  have in23 : Calls Tryd.prog 118 #[.string s, .string p] w fun e w' => e = .returned (.tuple #[.string s, .bool false]) ∧ w = w' := by
    go_enter Tryd.func118, Tryd.ntmps118
    go_wp2_with fail
    refine (hasprefix_any s p _ hs hp).mono ?_
    rintro e w' ⟨rfl, rfl⟩
    rw [H.out]
    go_wp2
    go_ret2
    exact ⟨rfl, rfl⟩
  go_enter Tryd.func108, Tryd.ntmps108
  go_wp2_with fail
  refine in23.mono ?_
  rintro e w' ⟨rfl, rfl⟩
  go_wp2
  go_ret2
  exact ⟨rfl, rfl⟩
end Go.Proofs.YtmnigdcgdebgoaaDoor
namespace Go.Proofs.YtmnigdcgdebgoaaDoor
open Go.RowKit
set_option linter.unusedVariables false

/-- The row of runes in block g: the j lowest digits of n at its end. -/
def RowR (w : World) (g n j : Nat) : Prop :=
  (∀ i, i < j → w.cell? ⟨g, 19 - i, none⟩ = some (.int .i32 ((48 + n / 10 ^ i % 10 : Nat) : Int))) ∧ (∀ i, i < 20 → ∃ v, w.cell? ⟨g, i, none⟩ = some v) ∧ (∀ i, i < 20 → w.frozen? ⟨g, i, none⟩ = false)

theorem RowR.set {w : World} {g n j : Nat} (h : RowR w g n j) (hj : j < 20) (v : Int) (hv : v = ((48 + n / 10 ^ j % 10 : Nat) : Int)) (p : Nat) (hp : j + p + 1 = 20) :
    RowR (w.setCell ⟨g, p, none⟩ (.int .i32 v)) g n (j + 1) := by
  subst hv
  have ep : p = 19 - j := by omega
  subst ep
  obtain ⟨h1, h2, h3⟩ := h
  obtain ⟨v0, hv0⟩ := h2 (19 - j) (by omega)
  refine ⟨fun i hi => ?_, fun i hi => ?_, fun i hi => ?_⟩
  · by_cases e : i = j
    · subst e
      rw [World.cell?_setCell_same w _ _ hv0]
    · rw [World.cell?_setCell_other w _ _ _ (fun h => e (by injection h; omega))]
      exact h1 i (by omega)
  · by_cases e : i = 19 - j
    · subst e
      exact ⟨_, World.cell?_setCell_same w _ _ hv0⟩
    · rw [World.cell?_setCell_other w _ _ _ (fun h => e (by injection h; omega))]
      exact h2 i hi
  · rw [World.frozen?_setCell]
    exact h3 i hi

theorem encode_digit (c : UInt8) (h : isD c = true) (r : ByteArray) : (r ++ Utf8.encode (c.toNat : Int)) = ⟨(r.data.toList ++ [c]).toArray⟩ := by
  have hc : 48 ≤ c.toNat ∧ c.toNat ≤ 57 := by simpa [isD] using h
  have key : ∀ c : UInt8, c.toNat < 128 → Utf8.encode (c.toNat : Int) = ⟨#[c]⟩ := by
    intro c hc
    have : ∀ n : Nat, n < 128 → Utf8.encode (n : Int) = ⟨#[UInt8.ofNat n]⟩ := by decide +kernel
    rw [this _ hc]
    simp
  rw [key c (by omega)]
  apply ba_ext
  simp

theorem runes_digits : ∀ (l : List UInt8), allD l = true → runesBytes (l.map fun c => (c.toNat : Int)) = ⟨l.toArray⟩ := by
  have key : ∀ (l : List UInt8) (r : ByteArray), allD l = true → (l.map fun c => (c.toNat : Int)).foldl (fun r n => r ++ Utf8.encode n) r = ⟨(r.data.toList ++ l).toArray⟩ := by
    intro l
    induction l with
    | nil => intro r _; exact ba_ext (by simp)
    | cons c t ih =>
      intro r h
      have h' : isD c = true ∧ allD t = true := by simpa [allD] using h
      rw [List.map_cons, List.foldl_cons, encode_digit c h'.1, ih _ h'.2]
      simp
  intro l h
  unfold runesBytes
  rw [key l _ h]
  simp

theorem padK_at (n : Nat) : ∀ k i, i < k → (padK n k)[i]? = some (UInt8.ofNat (48 + n / 10 ^ (k - 1 - i) % 10))
  | 0, i, h => by omega
  | k + 1, 0, h => by simp [padK]
  | k + 1, i + 1, h => by
    rw [padK, List.getElem?_cons_succ, padK_at n k i (by omega), show k + 1 - 1 - (i + 1) = k - 1 - i by omega]

theorem RowR.new (w : World) (n : Nat) (t : TypeId) (C : Array Value) (hC : C.size = 20) : RowR (w.alloc (.cells C t)) w.heap.size n 0 := by
  refine ⟨fun i hi => by omega, fun i hi => ?_, fun i hi => by simp⟩
  refine ⟨C[i], ?_⟩
  simp [hC, hi]

/-- What holds when j digits have been written. -/
def DigAt (n k : Nat) (g : Nat) (w0 : World) (gk : Nat) (left at' : Value) (wr : World) : Prop :=
  ∃ j p q : Nat, left = .int .u64 q ∧ at' = .int .i64 ((p + 1 : Nat) : Int) ∧ j + p + 1 = 20 ∧ j + gk = k ∧ 1 ≤ gk ∧ q ≤ n ∧ q = n / 10 ^ j ∧ RowR wr g n j ∧ Below g w0 wr

theorem digits_back (w : World) (g n k len cap : Nat) (hk : k ≤ 20) (h : RowR w g n k) (hl : len = k) (p : Nat) (hp : p = 20 - k) :
    Sem.run Tryd.prog (convert 117 9 (.slice (some ⟨g, p, none⟩) len cap)) w = .ok (.string (padB n k)) w := by
  subst hl hp
  have := run_convert_runes (P := Tryd.prog) w 117 9 21 ⟨g, 20 - len, none⟩ len cap ((padK n len).map fun c => (c.toNat : Int)) (by simp [padK_len]) Tryd.underlying117 Tryd.underlying21 Tryd.underlying9 (by
    intro j hj
    have hj' : j < len := by simpa [padK_len] using hj
    have := h.1 (len - 1 - j) (by omega)
    rw [show (19 - (len - 1 - j)) = 20 - len + j by omega] at this
    have ea : (⟨g, 20 - len, none⟩ : Addr).add j = ⟨g, 20 - len + j, none⟩ := by cases j <;> simp [Addr.add]
    rw [ea, this, List.getD_eq_getElem?_getD, List.getElem?_map, padK_at n len j hj']
    simp only [Option.map_some, Option.getD_some]
    rw [dig_toNat _ (Nat.mod_lt _ (by decide))])
  rw [List.take_of_length_le (by simp [padK_len]), runes_digits _ (padK_all _ _)] at this
  exact this

theorem row_slice (g p : Nat) (hp : p ≤ 19) (w : World) : (Instr.sliceAt 116 (.pointer (some ⟨g, 0, none⟩)) (some (.int .i64 (p : Int))) none none).run Tryd.prog w = .ok (.slice (some ⟨g, p, none⟩) (20 - p) (20 - p)) w := by
  have hal : Tryd.prog.arrayLen 116 = 20 := by kernel_rfl
  have hel : Tryd.prog.elem 116 = 21 := by kernel_rfl
  have hz : ∀ W, (sizeOf 21).run Tryd.prog W = .ok 1 W := fun W => by go_simp
  rw [run_sliceAt_array_l w 116 ⟨g, 0, none⟩ (by rw [hal, hel]; exact Tryd.underlying116) .i64 p (by omega) (by rw [hal]; omega), hal, hel, hz]
  have h1 : ¬ (20 = p) := by omega
  simp only [Result.andThen, slicedAt, Int.toNat_natCast, Nat.mul_one]
  rw [if_neg h1]
  have ea : (⟨g, 0, none⟩ : Addr).add p = ⟨g, p, none⟩ := by cases p <;> simp [Addr.add]
  rw [ea]

theorem pow_step (n j q : Nat) (h : q = n / 10 ^ j) : q / 10 = n / 10 ^ (j + 1) := by
  rw [h, Nat.div_div_eq_div_mul, Nat.pow_succ]

set_option maxRecDepth 100000 in
set_option maxHeartbeats 1600000 in
theorem digits_any (n : Nat) (least : Int) (k : Nat) (w : World) (hk : 1 ≤ k) (hk20 : k ≤ 20) (hn : n < 10 ^ k) (h64 : n < 18446744073709551616) (hl0 : 0 ≤ least) (hl : least ≤ k)
    (hk3 : least = k ∨ k = 1 ∨ 10 ^ (k - 1) ≤ n) :
    Calls Tryd.prog 75 #[.int .u64 n, .int .i64 least] w fun e w' => e = .returned (.string (padB n k)) ∧ Below w.heap.size w w' := by
  have HN := Lib.hid hn
  have HK := Lib.hid hk3
  clear hn hk3
  go_enter Tryd.func75, Tryd.ntmps75
  go_wp2
  go_step3
  go_wp2
  go_step3
  go_wp2
  have HR := RowR.new w n 116 #[.int .i32 0, .int .i32 0, .int .i32 0, .int .i32 0, .int .i32 0, .int .i32 0, .int .i32 0, .int .i32 0, .int .i32 0, .int .i32 0, .int .i32 0, .int .i32 0, .int .i32 0, .int .i32 0, .int .i32 0, .int .i32 0, .int .i32 0, .int .i32 0, .int .i32 0, .int .i32 0] rfl
  go_loopg [0, 6] k (fun gk left at' wr => DigAt n k w.heap.size w gk left at' wr)
  case atStart => exact ⟨0, 19, n, rfl, rfl, by omega, by omega, by omega, by omega, by simp, HR, (Below.refl _ _).alloc (Nat.le_refl _) _⟩
  case round =>
    clear HR
    obtain ⟨j, p, q, rfl, rfl, hjp, hjk, hg1, hqn, hq, hrow, hbe⟩ := hrel
    obtain ⟨v0, c0⟩ := hrow.2.1 p (by omega)
    have f0 := hrow.2.2 p (by omega)
    have HQ := Lib.hid hq
    have HROW := Lib.hid hrow
    clear hq hrow
    have hp19 : p ≤ 19 := by omega
    have hq64 : (q : Int) ≤ 18446744073709551615 := by omega
    have hsl := row_slice w.heap.size p hp19
    have HS := HROW.out.set (by omega) (48 + (q : Int) % 10) (by rw [← HQ.out]; omega) p hjp
    have hcv := digits_back _ w.heap.size n (j + 1) (20 - p) (20 - p) (by omega) HS (by omega) p (by omega)
    have HROW2 := Lib.hid HS
    have HB := hbe.setCell (p := ⟨w.heap.size, p, none⟩) (Nat.le_refl _) (.int .i32 (48 + (q : Int) % 10))
    have HST := Lib.hid (pow_step n j q HQ.out)
    have HD : Hid (n / 10 ^ (j + 1) = 0 → n < 10 ^ (j + 1)) := fun h => (Nat.div_eq_zero_iff.1 h).resolve_left (Nat.pos_iff_ne_zero.1 (pow_pos10 _))
    have HU : Hid (k ≤ j + 1 → n / 10 ^ (j + 1) = 0) := fun h => Nat.div_eq_of_lt (Nat.lt_of_lt_of_le HN.out (Nat.pow_le_pow_right (by decide) h))
    clear HS
    go_wp2
    · have h0 : 0 < (q : Int) / 10 := by assumption
      have hs1 := HST.out
      have hs2 := HU.out
      have hgk : 2 ≤ gk := by
        rcases Nat.lt_or_ge gk 2 with h | h
        · have := hs2 (by omega)
          omega
        · exact h
      clear hs2
      go_roundg (gk - 1)
      case measure => omega
      case rel => exact ⟨j + 1, p - 1, q / 10, by go_num, by rw [show p - 1 + 1 = p by omega], by omega, by omega, by omega, by omega, hs1, HROW2.out, HB⟩
    · have h0 : (q : Int) / 10 ≤ 0 := by assumption
      have h1 : least ≤ 20 - (p : Int) := by assumption
      rw [Exit.noGoto_ret]
      go_ret
      refine ⟨ret_str ?_, HB⟩
      have hd := HD.out (by rw [← HST.out]; omega)
      have e : j + 1 = k := by
        rcases HK.out with h | h | h
        · omega
        · omega
        · rcases Nat.lt_or_ge (j + 1) k with hlt | hge
          · have : 10 ^ (j + 1) ≤ 10 ^ (k - 1) := Nat.pow_le_pow_right (by decide) (by omega)
            omega
          · omega
      rw [e]
    · have h0 : (q : Int) / 10 ≤ 0 := by assumption
      have h1 : 20 - (p : Int) < least := by assumption
      go_roundg (gk - 1)
      case measure => omega
      case rel => exact ⟨j + 1, p - 1, q / 10, by go_num, by rw [show p - 1 + 1 = p by omega], by omega, by omega, by omega, by omega, HST.out, HROW2.out, HB⟩
end Go.Proofs.YtmnigdcgdebgoaaDoor
namespace Go.Proofs.YtmnigdcgdebgoaaDoor
open Go.RowKit
set_option linter.unusedVariables false

/-- What worth holds at place pos. -/
def WorthAt (s : ByteArray) (g : Nat) (w0 : World) (gk : Nat) (sum : Value) (wr : World) : Prop :=
  ∃ pos S : Nat, pos + gk = s.size ∧ sum = .int .u64 (S : Int) ∧ S < 18446744073709551616 ∧ S = valN (s.data.toList.take pos) % 18446744073709551616 ∧ allD (s.data.toList.take pos) = true ∧
    wr.heap[g]? = some (.stringIter s pos) ∧ Below g w0 wr

theorem allD_snoc (l : List UInt8) (c : UInt8) (h : allD l = true) : allD (l ++ [c]) = isD c := by
  unfold allD at *
  rw [List.all_append, h]
  simp

theorem allD_take (l : List UInt8) (k : Nat) (h : allD (l.take k) = false) : allD l = false := by
  unfold allD at *
  rw [← Bool.not_eq_true] at *
  intro h2
  apply h
  rw [List.all_eq_true] at *
  intro x hx
  exact h2 x (List.mem_of_mem_take hx)

theorem worth_step (S V c : Nat) (h : S = V % 18446744073709551616) (h1 : 48 ≤ c) : IntKind.u64.wrap (IntKind.u64.wrap ((S : Int) * 10) + ((c : Int) - 48)) = (((10 * V + (c - 48)) % 18446744073709551616 : Nat) : Int) := by
  rw [IntKind.wrap_u64, IntKind.wrap_u64]
  omega

/-- One digit on. -/
theorem worthAt_step (s : ByteArray) (g : Nat) (w0 : World) (gk pos S : Nat) (wr : World) (hp : pos < s.size) (hpg : pos + gk = s.size) (hSv : S = valN (s.data.toList.take pos) % 18446744073709551616)
    (hall : allD (s.data.toList.take pos) = true) (hc : isD s[pos] = true) (hit : wr.heap[g]? = some (.stringIter s (pos + 1))) (hbe : Below g w0 wr) :
    WorthAt s g w0 (gk - 1) (.int .u64 (IntKind.u64.wrap (IntKind.u64.wrap ((S : Int) * 10) + ((s[pos].toNat : Int) - 48)))) wr := by
  have hc' : 48 ≤ s[pos].toNat ∧ s[pos].toNat ≤ 57 := by simpa [isD] using hc
  refine ⟨pos + 1, _, by omega, by rw [worth_step S _ _ hSv hc'.1], Nat.mod_lt _ (by decide), ?_, ?_, hit, hbe⟩
  · rw [take_snoc s pos hp, valN_snoc]
  · rw [take_snoc s pos hp, allD_snoc _ _ hall, hc]

set_option maxRecDepth 100000 in
set_option maxHeartbeats 1600000 in
theorem worth_yes (s : ByteArray) (w : World) (hs : s.size ≤ maxLen) (h : allD s.data.toList = true) :
    Calls Tryd.prog 109 #[.string s] w fun e w' => e = .returned (.tuple #[.int .u64 ((valN s.data.toList % 18446744073709551616 : Nat) : Int), .bool true]) ∧ Below w.heap.size w w' := by
  unfold maxLen at hs
  have HA := Lib.hid h
  clear h
  go_enter Tryd.func109, Tryd.ntmps109
  go_wp2
  go_loopg [4] s.size (fun gk sum wr => WorthAt s w.heap.size w gk sum wr)
  case atStart => exact ⟨0, 0, by omega, rfl, by omega, rfl, rfl, World.iter_heap w s 0, (Below.refl _ _).alloc (Nat.le_refl _) _⟩
  case round =>
    obtain ⟨pos, S, hpg, rfl, hS, hSv, hall, hit, hbe⟩ := hrel
    have HSv := Lib.hid hSv
    have Hall := Lib.hid hall
    clear hSv hall
    by_cases hp : pos < s.size
    · have hcd : isD s[pos] = true := by
        have := HA.out
        unfold allD at this
        rw [List.all_eq_true] at this
        exact this _ (by rw [← bget s pos hp]; exact List.getElem_mem _)
      have hc : 48 ≤ s[pos].toNat ∧ s[pos].toNat ≤ 57 := by simpa [isD] using hcd
      obtain ⟨hc1, hc2⟩ := hc
      have hnx : ∀ ty, (Instr.next (.pointer (some ⟨w.heap.size, 0, none⟩)) true ty).run Tryd.prog wr = _ := fun ty => Lib.run_next_any_at wr w.heap.size s pos ty hit hp
      rw [decode_ascii s pos hp (by omega)] at hnx
      have hit2 := Lib.iterAt_heap wr w.heap.size s pos (pos + 1) hit
      have hbe2 := Lib.below_iterAt hbe (k := w.heap.size) (Nat.le_refl _) s (pos + 1)
      have HCD := Lib.hid hcd
      clear hcd hit hbe
      go_wp2
      go_roundg (gk - 1)
      case measure => omega
      case rel => exact worthAt_step s _ _ gk pos S _ hp hpg HSv.out Hall.out HCD.out hit2 hbe2
    · have hnx : ∀ ty, (Instr.next (.pointer (some ⟨w.heap.size, 0, none⟩)) true ty).run Tryd.prog wr = _ := fun ty => Lib.run_next_end_at wr w.heap.size s pos ty hit hp
      go_wp2
      go_ret2
      refine ⟨ret_u64b true ?_, hbe⟩
      rw [HSv.out, List.take_of_length_le (by rw [list_len]; omega)]

set_option maxRecDepth 100000 in
set_option maxHeartbeats 1600000 in
theorem worth_no (s : ByteArray) (w : World) (hs : s.size ≤ maxLen) (h : allD s.data.toList = false) :
    Calls Tryd.prog 109 #[.string s] w fun e w' => e = .returned (.tuple #[.int .u64 0, .bool false]) ∧ Below w.heap.size w w' := by
  unfold maxLen at hs
  have HA := Lib.hid h
  clear h
  go_enter Tryd.func109, Tryd.ntmps109
  go_wp2
  go_loopg [4] s.size (fun gk sum wr => WorthAt s w.heap.size w gk sum wr)
  case atStart => exact ⟨0, 0, by omega, rfl, by omega, rfl, rfl, World.iter_heap w s 0, (Below.refl _ _).alloc (Nat.le_refl _) _⟩
  case round =>
    obtain ⟨pos, S, hpg, rfl, hS, hSv, hall, hit, hbe⟩ := hrel
    have HSv := Lib.hid hSv
    have Hall := Lib.hid hall
    clear hSv hall
    by_cases hp : pos < s.size
    · have hnx : ∀ ty, (Instr.next (.pointer (some ⟨w.heap.size, 0, none⟩)) true ty).run Tryd.prog wr = _ := fun ty => Lib.run_next_any_at wr w.heap.size s pos ty hit hp
      rcases (show s[pos].toNat < 48 ∨ (48 ≤ s[pos].toNat ∧ s[pos].toNat ≤ 57) ∨ (57 < s[pos].toNat ∧ s[pos].toNat < 128) ∨ 128 ≤ s[pos].toNat from by omega) with hc | ⟨hc1, hc2⟩ | ⟨hc1, hc2⟩ | hc
      · rw [decode_ascii s pos hp (by omega)] at hnx
        have hbe2 := Lib.below_iterAt hbe (k := w.heap.size) (Nat.le_refl _) s (pos + 1)
        go_wp2
        go_ret2
        exact ⟨rfl, hbe2⟩
      · have HCD : Hid (isD s[pos] = true) := by show _ = _; simp [isD, hc1, hc2]
        rw [decode_ascii s pos hp (by omega)] at hnx
        have hit2 := Lib.iterAt_heap wr w.heap.size s pos (pos + 1) hit
        have hbe2 := Lib.below_iterAt hbe (k := w.heap.size) (Nat.le_refl _) s (pos + 1)
        clear hit hbe
        go_wp2
        go_roundg (gk - 1)
        case measure => omega
        case rel => exact worthAt_step s _ _ gk pos S _ hp hpg HSv.out Hall.out HCD.out hit2 hbe2
      · rw [decode_ascii s pos hp (by omega)] at hnx
        have hbe2 := Lib.below_iterAt hbe (k := w.heap.size) (Nat.le_refl _) s (pos + 1)
        go_wp2
        go_ret2
        exact ⟨rfl, hbe2⟩
      · have hh := (decode_high s pos hp hc).1
        have hbe2 := Lib.below_iterAt hbe (k := w.heap.size) (Nat.le_refl _) s (pos + (Utf8.decode s pos).2)
        generalize (Utf8.decode s pos).1 = r at hnx hh
        generalize (Utf8.decode s pos).2 = t at hnx hbe2
        have h1 : ¬ (r : Int) < 48 := by omega
        have h2 : (57 : Int) < (r : Int) := by omega
        go_wp2
        go_ret2
        exact ⟨rfl, hbe2⟩
    · exfalso
      have h := Hall.out
      rw [List.take_of_length_le (by rw [list_len]; omega), HA.out] at h
      cases h
end Go.Proofs.YtmnigdcgdebgoaaDoor
namespace Go.Proofs.YtmnigdcgdebgoaaDoor
open Go.RowKit
set_option linter.unusedVariables false

theorem minus_pad (n : Nat) (k : Nat) : (⟨#[45]⟩ : ByteArray) ++ padB n k = ⟨(45 :: padK n k).toArray⟩ := by
  apply ba_ext
  simp [padB]

theorem printB_neg (n : Nat) (h : 1 ≤ n) : printB (-(n : Int)) = ⟨(45 :: padK n (nd n)).toArray⟩ := by
  unfold printB printL
  rw [if_pos (by omega)]
  simp

theorem printB_pos (n : Nat) : printB (n : Int) = padB n (nd n) := by
  unfold printB printL padB
  rw [if_neg (by omega)]
  simp

theorem nd_le19 (n : Nat) (h : n < 10000000000000000000) : nd n ≤ 19 := nd_le n 19 (by omega) (by omega) (by omega)

set_option maxRecDepth 100000 in
set_option maxHeartbeats 400000 in
theorem print_pos (n : Nat) (w : World) (h : n ≤ 9223372036854775807) :
    Calls Tryd.prog 55 #[.int .i64 (n : Int)] w fun e w' => e = .returned (.string (printB n)) ∧ Below w.heap.size w w' := by
  have H19 := nd_le19 n (by omega)
  obtain ⟨k1, k2, k3⟩ := nd_spec n (by omega)
  have K2 := Lib.hid k2
  have K3 := Lib.hid k3
  clear k2 k3
  have HP := Lib.hid (printB_pos n)
  go_enter Tryd.func55, Tryd.ntmps55
  go_wp2_with fail
  refine (digits_any n 1 (nd n) _ k1 (by omega) K2.out (by omega) (by omega) (by omega) (.inr K3.out)).mono ?_
  rintro _ w1 ⟨rfl, hb1⟩
  go_wp2
  go_ret
  exact ⟨ret_str HP.out.symm, hb1⟩

set_option maxRecDepth 100000 in
set_option maxHeartbeats 400000 in
theorem print_neg (n : Nat) (w : World) (h1 : 1 ≤ n) (h : n ≤ 9223372036854775808) :
    Calls Tryd.prog 55 #[.int .i64 (-(n : Int))] w fun e w' => e = .returned (.string (printB (-(n : Int)))) ∧ Below w.heap.size w w' := by
  have H19 := nd_le19 n (by omega)
  obtain ⟨k1, k2, k3⟩ := nd_spec n (by omega)
  have K2 := Lib.hid k2
  have K3 := Lib.hid k3
  clear k2 k3
  have HP := Lib.hid (printB_neg n h1)
  have hw1 : IntKind.u64.wrap (-(n : Int)) = 18446744073709551616 - n := by rw [IntKind.wrap_u64]; omega
  have hw2 : IntKind.u64.wrap (-(18446744073709551616 - (n : Int))) = n := by rw [IntKind.wrap_u64]; omega
  have hneg : (-(n : Int)) < 0 := by omega
  have HM := Lib.hid (minus_pad n (nd n))
  have hsz := padB_size n (nd n)
  have hss : (ByteArray.mk #[45]).size + (padB n (nd n)).size ≤ 9223372036854775807 := by rw [hsz]; show 1 + _ ≤ _; omega
  clear hsz
  go_enter Tryd.func55, Tryd.ntmps55
  go_wp2_with fail
  refine (digits_any n 1 (nd n) _ k1 (by omega) K2.out (by omega) (by omega) (by omega) (.inr K3.out)).mono ?_
  rintro _ w1 ⟨rfl, hb1⟩
  go_wp2
  go_ret
  exact ⟨ret_str (by rw [HP.out, HM.out]), hb1⟩
theorem print_any (n : Int) (w : World) (h1 : -9223372036854775808 ≤ n) (h2 : n ≤ 9223372036854775807) :
    Calls Tryd.prog 55 #[.int .i64 n] w fun e w' => e = .returned (.string (printB n)) ∧ Below w.heap.size w w' := by
  by_cases h : 0 ≤ n
  · obtain ⟨m, rfl⟩ := Int.eq_ofNat_of_zero_le h
    exact print_pos m w (by omega)
  · obtain ⟨m, hm⟩ : ∃ m : Nat, n = -(m : Int) := ⟨n.natAbs, by omega⟩
    subst hm
    exact print_neg m w (by omega) (by omega)

theorem at_worth {s : ByteArray} {n : Nat} (w : World) (hs : s.size ≤ maxLen) (h : allD s.data.toList = true) (hv : valN s.data.toList % 18446744073709551616 = n) :
    Calls Tryd.prog 109 #[.string s] w fun e w' => e = .returned (.tuple #[.int .u64 (n : Int), .bool true]) ∧ Below w.heap.size w w' := hv ▸ worth_yes s w hs h

end Go.Proofs.YtmnigdcgdebgoaaDoor
namespace Go.Proofs.YtmnigdcgdebgoaaDoor
open Go.RowKit
set_option linter.unusedVariables false

def minusB : ByteArray := ⟨#[45]⟩

theorem pref_minus (s : ByteArray) : prefB s ⟨#[45]⟩ = true ↔ ∃ r, s.data.toList = 45 :: r := by
  unfold prefB
  have e1 : (ByteArray.mk #[45]).size = 1 := rfl
  have e2 : (ByteArray.mk #[45]).toList = [45] := by rw [ByteArray.toList_eq]
  rw [e1, e2, ByteArray.toList_eq, ByteArray.data_extract, Array.toList_extract, List.extract_eq_take_drop, Bool.and_eq_true, decide_eq_true_eq, beq_iff_eq]
  have hl := list_len s
  cases h : s.data.toList with
  | nil => simp
  | cons c r =>
    rw [h] at hl
    simp at hl ⊢
    omega

theorem val_pad_nd (n : Nat) (h : n < 18446744073709551616) : valN (padK n (nd n)) % 18446744073709551616 = n := by
  rw [valN_pad, Nat.mod_eq_of_lt (nd_spec n (by omega)).2.1]
  omega

set_option maxRecDepth 100000 in
set_option maxHeartbeats 800000 in
theorem read_pos (n : Nat) (s : ByteArray) (w : World) (hn : n ≤ 9223372036854775807) (hs : printB (n : Int) = s) :
    Calls Tryd.prog 95 #[.string s] w fun e w' => e = .returned (.tuple #[.int .i64 (n : Int), .bool true]) ∧ Below w.heap.size w w' := by
  have hl : s.data.toList = padK n (nd n) := by rw [← hs, printB_pos, padB_list]
  have hz : s.size ≤ 19 := by rw [← list_len, hl, padK_len]; exact nd_le19 n (by omega)
  have hm : prefB s ⟨#[45]⟩ = false := by
    rw [← Bool.not_eq_true, pref_minus]
    rintro ⟨r, hr⟩
    exact padK_head n (nd n) (nd_spec n (by omega)).1 r (by rw [← hl, hr])
  have HA : Hid (allD s.data.toList = true) := by show _ = _; rw [hl]; exact padK_all _ _
  have HV : Hid (valN s.data.toList % 18446744073709551616 = n) := by show _ = _; rw [hl]; exact val_pad_nd n (by omega)
  have hq : ((printB (n : Int)).toList == s.toList) = true := by rw [hs]; simp
  have HM := Lib.hid hm
  clear hm hl hs
  go_enter Tryd.func95, Tryd.ntmps95
  go_wp2_with fail
  refine (cutp_no s _ _ (by unfold maxLen; omega) (by decide) HM.out).mono ?_
  rintro _ w1 ⟨rfl, rfl⟩
  go_wp2_with fail
  refine (at_worth (n := n) _ (by unfold maxLen; omega) HA.out HV.out).mono ?_
  rintro _ w1 ⟨rfl, hb1⟩
  go_wp2_with fail
  refine (print_any n _ (by omega) (by omega)).mono ?_
  rintro _ w2 ⟨rfl, hb⟩
  have hb2 := chain hb1 hb
  clear hb hb1
  go_wp2
  go_ret2
  exact ⟨rfl, hb2⟩

set_option maxRecDepth 100000 in
set_option maxHeartbeats 800000 in
theorem read_neg (n : Nat) (s : ByteArray) (w : World) (h1 : 1 ≤ n) (hn : n ≤ 9223372036854775808) (hs : printB (-(n : Int)) = s) :
    Calls Tryd.prog 95 #[.string s] w fun e w' => e = .returned (.tuple #[.int .i64 (-(n : Int)), .bool true]) ∧ Below w.heap.size w w' := by
  have hl : s.data.toList = 45 :: padK n (nd n) := by rw [← hs, printB_neg n h1]
  have hz : s.size ≤ 20 := by
    have := nd_le19 n (by omega)
    rw [← list_len, hl, List.length_cons, padK_len]
    omega
  have hm : prefB s ⟨#[45]⟩ = true := (pref_minus s).2 ⟨_, hl⟩
  have he := ext1_list s _ _ hl
  have hez : (s.extract 1 s.size).size ≤ 20 := by rw [ByteArray.size_extract]; omega
  have HA : Hid (allD (s.extract 1 s.size).data.toList = true) := by show _ = _; rw [he]; exact padK_all _ _
  have HV : Hid (valN (s.extract 1 s.size).data.toList % 18446744073709551616 = n) := by show _ = _; rw [he]; exact val_pad_nd n (by omega)
  have hq : ((printB (-(n : Int))).toList == s.toList) = true := by rw [hs]; simp
  have HM := Lib.hid hm
  clear hm hl hs he
  have hw : wrap64 (-(wrap64 (n : Int))) = -(n : Int) := by unfold wrap64; omega
  go_enter Tryd.func95, Tryd.ntmps95
  go_wp2_with fail
  refine (cutp_yes s _ _ (by unfold maxLen; omega) (by decide) HM.out).mono ?_
  rintro _ w1 ⟨rfl, rfl⟩
  rw [show (ByteArray.mk #[45]).size = 1 from rfl]
  generalize s.extract 1 s.size = b at *
  go_wp2_with fail
  refine (at_worth (n := n) _ (by unfold maxLen; omega) HA.out HV.out).mono ?_
  rintro _ w1 ⟨rfl, hb1⟩
  go_wp2_with fail
  rw [hw]
  with_reducible refine (print_any (-(n : Int)) _ (by omega) (by omega)).mono ?_
  rintro _ w2 ⟨rfl, hb⟩
  have hb2 := chain hb1 hb
  clear hb hb1
  go_wp2
  go_ret2
  exact ⟨rfl, hb2⟩

theorem read_yes (n : Int) (s : ByteArray) (w : World) (h1 : -9223372036854775808 ≤ n) (h2 : n ≤ 9223372036854775807) (hs : printB n = s) :
    Calls Tryd.prog 95 #[.string s] w fun e w' => e = .returned (.tuple #[.int .i64 n, .bool true]) ∧ Below w.heap.size w w' := by
  by_cases h : 0 ≤ n
  · obtain ⟨m, rfl⟩ := Int.eq_ofNat_of_zero_le h
    exact read_pos m s w (by omega) hs
  · obtain ⟨m, hm⟩ : ∃ m : Nat, n = -(m : Int) := ⟨n.natAbs, by omega⟩
    subst hm
    exact read_neg m s w (by omega) (by omega) hs

set_option maxRecDepth 100000 in
set_option maxHeartbeats 800000 in
theorem read_no (s : ByteArray) (w : World) (hs : s.size ≤ maxLen) (h : ∀ n : Int, -9223372036854775808 ≤ n → n ≤ 9223372036854775807 → printB n ≠ s) :
    Calls Tryd.prog 95 #[.string s] w fun e w' => e = .returned (.tuple #[.int .i64 0, .bool false]) ∧ Below w.heap.size w w' := by
  have HN : Hid (∀ n : Int, -9223372036854775808 ≤ n → n ≤ 9223372036854775807 → ((printB n).toList == s.toList) = false) := fun n h1 h2 => by
    rw [eq_toList, decide_eq_false_iff_not]
    exact h n h1 h2
  clear h
  cases hm : prefB s ⟨#[45]⟩
  · have HM := Lib.hid hm
    clear hm
    go_enter Tryd.func95, Tryd.ntmps95
    go_wp2_with fail
    refine (cutp_no s _ _ hs (by decide) HM.out).mono ?_
    rintro _ w1 ⟨rfl, rfl⟩
    cases ha : allD s.data.toList
    · have HA := Lib.hid ha
      clear ha
      go_wp2_with fail
      refine (worth_no s _ hs HA.out).mono ?_
      rintro _ w1 ⟨rfl, hb1⟩
      go_wp2
      go_ret2
      exact ⟨rfl, hb1⟩
    · have HA := Lib.hid ha
      clear ha
      go_wp2_with fail
      refine (worth_yes s _ hs HA.out).mono ?_
      rintro _ w1 ⟨rfl, hb1⟩
      generalize hv : ((valN s.data.toList % 18446744073709551616 : Nat) : Int) = v
      clear hv
      obtain ⟨r1, r2⟩ := wrap64_range v
      have hq := HN.out (wrap64 v) r1 r2
      go_wp2_with fail
      generalize wrap64 v = u at *
      with_reducible refine (print_any u _ r1 r2).mono ?_
      rintro _ w2 ⟨rfl, hb⟩
      have hb2 := chain hb1 hb
      clear hb hb1
      go_wp2
      go_ret2
      exact ⟨rfl, hb2⟩
  · have HM := Lib.hid hm
    clear hm
    have hez : (s.extract 1 s.size).size ≤ maxLen := by rw [ByteArray.size_extract]; omega
    go_enter Tryd.func95, Tryd.ntmps95
    go_wp2_with fail
    refine (cutp_yes s _ _ hs (by decide) HM.out).mono ?_
    rintro _ w1 ⟨rfl, rfl⟩
    rw [show (ByteArray.mk #[45]).size = 1 from rfl]
    generalize s.extract 1 s.size = b at *
    cases ha : allD b.data.toList
    · have HA := Lib.hid ha
      clear ha
      go_wp2_with fail
      refine (worth_no b _ hez HA.out).mono ?_
      rintro _ w1 ⟨rfl, hb1⟩
      go_wp2
      go_ret2
      exact ⟨rfl, hb1⟩
    · have HA := Lib.hid ha
      clear ha
      go_wp2_with fail
      refine (worth_yes b _ hez HA.out).mono ?_
      rintro _ w1 ⟨rfl, hb1⟩
      generalize hv : ((valN b.data.toList % 18446744073709551616 : Nat) : Int) = v
      clear hv
      obtain ⟨r1, r2⟩ := wrap64_range (-(wrap64 v))
      have hq := HN.out (wrap64 (-(wrap64 v))) r1 r2
      go_wp2_with fail
      generalize wrap64 (-(wrap64 v)) = u at *
      with_reducible refine (print_any u _ r1 r2).mono ?_
      rintro _ w2 ⟨rfl, hb⟩
      have hb2 := chain hb1 hb
      clear hb hb1
      go_wp2
      go_ret2
      exact ⟨rfl, hb2⟩
end Go.Proofs.YtmnigdcgdebgoaaDoor
