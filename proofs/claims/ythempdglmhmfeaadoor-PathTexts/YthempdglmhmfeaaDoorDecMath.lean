/-
  Digits of numbers: plain facts of lists and numbers.
-/
import Derived.Test.YthempdglmhmfeaaDoorBase
namespace Go.Proofs.YthempdglmhmfeaaDoor
set_option linter.unusedVariables false

/-- The k lowest decimal digits of n, the highest one first. -/
def padK (n : Nat) : Nat → List UInt8
  | 0 => []
  | k + 1 => UInt8.ofNat (48 + n / 10 ^ k % 10) :: padK n k

theorem padK_len (n : Nat) : ∀ k, (padK n k).length = k
  | 0 => rfl
  | k + 1 => by simp [padK, padK_len n k]

theorem pow_pos10 (k : Nat) : 0 < 10 ^ k := Nat.pow_pos (by decide)

def isD (c : UInt8) : Bool := decide (48 ≤ c.toNat) && decide (c.toNat ≤ 57)
def allD (l : List UInt8) : Bool := l.all isD
def valA (a : Nat) : List UInt8 → Nat
  | [] => a
  | c :: r => valA (10 * a + (c.toNat - 48)) r
def valN (l : List UInt8) : Nat := valA 0 l

theorem valA_eq : ∀ (l : List UInt8) (a : Nat), valA a l = a * 10 ^ l.length + valN l
  | [], a => by
    show a = a * 10 ^ 0 + 0
    rw [Nat.pow_zero]
    omega
  | c :: r, a => by
    have h1 := valA_eq r (10 * a + (c.toNat - 48))
    have h2 := valA_eq r (10 * 0 + (c.toNat - 48))
    show valA (10 * a + (c.toNat - 48)) r = a * 10 ^ (r.length + 1) + valA (10 * 0 + (c.toNat - 48)) r
    rw [h1, h2, Nat.pow_succ, Nat.add_mul, Nat.add_mul]
    generalize 10 ^ r.length = P
    have e : 10 * a * P = a * (P * 10) := by rw [Nat.mul_comm 10 a, Nat.mul_assoc, Nat.mul_comm 10]
    rw [e, Nat.mul_zero, Nat.zero_mul, Nat.zero_add, Nat.add_assoc]

theorem valN_cons (c : UInt8) (r : List UInt8) : valN (c :: r) = (c.toNat - 48) * 10 ^ r.length + valN r := by
  show valA (10 * 0 + (c.toNat - 48)) r = _
  rw [valA_eq]
  simp

theorem valN_append : ∀ (l m : List UInt8), valN (l ++ m) = valN l * 10 ^ m.length + valN m
  | [], m => by
    show valN m = 0 * 10 ^ m.length + valN m
    rw [Nat.zero_mul, Nat.zero_add]
  | c :: r, m => by
    rw [List.cons_append, valN_cons, valN_cons, valN_append r m, List.length_append, Nat.pow_add, Nat.add_mul, Nat.mul_assoc]
    omega

theorem valN_snoc (l : List UInt8) (c : UInt8) : valN (l ++ [c]) = 10 * valN l + (c.toNat - 48) := by
  rw [valN_append, valN_cons]
  show valN l * 10 ^ 1 + ((c.toNat - 48) * 10 ^ 0 + 0) = _
  rw [Nat.pow_one, Nat.pow_zero]
  omega

theorem dig_toNat (n : Nat) (h : n < 10) : (UInt8.ofNat (48 + n)).toNat = 48 + n := by
  rw [UInt8.toNat_ofNat']
  omega

theorem dig_isD (n : Nat) : isD (UInt8.ofNat (48 + n % 10)) = true := by
  unfold isD
  rw [dig_toNat _ (Nat.mod_lt _ (by decide))]
  simp
  omega

theorem padK_all (n : Nat) : ∀ k, allD (padK n k) = true
  | 0 => rfl
  | k + 1 => by
    have := padK_all n k
    unfold allD at *
    rw [padK, List.all_cons, dig_isD, this]
    rfl

theorem valN_pad (n : Nat) : ∀ k, valN (padK n k) = n % 10 ^ k
  | 0 => (Nat.mod_one n).symm
  | k + 1 => by
    rw [padK, valN_cons, dig_toNat _ (Nat.mod_lt _ (by decide)), valN_pad n k, padK_len, Nat.pow_succ, Nat.mod_mul]
    have : (48 + n / 10 ^ k % 10 - 48) = n / 10 ^ k % 10 := by omega
    rw [this, Nat.mul_comm]
    omega

theorem valN_lt : ∀ l : List UInt8, allD l = true → valN l < 10 ^ l.length
  | [], _ => by
    show 0 < 10 ^ 0
    decide
  | c :: r, h => by
    have h' : isD c = true ∧ allD r = true := by simpa [allD] using h
    have ih := valN_lt r h'.2
    have hc : c.toNat - 48 ≤ 9 := by
      have := h'.1
      simp [isD] at this
      omega
    rw [valN_cons, List.length_cons, Nat.pow_succ]
    have : (c.toNat - 48) * 10 ^ r.length ≤ 9 * 10 ^ r.length := Nat.mul_le_mul_right _ hc
    omega

theorem padK_high (a b k : Nat) : ∀ j, j ≤ k → padK (a * 10 ^ k + b) j = padK b j
  | 0, _ => rfl
  | j + 1, hj => by
    rw [padK, padK, padK_high a b k j (by omega)]
    have e : 10 ^ k = 10 ^ j * (10 ^ (k - j - 1) * 10) := by
      rw [← Nat.pow_succ, ← Nat.pow_add]
      congr 1
      omega
    have : (a * 10 ^ k + b) / 10 ^ j % 10 = b / 10 ^ j % 10 := by
      rw [e, ← Nat.mul_assoc, Nat.mul_comm a, Nat.mul_assoc, Nat.mul_add_div (pow_pos10 j), ← Nat.mul_assoc, Nat.mul_add_mod_self_right]
    rw [this]

theorem pad_val : ∀ l : List UInt8, allD l = true → padK (valN l) l.length = l
  | [], _ => rfl
  | c :: r, h => by
    have h' : isD c = true ∧ allD r = true := by simpa [allD] using h
    have ih := pad_val r h'.2
    have hl := valN_lt r h'.2
    have hc : 48 ≤ c.toNat ∧ c.toNat ≤ 57 := by
      have := h'.1
      simpa [isD] using this
    rw [valN_cons, List.length_cons, padK, padK_high _ _ _ _ (Nat.le_refl _), ih]
    congr 1
    have : ((c.toNat - 48) * 10 ^ r.length + valN r) / 10 ^ r.length = c.toNat - 48 := by
      rw [Nat.mul_comm, Nat.mul_add_div (pow_pos10 _), Nat.div_eq_of_lt hl]
      omega
    rw [this]
    apply UInt8.toNat_inj.1
    rw [UInt8.toNat_ofNat']
    omega

/-- How many digits n has. -/
def ndF : Nat → Nat → Nat
  | 0, _ => 1
  | f + 1, n => if n < 10 then 1 else ndF f (n / 10) + 1
def nd (n : Nat) : Nat := ndF 20 n

theorem ndF_spec : ∀ (f n : Nat), n < 10 ^ (f + 1) → 1 ≤ ndF f n ∧ ndF f n ≤ f + 1 ∧ n < 10 ^ ndF f n ∧ (ndF f n = 1 ∨ 10 ^ (ndF f n - 1) ≤ n)
  | 0, n, h => by simp [ndF] at *; omega
  | f + 1, n, h => by
    unfold ndF
    by_cases h10 : n < 10
    · rw [if_pos h10]
      refine ⟨by omega, by omega, by omega, .inl rfl⟩
    · rw [if_neg h10]
      have h2 : n / 10 < 10 ^ (f + 1) := by
        rw [Nat.div_lt_iff_lt_mul (by decide)]
        rw [Nat.pow_succ] at h
        exact h
      obtain ⟨a, b, c, d⟩ := ndF_spec f (n / 10) h2
      refine ⟨by omega, by omega, ?_, .inr ?_⟩
      · rw [Nat.pow_succ]
        omega
      · rw [Nat.add_sub_cancel]
        rcases d with d | d
        · rw [d]
          omega
        · have e : ndF f (n / 10) = ndF f (n / 10) - 1 + 1 := by omega
          rw [e, Nat.pow_succ]
          omega

theorem nd_spec (n : Nat) (h : n < 10 ^ 20) : 1 ≤ nd n ∧ n < 10 ^ nd n ∧ (nd n = 1 ∨ 10 ^ (nd n - 1) ≤ n) := by
  obtain ⟨a, _, c, d⟩ := ndF_spec 20 n (by omega)
  exact ⟨a, c, d⟩

theorem nd_le (n k : Nat) (hk : 1 ≤ k) (h20 : n < 10 ^ 20) (h : n < 10 ^ k) : nd n ≤ k := by
  obtain ⟨a, b, c⟩ := nd_spec n h20
  rcases c with c | c
  · omega
  · rcases Nat.lt_or_ge k (nd n) with hlt | hge
    · have : 10 ^ k ≤ 10 ^ (nd n - 1) := Nat.pow_le_pow_right (by decide) (by omega)
      omega
    · exact hge

theorem lt_of_nd (n k : Nat) (h20 : n < 10 ^ 20) (h : nd n ≤ k) : n < 10 ^ k := by
  obtain ⟨_, b, _⟩ := nd_spec n h20
  have : 10 ^ nd n ≤ 10 ^ k := Nat.pow_le_pow_right (by decide) h
  omega

/-- A text of digits. -/
def padB (n k : Nat) : ByteArray := ⟨(padK n k).toArray⟩

/-- A number's text. -/
def printL (n : Int) : List UInt8 := if n < 0 then 45 :: padK n.natAbs (nd n.natAbs) else padK n.toNat (nd n.toNat)
def printB (n : Int) : ByteArray := ⟨(printL n).toArray⟩

/-- A number in so many digits, or nothing. -/
def fixB (n w : Int) : ByteArray := if 1 ≤ w ∧ w ≤ 18 ∧ 0 ≤ n ∧ n < 10 ^ w.toNat then padB n.toNat w.toNat else ByteArray.empty

theorem padB_list (n k : Nat) : (padB n k).data.toList = padK n k := by simp [padB]
theorem padB_size (n k : Nat) : (padB n k).size = k := by
  show (padK n k).toArray.size = k
  simp [padK_len]
theorem printB_list (n : Int) : (printB n).data.toList = printL n := by simp [printB]
theorem int_bound (n : Int) (h1 : -9223372036854775808 ≤ n) (h2 : n ≤ 9223372036854775807) : n.natAbs < 10 ^ 20 ∧ n.toNat < 10 ^ 20 := by omega

theorem allD_head (c : UInt8) (r : List UInt8) (h : allD (c :: r) = true) : 48 ≤ c.toNat := by
  simp [allD, isD] at h
  omega

theorem padK_head (n k : Nat) (hk : 1 ≤ k) (r : List UInt8) : padK n k ≠ 45 :: r := by
  intro h
  have := padK_all n k
  rw [h] at this
  have := allD_head _ _ this
  simp at this

theorem printL_inj (a b : Int) (ha1 : -9223372036854775808 ≤ a) (ha2 : a ≤ 9223372036854775807) (hb1 : -9223372036854775808 ≤ b) (hb2 : b ≤ 9223372036854775807) (h : printL a = printL b) : a = b := by
  obtain ⟨a1, a2⟩ := int_bound a ha1 ha2
  obtain ⟨b1, b2⟩ := int_bound b hb1 hb2
  have key : ∀ m n : Nat, m < 10 ^ 20 → n < 10 ^ 20 → padK m (nd m) = padK n (nd n) → m = n := by
    intro m n hm hn h
    have e := congrArg valN h
    rw [valN_pad, valN_pad, Nat.mod_eq_of_lt (nd_spec m hm).2.1, Nat.mod_eq_of_lt (nd_spec n hn).2.1] at e
    exact e
  unfold printL at h
  split at h <;> split at h
  · have := key _ _ a1 b1 (List.cons.inj h).2
    omega
  · exact absurd h.symm (padK_head _ _ (nd_spec _ b2).1 _)
  · exact absurd h (padK_head _ _ (nd_spec _ a2).1 _)
  · have := key _ _ a2 b2 h
    omega

theorem printB_inj (a b : Int) (ha1 : -9223372036854775808 ≤ a) (ha2 : a ≤ 9223372036854775807) (hb1 : -9223372036854775808 ≤ b) (hb2 : b ≤ 9223372036854775807) (h : printB a = printB b) : a = b := by
  refine printL_inj a b ha1 ha2 hb1 hb2 ?_
  rw [← printB_list, ← printB_list, h]

/-- Texts of as many digits compare as their numbers. -/
theorem padK_less : ∀ (k a b : Nat), a < 10 ^ k → b < 10 ^ k → Op.bytesLess (padK a k) (padK b k) = decide (a < b)
  | 0, a, b, ha, hb => by
    simp at ha hb
    subst ha hb
    simp [padK, Op.bytesLess]
  | k + 1, a, b, ha, hb => by
    have hp := pow_pos10 k
    have hma : a % 10 ^ k < 10 ^ k := Nat.mod_lt _ hp
    have hmb : b % 10 ^ k < 10 ^ k := Nat.mod_lt _ hp
    have eA : padK a k = padK (a % 10 ^ k) k := by
      conv => lhs; rw [← Nat.div_add_mod a (10 ^ k), Nat.mul_comm]
      exact padK_high _ _ k k (Nat.le_refl _)
    have eB : padK b k = padK (b % 10 ^ k) k := by
      conv => lhs; rw [← Nat.div_add_mod b (10 ^ k), Nat.mul_comm]
      exact padK_high _ _ k k (Nat.le_refl _)
    have ih := padK_less k (a % 10 ^ k) (b % 10 ^ k) hma hmb
    rw [Nat.pow_succ] at ha hb
    have da : a / 10 ^ k < 10 := (Nat.div_lt_iff_lt_mul hp).2 (by omega)
    have db : b / 10 ^ k < 10 := (Nat.div_lt_iff_lt_mul hp).2 (by omega)
    have qa := Nat.div_add_mod a (10 ^ k)
    have qb := Nat.div_add_mod b (10 ^ k)
    rw [padK, padK, Op.bytesLess, eA, eB, ih, Nat.mod_eq_of_lt da, Nat.mod_eq_of_lt db]
    have ta := dig_toNat _ da
    have tb := dig_toNat _ db
    have hlt : decide (UInt8.ofNat (48 + a / 10 ^ k) < UInt8.ofNat (48 + b / 10 ^ k)) = decide (a / 10 ^ k < b / 10 ^ k) := by
      rw [Bool.eq_iff_iff, decide_eq_true_eq, decide_eq_true_eq, UInt8.lt_iff_toNat_lt, ta, tb]
      omega
    have heq : (UInt8.ofNat (48 + a / 10 ^ k) == UInt8.ofNat (48 + b / 10 ^ k)) = decide (a / 10 ^ k = b / 10 ^ k) := by
      rw [Bool.eq_iff_iff, beq_iff_eq, decide_eq_true_eq, ← UInt8.toNat_inj, ta, tb]
      omega
    rw [hlt, heq]
    rw [Bool.eq_iff_iff]
    simp only [Bool.or_eq_true, Bool.and_eq_true, decide_eq_true_eq]
    generalize a / 10 ^ k = x at *
    generalize b / 10 ^ k = y at *
    generalize a % 10 ^ k = u at *
    generalize b % 10 ^ k = v at *
    generalize 10 ^ k = P at *
    clear ih hlt heq ta tb eA eB
    rcases Nat.lt_trichotomy x y with h | h | h
    · have : P * x + P ≤ P * y := by
        have := Nat.mul_le_mul_left P (show x + 1 ≤ y from h)
        rw [Nat.mul_add] at this
        omega
      omega
    · subst h
      omega
    · have : P * y + P ≤ P * x := by
        have := Nat.mul_le_mul_left P (show y + 1 ≤ x from h)
        rw [Nat.mul_add] at this
        omega
      omega

theorem padK_inj (k a b : Nat) (ha : a < 10 ^ k) (hb : b < 10 ^ k) (h : padK a k = padK b k) : a = b := by
  have e := congrArg valN h
  rw [valN_pad, valN_pad, Nat.mod_eq_of_lt ha, Nat.mod_eq_of_lt hb] at e
  exact e
end Go.Proofs.YthempdglmhmfeaaDoor
