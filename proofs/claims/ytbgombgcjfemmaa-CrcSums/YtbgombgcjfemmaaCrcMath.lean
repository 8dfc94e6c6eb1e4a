/-
  Sums of bytes (CRC-32): plain facts of numbers and lists.
-/
import Derived.ProofKit
namespace Go.Proofs.Ytbgombgcjfemmaa
set_option linter.unusedVariables false

/-- One turn: all bits go down by one place; if the lowest one was 1, the polynomial's are turned. -/
def crcT (x : Nat) : Nat := x / 2 ^^^ (if x % 2 = 1 then 3988292384 else 0)

def crcN : Nat → Nat → Nat
  | 0, x => x
  | k + 1, x => crcN k (crcT x)

theorem xor_mod2 (a b : Nat) : (a ^^^ b) % 2 = (a % 2 + b % 2) % 2 := by
  have h := @Nat.xor_mod_two_pow a b 1
  simp only [Nat.pow_one] at h
  rw [h]
  rcases Nat.mod_two_eq_zero_or_one a with ha | ha <;> rcases Nat.mod_two_eq_zero_or_one b with hb | hb <;> rw [ha, hb] <;> rfl

theorem xor4 (a b c d : Nat) : (a ^^^ b) ^^^ (c ^^^ d) = (a ^^^ c) ^^^ (b ^^^ d) := by
  rw [Nat.xor_assoc, Nat.xor_assoc, ← Nat.xor_assoc b c d, Nat.xor_comm b c, Nat.xor_assoc c b d]

theorem crcT_xor (a b : Nat) : crcT (a ^^^ b) = crcT a ^^^ crcT b := by
  unfold crcT
  rw [xor4, Nat.xor_div_two, xor_mod2]
  congr 1
  rcases Nat.mod_two_eq_zero_or_one a with ha | ha <;> rcases Nat.mod_two_eq_zero_or_one b with hb | hb <;> rw [ha, hb] <;> decide

theorem crcN_xor : ∀ (k a b : Nat), crcN k (a ^^^ b) = crcN k a ^^^ crcN k b
  | 0, a, b => rfl
  | k + 1, a, b => by
    show crcN k (crcT (a ^^^ b)) = crcN k (crcT a) ^^^ crcN k (crcT b)
    rw [crcT_xor, crcN_xor k]

theorem crcN_add : ∀ (k j x : Nat), crcN (k + j) x = crcN j (crcN k x)
  | 0, j, x => by rw [Nat.zero_add]; rfl
  | k + 1, j, x => by
    rw [Nat.add_right_comm]
    show crcN (k + j) (crcT x) = crcN j (crcN k (crcT x))
    exact crcN_add k j (crcT x)

theorem crcN_zero : ∀ k, crcN k 0 = 0
  | 0 => rfl
  | k + 1 => by
    show crcN k (crcT 0) = 0
    exact crcN_zero k

theorem crcT_even (y : Nat) : crcT (2 * y) = y := by
  unfold crcT
  rw [if_neg (by omega), Nat.xor_zero]
  omega

theorem crcN_up : ∀ (k y : Nat), crcN k (2 ^ k * y) = y
  | 0, y => by rw [Nat.pow_zero, Nat.one_mul]; rfl
  | k + 1, y => by
    show crcN k (crcT (2 ^ (k + 1) * y)) = y
    rw [Nat.pow_succ, Nat.mul_comm (2 ^ k) 2, Nat.mul_assoc, crcT_even, crcN_up k]

theorem crcT_lt (x : Nat) (h : x < 4294967296) : crcT x < 4294967296 := by
  unfold crcT
  exact Nat.xor_lt_two_pow (n := 32) (by omega) (by split <;> omega)

theorem crcN_lt : ∀ (k x : Nat), x < 4294967296 → crcN k x < 4294967296
  | 0, x, h => h
  | k + 1, x, h => crcN_lt k (crcT x) (crcT_lt x h)

theorem xor_eq_zero (a b : Nat) (h : a ^^^ b = 0) : a = b := by
  have := congrArg (· ^^^ b) h
  simp only [Nat.xor_assoc, Nat.xor_self, Nat.xor_zero, Nat.zero_xor] at this
  exact this

theorem crcT_nought (x : Nat) (h : x < 4294967296) (h0 : crcT x = 0) : x = 0 := by
  unfold crcT at h0
  have := xor_eq_zero _ _ h0
  split at this <;> omega

theorem crcN_nought : ∀ (k x : Nat), x < 4294967296 → crcN k x = 0 → x = 0
  | 0, x, _, h0 => h0
  | k + 1, x, h, h0 => crcT_nought x h (crcN_nought k (crcT x) (crcT_lt x h) h0)

theorem crcN_inj (k a b : Nat) (ha : a < 4294967296) (hb : b < 4294967296) (h : crcN k a = crcN k b) : a = b := by
  apply xor_eq_zero
  apply crcN_nought k _ (Nat.xor_lt_two_pow (n := 32) ha hb)
  rw [crcN_xor, h, Nat.xor_self]

/-- One byte. -/
def crcStep (s c : Nat) : Nat := crcN 8 (s ^^^ c)

theorem split8 (x : Nat) : x = 256 * (x / 256) ^^^ x % 256 := by
  apply Nat.eq_of_testBit_eq
  intro i
  have e : x = 2 ^ 8 * (x / 256) + x % 256 := by omega
  have hx : x % 256 < 2 ^ 8 := by omega
  rw [Nat.testBit_xor, show 256 * (x / 256) = 2 ^ 8 * (x / 256) by rfl, Nat.testBit_two_pow_mul]
  conv => lhs; rw [e, Nat.testBit_two_pow_mul_add _ hx]
  by_cases hi : i < 8
  · rw [if_pos hi]
    have : decide (i ≥ 8) = false := by rw [decide_eq_false_iff_not]; omega
    rw [this]
    simp
  · rw [if_neg hi, Nat.testBit_lt_two_pow (x := x % 256) (Nat.lt_of_lt_of_le hx (Nat.pow_le_pow_right (by decide) (by omega)))]
    simp
    omega

theorem crc8_split (x : Nat) : crcN 8 x = x / 256 ^^^ crcN 8 (x % 256) := by
  conv => lhs; rw [split8 x]
  rw [crcN_xor]
  congr 1
  exact crcN_up 8 (x / 256)

theorem xor_small (s c : Nat) (hc : c < 256) : (s ^^^ c) / 256 = s / 256 ∧ (s ^^^ c) % 256 = s % 256 ^^^ c := by
  have h1 := @Nat.xor_div_two_pow s c 8
  have h2 := @Nat.xor_mod_two_pow s c 8
  rw [show (2 : Nat) ^ 8 = 256 by rfl] at h1 h2
  rw [h1, h2, Nat.div_eq_of_lt hc, Nat.mod_eq_of_lt hc, Nat.xor_zero]
  exact ⟨rfl, rfl⟩

theorem crcStep_table (s c : Nat) (hc : c < 256) : crcStep s c = s / 256 ^^^ crcN 8 (s % 256 ^^^ c) := by
  unfold crcStep
  obtain ⟨h1, h2⟩ := xor_small s c hc
  rw [crc8_split, h1, h2]

/-- From s on, all bytes of l. -/
def crcSt (s : Nat) (l : List UInt8) : Nat := l.foldl (fun s c => crcStep s c.toNat) s

theorem crcSt_append (s : Nat) (l m : List UInt8) : crcSt s (l ++ m) = crcSt (crcSt s l) m := List.foldl_append

/-- The bytes as one number, the lowest one first. -/
def numB : List UInt8 → Nat
  | [] => 0
  | c :: t => c.toNat + 256 * numB t

theorem byte_up (c n : Nat) (hc : c < 256) : c + 256 * n = c ^^^ 256 * n := by
  have h := split8 (c + 256 * n)
  rw [show (c + 256 * n) / 256 = n by omega, show (c + 256 * n) % 256 = c by omega, Nat.xor_comm] at h
  exact h

theorem numB_lt : ∀ l : List UInt8, numB l < 2 ^ (8 * l.length)
  | [] => by decide
  | c :: t => by
    have h := numB_lt t
    have hc := c.toNat_lt
    show c.toNat + 256 * numB t < 2 ^ (8 * (t.length + 1))
    rw [Nat.mul_add, Nat.pow_add]
    generalize 2 ^ (8 * t.length) = P at *
    omega

/-- All bits at once. -/
theorem crcSt_num : ∀ (l : List UInt8) (s : Nat), crcSt s l = crcN (8 * l.length) (s ^^^ numB l)
  | [], s => by
    show s = s ^^^ 0
    rw [Nat.xor_zero]
  | c :: t, s => by
    show crcSt (crcStep s c.toNat) t = crcN (8 * (t.length + 1)) (s ^^^ (c.toNat + 256 * numB t))
    have e : crcN 8 (256 * numB t) = numB t := crcN_up 8 (numB t)
    rw [crcSt_num t, byte_up _ _ c.toNat_lt, ← Nat.xor_assoc, Nat.mul_add, Nat.add_comm, crcN_add]
    show crcN (8 * t.length) (crcN 8 (s ^^^ c.toNat) ^^^ numB t) = crcN (8 * t.length) (crcN 8 (s ^^^ c.toNat ^^^ 256 * numB t))
    rw [crcN_xor 8 (s ^^^ c.toNat), e]

def ones32 : Nat := 4294967295

/-- The sum. -/
def crcSum (l : List UInt8) : Nat := crcSt ones32 l ^^^ ones32

theorem crcSt_lt (l : List UInt8) (s : Nat) (h : s < 4294967296) : crcSt s l < 4294967296 := by
  induction l generalizing s with
  | nil => exact h
  | cons c t ih =>
    refine ih _ (crcN_lt 8 _ (Nat.xor_lt_two_pow (n := 32) h ?_))
    have := c.toNat_lt
    omega

theorem crcSum_lt (l : List UInt8) : crcSum l < 4294967296 :=
  Nat.xor_lt_two_pow (n := 32) (crcSt_lt l ones32 (by decide)) (by decide)

theorem xor_ones (n : Nat) (h : n < 4294967296) : n ^^^ 4294967295 = 4294967295 - n := by
  have key : ∀ k n : Nat, n < 2 ^ k → n ^^^ (2 ^ k - 1) = 2 ^ k - 1 - n := by
    intro k
    induction k with
    | zero => intro n hn; have : n = 0 := by simpa using hn
              subst this; rfl
    | succ k ih =>
      intro n hn
      rw [Nat.pow_succ] at hn ⊢
      have e1 := ih (n / 2) (by omega)
      have e2 : (n ^^^ (2 ^ k * 2 - 1)) / 2 = n / 2 ^^^ (2 ^ k - 1) := by
        rw [Nat.xor_div_two]
        congr 1
        omega
      have e3 : (n ^^^ (2 ^ k * 2 - 1)) % 2 = (n % 2 + 1) % 2 := by
        rw [xor_mod2]
        have : 0 < 2 ^ k := Nat.two_pow_pos k
        omega
      have hp : 0 < 2 ^ k := Nat.two_pow_pos k
      generalize n ^^^ (2 ^ k * 2 - 1) = X at *
      generalize 2 ^ k = P at *
      omega
  exact key 32 n h

/-- The four bytes of a number, the lowest one first. -/
def le4 (n : Nat) : List UInt8 := [UInt8.ofNat (n % 256), UInt8.ofNat (n / 256 % 256), UInt8.ofNat (n / 65536 % 256), UInt8.ofNat (n / 16777216)]

theorem u8_ofNat (n : Nat) (h : n < 256) : (UInt8.ofNat n).toNat = n := by
  rw [UInt8.toNat_ofNat']
  omega

theorem numB_le4 (n : Nat) (h : n < 4294967296) : numB (le4 n) = n := by
  show (UInt8.ofNat (n % 256)).toNat + 256 * ((UInt8.ofNat (n / 256 % 256)).toNat + 256 * ((UInt8.ofNat (n / 65536 % 256)).toNat + 256 * ((UInt8.ofNat (n / 16777216)).toNat + 256 * 0))) = n
  rw [u8_ofNat _ (by omega), u8_ofNat _ (by omega), u8_ofNat _ (by omega), u8_ofNat _ (by omega)]
  omega

theorem numB_inj : ∀ (l m : List UInt8), l.length = m.length → numB l = numB m → l = m
  | [], [], _, _ => rfl
  | c :: t, d :: r, hl, h => by
    have h' : c.toNat + 256 * numB t = d.toNat + 256 * numB r := h
    have hc := c.toNat_lt
    have hd := d.toNat_lt
    have e1 : c.toNat = d.toNat := by omega
    have e2 : numB t = numB r := by omega
    rw [UInt8.toNat.inj e1, numB_inj t r (by simpa using hl) e2]

/-- The end of every text that is right. -/
def crcEnd : Nat := crcN 32 ones32

theorem right_iff (l t : List UInt8) (ht : t.length = 4) : t = le4 (crcSum l) ↔ crcSt ones32 (l ++ t) = crcEnd := by
  have hlt := crcSt_lt l ones32 (by decide)
  have hn := numB_lt t
  rw [ht] at hn
  have hn4 : numB t < 4294967296 := hn
  rw [crcSt_append, crcSt_num t, ht]
  constructor
  · intro h
    rw [h, numB_le4 _ (crcSum_lt l)]
    unfold crcSum crcEnd
    rw [← Nat.xor_assoc, Nat.xor_self, Nat.zero_xor]
  · intro h
    have e := crcN_inj 32 _ _ (Nat.xor_lt_two_pow (n := 32) hlt hn4) (by decide) h
    apply numB_inj _ _ (by rw [ht]; rfl)
    rw [numB_le4 _ (crcSum_lt l)]
    unfold crcSum
    have e' := congrArg (crcSt ones32 l ^^^ ·) e
    simp only [← Nat.xor_assoc, Nat.xor_self, Nat.zero_xor] at e'
    exact e'

/-- Bits turned within 32 in a row are noticed. -/
theorem crc_burst (l l' : List UInt8) (a m : Nat) (hl : l'.length = l.length) (ha : a ≤ 8 * l.length) (hm : m < 4294967296) (hE : numB l' = numB l ^^^ 2 ^ a * m) (h : crcSt ones32 l = crcEnd) :
    crcSt ones32 l' = crcEnd ↔ m = 0 := by
  rw [crcSt_num, hl, hE, ← Nat.xor_assoc, crcN_xor, ← crcSt_num, h]
  have e : crcN (8 * l.length) (2 ^ a * m) = crcN (8 * l.length - a) m := by
    obtain ⟨d, hd⟩ : ∃ d, 8 * l.length = a + d := ⟨8 * l.length - a, by omega⟩
    rw [hd, crcN_add, crcN_up, show a + d - a = d by omega]
  rw [e]
  constructor
  · intro h
    apply crcN_nought _ m hm
    have := congrArg (crcEnd ^^^ ·) h
    simp only [← Nat.xor_assoc, Nat.xor_self, Nat.zero_xor] at this
    exact this
  · intro h
    rw [h, crcN_zero, Nat.xor_zero]
theorem up_xor (i x y : Nat) : 2 ^ i * (x ^^^ y) = 2 ^ i * x ^^^ 2 ^ i * y := by
  apply Nat.eq_of_testBit_eq
  intro j
  rw [Nat.testBit_xor, Nat.testBit_two_pow_mul, Nat.testBit_two_pow_mul, Nat.testBit_two_pow_mul, Nat.testBit_xor]
  cases decide (j ≥ i) <;> simp

theorem low_up (k m : Nat) (h : m < 2 ^ k) : m + 2 ^ k = m ^^^ 2 ^ k := by
  apply Nat.eq_of_testBit_eq
  intro j
  have e : m + 2 ^ k = 2 ^ k * 1 + m := by omega
  rw [e, Nat.testBit_two_pow_mul_add _ h, Nat.testBit_xor, Nat.testBit_two_pow]
  by_cases hj : j < k
  · have : decide (k = j) = false := by rw [decide_eq_false_iff_not]; omega
    rw [if_pos hj, this]
    simp
  · rw [if_neg hj, Nat.testBit_lt_two_pow (x := m) (Nat.lt_of_lt_of_le h (Nat.pow_le_pow_right (by decide) (by omega)))]
    by_cases hk : k = j
    · subst hk
      simp
    · have : j - k = (j - k - 1) + 1 := by omega
      rw [this, Nat.testBit_succ]
      simp [hk]

/-- A byte whose bits are turned. -/
theorem numB_set : ∀ (l : List UInt8) (j : Nat) (hj : j < l.length) (c b : UInt8), c = l[j] ^^^ b → numB (l.set j c) = numB l ^^^ 2 ^ (8 * j) * b.toNat
  | c :: t, 0, _, d, b, h => by
    have hd : d.toNat = c.toNat ^^^ b.toNat := by rw [h]; exact UInt8.toNat_xor c b
    show d.toNat + 256 * numB t = (c.toNat + 256 * numB t) ^^^ 2 ^ (8 * 0) * b.toNat
    rw [byte_up _ _ d.toNat_lt, byte_up _ _ c.toNat_lt, hd, Nat.mul_zero, Nat.pow_zero, Nat.one_mul, Nat.xor_assoc, Nat.xor_assoc, Nat.xor_comm b.toNat]
  | c :: t, j + 1, hj, d, b, h => by
    have ih := numB_set t j (by simpa using hj) d b h
    show c.toNat + 256 * numB (t.set j d) = (c.toNat + 256 * numB t) ^^^ 2 ^ (8 * (j + 1)) * b.toNat
    have e1 : 2 ^ (8 * (j + 1)) * b.toNat = 256 * (2 ^ (8 * j) * b.toNat) := by
      rw [Nat.mul_add, Nat.pow_add, ← Nat.mul_assoc, Nat.mul_comm (2 ^ (8 * j))]
    have e2 : 256 * (numB t ^^^ 2 ^ (8 * j) * b.toNat) = 256 * numB t ^^^ 256 * (2 ^ (8 * j) * b.toNat) := up_xor 8 _ _
    rw [byte_up _ _ c.toNat_lt, byte_up _ _ c.toNat_lt, ih, e2, e1, Nat.xor_assoc]

/-- Of a mask the k lowest bits, d of them at most. -/
def maskN (m d k : Nat) : Nat := m % 2 ^ min k d

theorem maskN_zero (m d : Nat) : maskN m d 0 = 0 := by
  unfold maskN
  rw [Nat.zero_min, Nat.pow_zero, Nat.mod_one]

theorem maskN_lt (m d k : Nat) (hk : k ≤ 32) : maskN m d k < 4294967296 := by
  unfold maskN
  have h1 : m % 2 ^ min k d < 2 ^ min k d := Nat.mod_lt _ (Nat.two_pow_pos _)
  have h2 : 2 ^ min k d ≤ 2 ^ 32 := Nat.pow_le_pow_right (by decide) (by omega)
  omega

theorem maskN_on (m d k : Nat) (hk : k < d) (hb : m / 2 ^ k % 2 = 1) : maskN m d (k + 1) = maskN m d k ^^^ 2 ^ k ∧ maskN m d (k + 1) ≠ 0 := by
  unfold maskN
  rw [Nat.min_eq_left (by omega), Nat.min_eq_left (by omega), Nat.mod_pow_succ, hb, Nat.mul_one]
  refine ⟨low_up k _ (Nat.mod_lt _ (Nat.two_pow_pos _)), ?_⟩
  have := Nat.two_pow_pos k
  omega

theorem maskN_off (m d k : Nat) (h : ¬ (k < d ∧ m / 2 ^ k % 2 = 1)) : maskN m d (k + 1) = maskN m d k := by
  unfold maskN
  by_cases hk : k < d
  · have hb : m / 2 ^ k % 2 = 0 := by omega
    rw [Nat.min_eq_left (by omega), Nat.min_eq_left (by omega), Nat.mod_pow_succ, hb, Nat.mul_zero, Nat.add_zero]
  · rw [Nat.min_eq_right (by omega), Nat.min_eq_right (by omega)]

/-- One bit turned in one byte. -/
theorem burst_set (l : List UInt8) (X a m d k j r : Nat) (c : UInt8) (hj : j < l.length) (hr : r < 8) (hjr : 8 * j + r = a + k) (hk : k < d) (hb : m / 2 ^ k % 2 = 1) (h : numB l = X ^^^ 2 ^ a * maskN m d k) (hc : c = l[j] ^^^ UInt8.ofNat (2 ^ r)) :
    numB (l.set j c) = X ^^^ 2 ^ a * maskN m d (k + 1) := by
  have hp : 2 ^ r < 256 := Nat.pow_lt_pow_right (a := 2) (by decide) hr
  rw [numB_set l j hj c _ hc, u8_ofNat _ hp, ← Nat.pow_add, hjr, h, (maskN_on m d k hk hb).1, up_xor, ← Nat.pow_add, Nat.xor_assoc]
end Go.Proofs.Ytbgombgcjfemmaa
