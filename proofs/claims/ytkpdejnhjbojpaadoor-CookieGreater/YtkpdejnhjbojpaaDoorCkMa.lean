/-
  Digits of numbers: plain facts of lists and numbers.
  Small letters, plain.
  Bytes of texts, plain: spans, the first byte that is asked for, trimming.
  Hosts and domains, plain: parts between dots, hosts, addresses, which host matches which domain, parents.
  Paths and addresses, plain: right paths, the path of a cookie that has none, which path matches which, addresses read and written.
  Ways to compare, plain: orders, one behind the other; numbers.
  Cookies as records, plain: how texts, numbers, keys and cookies compare; the greater one; which is right, lives, is sent.
-/
import Derived.Test.YtkpdejnhjbojpaaDoorBase
import Derived.ProofKit
namespace Go.Proofs.YtkpdejnhjbojpaaDoor
set_option linter.unusedVariables false

/-- The k lowest decimal digits of n, the highest one first. -/
def padK (n : Nat) : Nat → List UInt8
  | 0 => []
  | k + 1 => UInt8.ofNat (48 + n / 10 ^ k % 10) :: padK n k

theorem padK_len (n : Nat) : ∀ k, (padK n k).length = k
  | 0 => rfl
  | k + 1 => by simp [padK, padK_len n k]

theorem pow_pos10 (k : Nat) : 0 < 10 ^ k := Nat.pow_pos (by decide)

def isD (c : UInt8) : Bool := decide (48 ≤ c.toNat) && decide (c.toNat ≤ 57)
def allD (l : List UInt8) : Bool := l.all isD
def valA (a : Nat) : List UInt8 → Nat
  | [] => a
  | c :: r => valA (10 * a + (c.toNat - 48)) r
def valN (l : List UInt8) : Nat := valA 0 l

theorem valA_eq : ∀ (l : List UInt8) (a : Nat), valA a l = a * 10 ^ l.length + valN l
  | [], a => by
    show a = a * 10 ^ 0 + 0
    rw [Nat.pow_zero]
    omega
  | c :: r, a => by
    have h1 := valA_eq r (10 * a + (c.toNat - 48))
    have h2 := valA_eq r (10 * 0 + (c.toNat - 48))
    show valA (10 * a + (c.toNat - 48)) r = a * 10 ^ (r.length + 1) + valA (10 * 0 + (c.toNat - 48)) r
    rw [h1, h2, Nat.pow_succ, Nat.add_mul, Nat.add_mul]
    generalize 10 ^ r.length = P
    have e : 10 * a * P = a * (P * 10) := by rw [Nat.mul_comm 10 a, Nat.mul_assoc, Nat.mul_comm 10]
    rw [e, Nat.mul_zero, Nat.zero_mul, Nat.zero_add, Nat.add_assoc]

theorem valN_cons (c : UInt8) (r : List UInt8) : valN (c :: r) = (c.toNat - 48) * 10 ^ r.length + valN r := by
  show valA (10 * 0 + (c.toNat - 48)) r = _
  rw [valA_eq]
  simp

theorem valN_append : ∀ (l m : List UInt8), valN (l ++ m) = valN l * 10 ^ m.length + valN m
  | [], m => by
    show valN m = 0 * 10 ^ m.length + valN m
    rw [Nat.zero_mul, Nat.zero_add]
  | c :: r, m => by
    rw [List.cons_append, valN_cons, valN_cons, valN_append r m, List.length_append, Nat.pow_add, Nat.add_mul, Nat.mul_assoc]
    omega

theorem valN_snoc (l : List UInt8) (c : UInt8) : valN (l ++ [c]) = 10 * valN l + (c.toNat - 48) := by
  rw [valN_append, valN_cons]
  show valN l * 10 ^ 1 + ((c.toNat - 48) * 10 ^ 0 + 0) = _
  rw [Nat.pow_one, Nat.pow_zero]
  omega

theorem dig_toNat (n : Nat) (h : n < 10) : (UInt8.ofNat (48 + n)).toNat = 48 + n := by
  rw [UInt8.toNat_ofNat']
  omega

theorem dig_isD (n : Nat) : isD (UInt8.ofNat (48 + n % 10)) = true := by
  unfold isD
  rw [dig_toNat _ (Nat.mod_lt _ (by decide))]
  simp
  omega

theorem padK_all (n : Nat) : ∀ k, allD (padK n k) = true
  | 0 => rfl
  | k + 1 => by
    have := padK_all n k
    unfold allD at *
    rw [padK, List.all_cons, dig_isD, this]
    rfl

theorem valN_pad (n : Nat) : ∀ k, valN (padK n k) = n % 10 ^ k
  | 0 => (Nat.mod_one n).symm
  | k + 1 => by
    rw [padK, valN_cons, dig_toNat _ (Nat.mod_lt _ (by decide)), valN_pad n k, padK_len, Nat.pow_succ, Nat.mod_mul]
    have : (48 + n / 10 ^ k % 10 - 48) = n / 10 ^ k % 10 := by omega
    rw [this, Nat.mul_comm]
    omega

theorem valN_lt : ∀ l : List UInt8, allD l = true → valN l < 10 ^ l.length
  | [], _ => by
    show 0 < 10 ^ 0
    decide
  | c :: r, h => by
    have h' : isD c = true ∧ allD r = true := by simpa [allD] using h
    have ih := valN_lt r h'.2
    have hc : c.toNat - 48 ≤ 9 := by
      have := h'.1
      simp [isD] at this
      omega
    rw [valN_cons, List.length_cons, Nat.pow_succ]
    have : (c.toNat - 48) * 10 ^ r.length ≤ 9 * 10 ^ r.length := Nat.mul_le_mul_right _ hc
    omega

theorem padK_high (a b k : Nat) : ∀ j, j ≤ k → padK (a * 10 ^ k + b) j = padK b j
  | 0, _ => rfl
  | j + 1, hj => by
    rw [padK, padK, padK_high a b k j (by omega)]
    have e : 10 ^ k = 10 ^ j * (10 ^ (k - j - 1) * 10) := by
      rw [← Nat.pow_succ, ← Nat.pow_add]
      congr 1
      omega
    have : (a * 10 ^ k + b) / 10 ^ j % 10 = b / 10 ^ j % 10 := by
      rw [e, ← Nat.mul_assoc, Nat.mul_comm a, Nat.mul_assoc, Nat.mul_add_div (pow_pos10 j), ← Nat.mul_assoc, Nat.mul_add_mod_self_right]
    rw [this]

theorem pad_val : ∀ l : List UInt8, allD l = true → padK (valN l) l.length = l
  | [], _ => rfl
  | c :: r, h => by
    have h' : isD c = true ∧ allD r = true := by simpa [allD] using h
    have ih := pad_val r h'.2
    have hl := valN_lt r h'.2
    have hc : 48 ≤ c.toNat ∧ c.toNat ≤ 57 := by
      have := h'.1
      simpa [isD] using this
    rw [valN_cons, List.length_cons, padK, padK_high _ _ _ _ (Nat.le_refl _), ih]
    congr 1
    have : ((c.toNat - 48) * 10 ^ r.length + valN r) / 10 ^ r.length = c.toNat - 48 := by
      rw [Nat.mul_comm, Nat.mul_add_div (pow_pos10 _), Nat.div_eq_of_lt hl]
      omega
    rw [this]
    apply UInt8.toNat_inj.1
    rw [UInt8.toNat_ofNat']
    omega

/-- How many digits n has. -/
def ndF : Nat → Nat → Nat
  | 0, _ => 1
  | f + 1, n => if n < 10 then 1 else ndF f (n / 10) + 1
def nd (n : Nat) : Nat := ndF 20 n

theorem ndF_spec : ∀ (f n : Nat), n < 10 ^ (f + 1) → 1 ≤ ndF f n ∧ ndF f n ≤ f + 1 ∧ n < 10 ^ ndF f n ∧ (ndF f n = 1 ∨ 10 ^ (ndF f n - 1) ≤ n)
  | 0, n, h => by simp [ndF] at *; omega
  | f + 1, n, h => by
    unfold ndF
    by_cases h10 : n < 10
    · rw [if_pos h10]
      refine ⟨by omega, by omega, by omega, .inl rfl⟩
    · rw [if_neg h10]
      have h2 : n / 10 < 10 ^ (f + 1) := by
        rw [Nat.div_lt_iff_lt_mul (by decide)]
        rw [Nat.pow_succ] at h
        exact h
      obtain ⟨a, b, c, d⟩ := ndF_spec f (n / 10) h2
      refine ⟨by omega, by omega, ?_, .inr ?_⟩
      · rw [Nat.pow_succ]
        omega
      · rw [Nat.add_sub_cancel]
        rcases d with d | d
        · rw [d]
          omega
        · have e : ndF f (n / 10) = ndF f (n / 10) - 1 + 1 := by omega
          rw [e, Nat.pow_succ]
          omega

theorem nd_spec (n : Nat) (h : n < 10 ^ 20) : 1 ≤ nd n ∧ n < 10 ^ nd n ∧ (nd n = 1 ∨ 10 ^ (nd n - 1) ≤ n) := by
  obtain ⟨a, _, c, d⟩ := ndF_spec 20 n (by omega)
  exact ⟨a, c, d⟩

theorem nd_le (n k : Nat) (hk : 1 ≤ k) (h20 : n < 10 ^ 20) (h : n < 10 ^ k) : nd n ≤ k := by
  obtain ⟨a, b, c⟩ := nd_spec n h20
  rcases c with c | c
  · omega
  · rcases Nat.lt_or_ge k (nd n) with hlt | hge
    · have : 10 ^ k ≤ 10 ^ (nd n - 1) := Nat.pow_le_pow_right (by decide) (by omega)
      omega
    · exact hge

theorem lt_of_nd (n k : Nat) (h20 : n < 10 ^ 20) (h : nd n ≤ k) : n < 10 ^ k := by
  obtain ⟨_, b, _⟩ := nd_spec n h20
  have : 10 ^ nd n ≤ 10 ^ k := Nat.pow_le_pow_right (by decide) h
  omega

/-- A text of digits. -/
def padB (n k : Nat) : ByteArray := ⟨(padK n k).toArray⟩

/-- A number's text. -/
def printL (n : Int) : List UInt8 := if n < 0 then 45 :: padK n.natAbs (nd n.natAbs) else padK n.toNat (nd n.toNat)
def printB (n : Int) : ByteArray := ⟨(printL n).toArray⟩

/-- A number in so many digits, or nothing. -/
def fixB (n w : Int) : ByteArray := if 1 ≤ w ∧ w ≤ 18 ∧ 0 ≤ n ∧ n < 10 ^ w.toNat then padB n.toNat w.toNat else ByteArray.empty

theorem padB_list (n k : Nat) : (padB n k).data.toList = padK n k := by simp [padB]
theorem padB_size (n k : Nat) : (padB n k).size = k := by
  show (padK n k).toArray.size = k
  simp [padK_len]
theorem printB_list (n : Int) : (printB n).data.toList = printL n := by simp [printB]
theorem int_bound (n : Int) (h1 : -9223372036854775808 ≤ n) (h2 : n ≤ 9223372036854775807) : n.natAbs < 10 ^ 20 ∧ n.toNat < 10 ^ 20 := by omega

theorem allD_head (c : UInt8) (r : List UInt8) (h : allD (c :: r) = true) : 48 ≤ c.toNat := by
  simp [allD, isD] at h
  omega

theorem padK_head (n k : Nat) (hk : 1 ≤ k) (r : List UInt8) : padK n k ≠ 45 :: r := by
  intro h
  have := padK_all n k
  rw [h] at this
  have := allD_head _ _ this
  simp at this

theorem printL_inj (a b : Int) (ha1 : -9223372036854775808 ≤ a) (ha2 : a ≤ 9223372036854775807) (hb1 : -9223372036854775808 ≤ b) (hb2 : b ≤ 9223372036854775807) (h : printL a = printL b) : a = b := by
  obtain ⟨a1, a2⟩ := int_bound a ha1 ha2
  obtain ⟨b1, b2⟩ := int_bound b hb1 hb2
  have key : ∀ m n : Nat, m < 10 ^ 20 → n < 10 ^ 20 → padK m (nd m) = padK n (nd n) → m = n := by
    intro m n hm hn h
    have e := congrArg valN h
    rw [valN_pad, valN_pad, Nat.mod_eq_of_lt (nd_spec m hm).2.1, Nat.mod_eq_of_lt (nd_spec n hn).2.1] at e
    exact e
  unfold printL at h
  split at h <;> split at h
  · have := key _ _ a1 b1 (List.cons.inj h).2
    omega
  · exact absurd h.symm (padK_head _ _ (nd_spec _ b2).1 _)
  · exact absurd h (padK_head _ _ (nd_spec _ a2).1 _)
  · have := key _ _ a2 b2 h
    omega

theorem printB_inj (a b : Int) (ha1 : -9223372036854775808 ≤ a) (ha2 : a ≤ 9223372036854775807) (hb1 : -9223372036854775808 ≤ b) (hb2 : b ≤ 9223372036854775807) (h : printB a = printB b) : a = b := by
  refine printL_inj a b ha1 ha2 hb1 hb2 ?_
  rw [← printB_list, ← printB_list, h]

/-- Texts of as many digits compare as their numbers. -/
theorem padK_less : ∀ (k a b : Nat), a < 10 ^ k → b < 10 ^ k → Op.bytesLess (padK a k) (padK b k) = decide (a < b)
  | 0, a, b, ha, hb => by
    simp at ha hb
    subst ha hb
    simp [padK, Op.bytesLess]
  | k + 1, a, b, ha, hb => by
    have hp := pow_pos10 k
    have hma : a % 10 ^ k < 10 ^ k := Nat.mod_lt _ hp
    have hmb : b % 10 ^ k < 10 ^ k := Nat.mod_lt _ hp
    have eA : padK a k = padK (a % 10 ^ k) k := by
      conv => lhs; rw [← Nat.div_add_mod a (10 ^ k), Nat.mul_comm]
      exact padK_high _ _ k k (Nat.le_refl _)
    have eB : padK b k = padK (b % 10 ^ k) k := by
      conv => lhs; rw [← Nat.div_add_mod b (10 ^ k), Nat.mul_comm]
      exact padK_high _ _ k k (Nat.le_refl _)
    have ih := padK_less k (a % 10 ^ k) (b % 10 ^ k) hma hmb
    rw [Nat.pow_succ] at ha hb
    have da : a / 10 ^ k < 10 := (Nat.div_lt_iff_lt_mul hp).2 (by omega)
    have db : b / 10 ^ k < 10 := (Nat.div_lt_iff_lt_mul hp).2 (by omega)
    have qa := Nat.div_add_mod a (10 ^ k)
    have qb := Nat.div_add_mod b (10 ^ k)
    rw [padK, padK, Op.bytesLess, eA, eB, ih, Nat.mod_eq_of_lt da, Nat.mod_eq_of_lt db]
    have ta := dig_toNat _ da
    have tb := dig_toNat _ db
    have hlt : decide (UInt8.ofNat (48 + a / 10 ^ k) < UInt8.ofNat (48 + b / 10 ^ k)) = decide (a / 10 ^ k < b / 10 ^ k) := by
      rw [Bool.eq_iff_iff, decide_eq_true_eq, decide_eq_true_eq, UInt8.lt_iff_toNat_lt, ta, tb]
      omega
    have heq : (UInt8.ofNat (48 + a / 10 ^ k) == UInt8.ofNat (48 + b / 10 ^ k)) = decide (a / 10 ^ k = b / 10 ^ k) := by
      rw [Bool.eq_iff_iff, beq_iff_eq, decide_eq_true_eq, ← UInt8.toNat_inj, ta, tb]
      omega
    rw [hlt, heq]
    rw [Bool.eq_iff_iff]
    simp only [Bool.or_eq_true, Bool.and_eq_true, decide_eq_true_eq]
    generalize a / 10 ^ k = x at *
    generalize b / 10 ^ k = y at *
    generalize a % 10 ^ k = u at *
    generalize b % 10 ^ k = v at *
    generalize 10 ^ k = P at *
    clear ih hlt heq ta tb eA eB
    rcases Nat.lt_trichotomy x y with h | h | h
    · have : P * x + P ≤ P * y := by
        have := Nat.mul_le_mul_left P (show x + 1 ≤ y from h)
        rw [Nat.mul_add] at this
        omega
      omega
    · subst h
      omega
    · have : P * y + P ≤ P * x := by
        have := Nat.mul_le_mul_left P (show y + 1 ≤ x from h)
        rw [Nat.mul_add] at this
        omega
      omega

theorem padK_inj (k a b : Nat) (ha : a < 10 ^ k) (hb : b < 10 ^ k) (h : padK a k = padK b k) : a = b := by
  have e := congrArg valN h
  rw [valN_pad, valN_pad, Nat.mod_eq_of_lt ha, Nat.mod_eq_of_lt hb] at e
  exact e
end Go.Proofs.YtkpdejnhjbojpaaDoor
namespace Go.Proofs.YtkpdejnhjbojpaaDoor
open Go.RowKit
set_option linter.unusedVariables false

/-- The small letter in place of a great one. -/
def lowC (c : UInt8) : UInt8 := if 65 ≤ c.toNat ∧ c.toNat ≤ 90 then c + 32 else c

def lowB (s : ByteArray) : ByteArray := ⟨(s.data.toList.map lowC).toArray⟩

/-- The first k of a, then b's. -/
def mixed (a b : List UInt8) (k : Nat) : List UInt8 := a.take k ++ b.drop k

theorem mixed_len (a b : List UInt8) (k : Nat) (h : a.length = b.length) (hk : k ≤ a.length) : (mixed a b k).length = a.length := by
  simp [mixed]; omega

theorem mixed_set (a b : List UInt8) (k : Nat) (h : a.length = b.length) (hk : k < a.length) : (mixed a b k).set k a[k] = mixed a b (k + 1) := by
  apply List.ext_getElem
  · simp [mixed]; omega
  · intro j h1 h2
    simp only [mixed, List.getElem_set, List.getElem_append, List.length_take, List.getElem_take, List.getElem_drop]
    by_cases e : k = j
    · subst e
      simp; omega
    · rw [if_neg e]
      by_cases e2 : j < k
      · rw [dif_pos (by omega), dif_pos (by omega)]
      · rw [dif_neg (by omega), dif_neg (by omega)]
        congr 1
        omega

theorem mixed_all (a b : List UInt8) (h : a.length = b.length) : mixed a b a.length = a := by
  unfold mixed
  rw [List.take_length, List.drop_of_length_le (by omega), List.append_nil]

theorem mixed_at (a b : List UInt8) (k : Nat) (h : a.length = b.length) (hk : k < b.length) (hm : k < (mixed a b k).length) : (mixed a b k)[k] = b[k] := by
  simp only [mixed, List.getElem_append, List.length_take, List.getElem_drop]
  rw [dif_neg (by omega)]
  congr 1
  omega

theorem mixed_keep (a b : List UInt8) (k : Nat) (h : a.length = b.length) (hk : k < a.length) (he : a[k] = b[k]'(by omega)) : mixed a b (k + 1) = mixed a b k := by
  rw [← mixed_set a b k h hk, he, ← mixed_at a b k h (by omega) (by rw [mixed_len a b k h (by omega)]; omega), List.set_getElem_self]

theorem lowC_up (c : UInt8) (h1 : 65 ≤ c.toNat) (h2 : c.toNat ≤ 90) : ((lowC c).toNat : Int) = (c.toNat : Int) + 32 := by
  have e : lowC c = c + 32 := by unfold lowC; rw [if_pos ⟨h1, h2⟩]
  rw [e, UInt8.toNat_add]
  simp
  omega

theorem lowC_not (c : UInt8) (h : ¬ (65 ≤ c.toNat ∧ c.toNat ≤ 90)) : lowC c = c := by unfold lowC; rw [if_neg h]

theorem lowB_size (s : ByteArray) : (lowB s).size = s.size := by
  show (s.data.toList.map lowC).toArray.size = s.size
  simp

theorem lowC_idem (c : UInt8) : lowC (lowC c) = lowC c := by
  by_cases h : 65 ≤ c.toNat ∧ c.toNat ≤ 90
  · have e := lowC_up c h.1 h.2
    exact lowC_not _ (by omega)
  · rw [lowC_not c h, lowC_not c h]

theorem lowB_idem (s : ByteArray) : lowB (lowB s) = lowB s := by
  unfold lowB
  simp [lowC_idem]

theorem lowB_list (s : ByteArray) : (lowB s).toList = s.toList.map lowC := by
  rw [ByteArray.toList_eq s]
  exact ByteArray.toList_mk _
end Go.Proofs.YtkpdejnhjbojpaaDoor
namespace Go.Proofs.YtkpdejnhjbojpaaDoor
open Go.RowKit
set_option linter.unusedVariables false

/-- Is a byte in one of the spans? -/
def inSpans (L : List (Int × Int)) (c : Int) : Bool := L.any fun p => decide (p.1 ≤ c) && decide (c ≤ p.2)

theorem inSpans_snoc (L : List (Int × Int)) (c : Int) (k : Nat) (h : k < L.length) :
    inSpans (L.take (k + 1)) c = (inSpans (L.take k) c || (decide ((L.getD k (0, 0)).1 ≤ c) && decide (c ≤ (L.getD k (0, 0)).2))) := by
  unfold inSpans
  rw [List.take_succ_eq_append_getElem h, List.any_append]
  simp [List.getD_eq_getElem?_getD, List.getElem?_eq_getElem h]

theorem inSpans_hit (L : List (Int × Int)) (c : Int) (k : Nat) (h : k < L.length) (h1 : (L.getD k (0, 0)).1 ≤ c) (h2 : c ≤ (L.getD k (0, 0)).2) : inSpans L c = true := by
  unfold inSpans
  rw [List.any_eq_true]
  refine ⟨L[k], List.getElem_mem h, ?_⟩
  simp [List.getD_eq_getElem?_getD, List.getElem?_eq_getElem h] at h1 h2
  simp [h1, h2]

/-- Spans are laid, a closure is made over them, and all is asked: from where the spans' row has been laid. -/
def plainL : List (Int × Int) := [(33, 58), (60, 126)]

def octL : List (Int × Int) := [(33, 33), (35, 43), (45, 58), (60, 91), (93, 126)]

def tokL : List (Int × Int) := [(65, 90), (97, 122), (48, 57), (33, 33), (35, 39), (42, 43), (45, 46), (94, 96), (124, 124), (126, 126)]

def blankL : List (Int × Int) := [(9, 9), (32, 32)]

def upL : List (Int × Int) := [(65, 90)]

theorem upL_iff (c : Int) : inSpans upL c = (decide (65 ≤ c) && decide (c ≤ 90)) := by simp [inSpans, upL]

/-- The place of the first byte that is asked for, or the length. -/
def firstAt (p : Int → Bool) : List UInt8 → Nat
  | [] => 0
  | c :: r => if p c.toNat then 0 else firstAt p r + 1

theorem firstAt_miss (p : Int → Bool) : ∀ (l : List UInt8) (k : Nat) (hk : k < l.length), firstAt p (l.take k) = k → p (l[k].toNat : Int) = false → firstAt p (l.take (k + 1)) = k + 1
  | [], k, hk, _, _ => by simp at hk
  | c :: r, 0, hk, _, h2 => by simp at h2; simp [firstAt, h2]
  | c :: r, k + 1, hk, h1, h2 => by
    simp only [List.take_succ_cons, firstAt] at h1 ⊢
    cases hc : p (c.toNat : Int)
    · simp only [hc, Bool.false_eq_true, if_false] at h1 ⊢
      rw [firstAt_miss p r k (by simpa using hk) (by omega) (by simpa using h2)]
    · simp [hc] at h1

theorem firstAt_hit (p : Int → Bool) : ∀ (l : List UInt8) (k : Nat) (hk : k < l.length), firstAt p (l.take k) = k → p (l[k].toNat : Int) = true → firstAt p l = k
  | [], k, hk, _, _ => by simp at hk
  | c :: r, 0, hk, _, h2 => by simp at h2; simp [firstAt, h2]
  | c :: r, k + 1, hk, h1, h2 => by
    simp only [List.take_succ_cons, firstAt] at h1 ⊢
    cases hc : p (c.toNat : Int)
    · simp only [hc, Bool.false_eq_true, if_false] at h1 ⊢
      rw [firstAt_hit p r k (by simpa using hk) (by omega) (by simpa using h2)]
    · simp [hc] at h1

theorem firstAt_le (p : Int → Bool) : ∀ (l : List UInt8), firstAt p l ≤ l.length
  | [] => by simp [firstAt]
  | c :: r => by
    have := firstAt_le p r
    unfold firstAt
    split <;> simp; omega

theorem firstAt_all (p : Int → Bool) : ∀ l : List UInt8, ((firstAt (fun c => !p c) l : Int) == (l.length : Int)) = l.all fun c => p (c.toNat : Int)
  | [] => by simp [firstAt]
  | c :: r => by
    have ih := firstAt_all p r
    have hl := firstAt_le (fun c => !p c) r
    cases hc : p (c.toNat : Int)
    · simp [firstAt, hc]; omega
    · simp only [firstAt, hc, List.all_cons, Bool.true_and, ← ih]
      rw [Bool.eq_iff_iff]
      simp

/-- Is every byte so? -/
def allB (p : Int → Bool) (s : ByteArray) : Bool := s.data.toList.all fun c => p (c.toNat : Int)

/-- Has s a byte, and is each one of a token's? -/
def tokenB (s : ByteArray) : Bool := !s.toList.isEmpty && allB (inSpans tokL) s

/-- Where the kept bytes begin and end, of the first k bytes. -/
def trimSt (p : Int → Bool) (l : List UInt8) : Nat → Nat × Nat
  | 0 => (0, 0)
  | k + 1 => if p ((l.getD k 0).toNat : Int) then trimSt p l k else (if (trimSt p l k).2 = 0 then k else (trimSt p l k).1, k + 1)

theorem trimSt_le (p : Int → Bool) (l : List UInt8) : ∀ k, (trimSt p l k).1 ≤ (trimSt p l k).2 ∧ (trimSt p l k).2 ≤ k
  | 0 => by simp [trimSt]
  | k + 1 => by
    have ih := trimSt_le p l k
    unfold trimSt
    split
    · omega
    · simp only
      split <;> omega

theorem bgetD (s : ByteArray) (k : Nat) (h : k < s.size) : s.data.toList.getD k 0 = s[k] := by
  rw [← bget s k h, List.getD_eq_getElem?_getD, List.getElem?_eq_getElem (by simpa using h)]
  rfl

def trimB (s : ByteArray) : ByteArray := s.extract (trimSt (inSpans blankL) s.data.toList s.size).1 (trimSt (inSpans blankL) s.data.toList s.size).2

def bl (c : UInt8) : Bool := inSpans blankL (c.toNat : Int)

/-- A list without the blanks at both its ends. -/
def trimL (l : List UInt8) : List UInt8 := ((l.dropWhile bl).reverse.dropWhile bl).reverse

theorem drop_pre : ∀ (a x : List UInt8), a.all bl = true → (a ++ x).dropWhile bl = x.dropWhile bl
  | [], x, _ => rfl
  | c :: a, x, h => by
    simp only [List.all_cons, Bool.and_eq_true] at h
    rw [List.cons_append, List.dropWhile_cons_of_pos h.1]
    exact drop_pre a x h.2

theorem drop_all (a : List UInt8) (h : a.all bl = true) : a.dropWhile bl = [] := by
  have := drop_pre a [] h
  simpa using this

/-- t is what is left of l without the blanks at its ends. -/
def Trimmed (l t : List UInt8) : Prop := ∃ a z, l = a ++ t ++ z ∧ a.all bl = true ∧ z.all bl = true ∧ (t = [] ∨ ((∃ c r, t = c :: r ∧ bl c = false) ∧ ∃ c r, t = r ++ [c] ∧ bl c = false))

theorem Trimmed.eq {l t : List UInt8} (h : Trimmed l t) : t = trimL l := by
  obtain ⟨a, z, rfl, ha, hz, ht⟩ := h
  unfold trimL
  rw [List.append_assoc, drop_pre a _ ha]
  rcases ht with rfl | ⟨⟨c, r, hc, hcb⟩, c2, r2, hc2, hcb2⟩
  · simp [drop_all z hz]
  · have e1 : (t ++ z).dropWhile bl = t ++ z := by rw [hc, List.cons_append, List.dropWhile_cons_of_neg (by simp [hcb])]
    rw [e1, List.reverse_append, drop_pre z.reverse _ (by simpa using hz)]
    have e2 : t.reverse.dropWhile bl = t.reverse := by rw [hc2]; simp [hcb2]
    rw [e2, List.reverse_reverse]

theorem trimL_trimmed (l : List UInt8) : Trimmed l (trimL l) := by
  unfold trimL
  have h1 := List.takeWhile_append_dropWhile (p := bl) (l := l)
  have h2 := List.takeWhile_append_dropWhile (p := bl) (l := (l.dropWhile bl).reverse)
  have a1 : (l.takeWhile bl).all bl = true := List.all_takeWhile
  have a2 : ((l.dropWhile bl).reverse.takeWhile bl).reverse.all bl = true := by
    rw [List.all_reverse]; exact List.all_takeWhile
  refine ⟨l.takeWhile bl, ((l.dropWhile bl).reverse.takeWhile bl).reverse, ?_, a1, a2, ?_⟩
  · rw [List.append_assoc, ← List.reverse_append, h2, List.reverse_reverse, h1]
  · generalize hd : (l.dropWhile bl) = d at *
    generalize ht : d.reverse.dropWhile bl = r at *
    cases hr : r with
    | nil => left; simp
    | cons c r' =>
      right
      have hc : bl c = false := by
        have := List.head?_dropWhile_not bl d.reverse
        rw [ht, hr] at this
        simpa using this
      refine ⟨?_, c, r'.reverse, by simp, hc⟩
      subst hr
      have hrev : d = (c :: r').reverse ++ (d.reverse.takeWhile bl).reverse := by
        rw [← List.reverse_append, h2, List.reverse_reverse]
      cases hcr : (c :: r').reverse with
      | nil => simp at hcr
      | cons x y =>
        rw [hcr] at hrev
        have := List.head?_dropWhile_not bl l
        rw [hd, hrev] at this
        exact ⟨x, y, rfl, by simpa using this⟩

theorem trimL_idem (l : List UInt8) : trimL (trimL l) = trimL l := by
  refine (Trimmed.eq ?_).symm
  obtain ⟨a, z, _, _, _, h⟩ := trimL_trimmed l
  exact ⟨[], [], by simp, rfl, rfl, h⟩

theorem trimL_more (l x y : List UInt8) (hx : x.all bl = true) (hy : y.all bl = true) : trimL (x ++ l ++ y) = trimL l := by
  refine (Trimmed.eq ?_).symm
  obtain ⟨a, z, e, ha, hz, h⟩ := trimL_trimmed l
  refine ⟨x ++ a, z ++ y, ?_, by simp [hx, ha], by simp [hz, hy], h⟩
  conv => lhs; rw [e]
  simp [List.append_assoc]

/-! ### What the program's own places are -/

def TInv (l : List UInt8) (k b e : Nat) : Prop :=
  (b = 0 ∧ e = 0 ∧ ∀ j, j < k → bl (l.getD j 0) = true) ∨
  (b < e ∧ e ≤ k ∧ (∀ j, j < b → bl (l.getD j 0) = true) ∧ bl (l.getD b 0) = false ∧ bl (l.getD (e - 1) 0) = false ∧ ∀ j, e ≤ j → j < k → bl (l.getD j 0) = true)

theorem trimSt_inv (l : List UInt8) : ∀ k, TInv l k (trimSt (inSpans blankL) l k).1 (trimSt (inSpans blankL) l k).2
  | 0 => .inl ⟨rfl, rfl, fun j hj => by omega⟩
  | k + 1 => by
    have ih := trimSt_inv l k
    unfold trimSt
    generalize trimSt (inSpans blankL) l k = st at *
    obtain ⟨b, e⟩ := st
    simp only at ih ⊢
    by_cases hb : inSpans blankL ((l.getD k 0).toNat : Int) = true
    · rw [if_pos hb]
      simp only
      rcases ih with ⟨h1, h2, h3⟩ | ⟨h1, h2, h3, h4, h5, h6⟩
      · exact .inl ⟨h1, h2, fun j hj => by
          by_cases e : j = k
          · subst e; exact hb
          · exact h3 j (by omega)⟩
      · exact .inr ⟨h1, by omega, h3, h4, h5, fun j hj hk => by
          by_cases e : j = k
          · subst e; exact hb
          · exact h6 j hj (by omega)⟩
    · rw [if_neg hb]
      have hb' : bl (l.getD k 0) = false := by unfold bl; simpa using hb
      simp only
      rcases ih with ⟨h1, h2, h3⟩ | ⟨h1, h2, h3, h4, h5, h6⟩
      · rw [if_pos h2]
        exact .inr ⟨by omega, by omega, h3, hb', by simpa using hb', fun j hj hk => by omega⟩
      · rw [if_neg (by omega)]
        exact .inr ⟨by omega, by omega, h3, h4, by simpa using hb', fun j hj hk => by omega⟩

theorem all_of_getD (l : List UInt8) (h : ∀ j, j < l.length → bl (l.getD j 0) = true) : l.all bl = true := by
  rw [List.all_eq_true]
  intro x hx
  obtain ⟨j, hj, rfl⟩ := List.getElem_of_mem hx
  have := h j hj
  rwa [List.getD_eq_getElem?_getD, List.getElem?_eq_getElem hj] at this

theorem TInv.trimmed {l : List UInt8} {b e : Nat} (h : TInv l l.length b e) : Trimmed l ((l.drop b).take (e - b)) := by
  rcases h with ⟨rfl, rfl, h⟩ | ⟨h1, h2, h3, h4, h5, h6⟩
  · exact ⟨l, [], by simp, all_of_getD l h, rfl, .inl (by simp)⟩
  · have hlen : ((l.drop b).take (e - b)).length = e - b := by simp; omega
    refine ⟨l.take b, l.drop e, ?_, ?_, ?_, .inr ⟨?_, ?_⟩⟩
    · have e1 : (l.drop b).take (e - b) ++ l.drop e = l.drop b := by
        have : l.drop e = (l.drop b).drop (e - b) := by rw [List.drop_drop]; congr 1; omega
        rw [this, List.take_append_drop]
      rw [List.append_assoc, e1, List.take_append_drop]
    · apply all_of_getD
      intro j hj
      have hj' : j < b := by simp at hj; omega
      have := h3 j hj'
      rw [List.getD_eq_getElem?_getD] at this ⊢
      rwa [List.getElem?_take_of_lt hj']
    · apply all_of_getD
      intro j hj
      have hj' : e + j < l.length := by simp at hj; omega
      have := h6 (e + j) (by omega) hj'
      rw [List.getD_eq_getElem?_getD] at this ⊢
      rwa [List.getElem?_drop]
    · have hb : b < l.length := by omega
      refine ⟨l[b], (l.drop (b + 1)).take (e - b - 1), ?_, ?_⟩
      · rw [List.drop_eq_getElem_cons hb]
        have : e - b = (e - b - 1) + 1 := by omega
        rw [this, List.take_succ_cons]
        simp
      · rwa [List.getD_eq_getElem?_getD, List.getElem?_eq_getElem hb] at h4
    · have he : e - 1 < l.length := by omega
      refine ⟨l[e - 1], (l.drop b).take (e - b - 1), ?_, ?_⟩
      · have e1 : e - b = (e - b - 1) + 1 := by omega
        have hx : e - b - 1 < (l.drop b).length := by simp; omega
        conv => lhs; rw [e1, List.take_succ_eq_append_getElem hx]
        congr 2
        rw [List.getElem_drop]
        congr 1
        omega
      · rwa [List.getD_eq_getElem?_getD, List.getElem?_eq_getElem he] at h5

theorem trimB_list (s : ByteArray) : (trimB s).data.toList = trimL s.data.toList := by
  unfold trimB
  rw [extract_list]
  refine Trimmed.eq (TInv.trimmed ?_)
  have := trimSt_inv s.data.toList s.data.toList.length
  have e : s.data.toList.length = s.size := by simp
  rw [e] at this ⊢
  exact this

theorem allB_no (p : Int → Bool) (s : ByteArray) (k : Nat) (hk : k < s.size) (h1 : firstAt (fun c => !p c) (s.data.toList.take k) = k) (h2 : p (s[k].toNat : Int) = false) : allB p s = false := by
  have h := firstAt_hit (fun c => !p c) s.data.toList k (by simpa using hk) h1 (by rw [bget s k hk]; simpa using h2)
  unfold allB
  rw [← firstAt_all, h]
  have : s.data.toList.length = s.size := by simp
  rw [this]
  simp
  omega

theorem allB_yes (p : Int → Bool) (s : ByteArray) (h1 : firstAt (fun c => !p c) (s.data.toList.take s.size) = s.size) : allB p s = true := by
  have e : s.data.toList.length = s.size := by simp
  rw [List.take_of_length_le (by omega)] at h1
  unfold allB
  rw [← firstAt_all, h1, e]
  simp

theorem allB_step (p : Int → Bool) (s : ByteArray) (k : Nat) (hk : k < s.size) (h1 : firstAt (fun c => !p c) (s.data.toList.take k) = k) (h2 : p (s[k].toNat : Int) = true) : firstAt (fun c => !p c) (s.data.toList.take (k + 1)) = k + 1 :=
  firstAt_miss (fun c => !p c) s.data.toList k (by simpa using hk) h1 (by rw [bget s k hk]; simpa using h2)
end Go.Proofs.YtkpdejnhjbojpaaDoor
namespace Go.Proofs.YtkpdejnhjbojpaaDoor
set_option linter.unusedVariables false

/-- What stands between the dots, with a part begun. -/
def dotG (p : List UInt8) : List UInt8 → List (List UInt8)
  | [] => [p]
  | c :: t => if c = 46 then p :: dotG [] t else dotG (p ++ [c]) t

def dotsL (l : List UInt8) : List (List UInt8) := dotG [] l

/-- May a byte stand in a host's part? -/
def hostC (c : UInt8) : Bool := (decide (97 ≤ c.toNat) && decide (c.toNat ≤ 122)) || (decide (48 ≤ c.toNat) && decide (c.toNat ≤ 57)) || decide (c.toNat = 45)

/-- May it stand between dots? -/
def partB (p : List UInt8) : Bool := decide (1 ≤ p.length) && decide (p.length ≤ 63) && decide (p.getD 0 0 ≠ 45) && decide (p.getD (p.length - 1) 0 ≠ 45) && p.all hostC

/-- Is it a host? -/
def hostB (l : List UInt8) : Bool := decide (1 ≤ l.length) && decide (l.length ≤ 64) && (dotsL l).all partB

/-- Is it a number from 0 to 255, as it is printed? -/
def numB (p : List UInt8) : Bool := decide (∃ n : Nat, n ≤ 255 ∧ printL (n : Int) = p)

/-- Is it an address? -/
def ipB (l : List UInt8) : Bool := decide ((dotsL l).length = 4) && (dotsL l).all numB

/-- Does a end with a dot and d? -/
def endsB (a d : List UInt8) : Bool := decide (d.length < a.length) && decide (a.drop (a.length - d.length) = d) && decide (a.getD (a.length - d.length - 1) 0 = 46)

/-- Does a match d? -/
def matchB (a d : List UInt8) : Bool := decide (a = d) || (endsB a d && !ipB a)

/-- What stands behind each dot. -/
def tailsL : List UInt8 → List (List UInt8)
  | [] => []
  | c :: t => if c = 46 then t :: tailsL t else tailsL t

def parentsL (l : List UInt8) : List (List UInt8) := l :: (if ipB l = true then [] else tailsL l)

/-! Parts -/

theorem dotG_dot (p t : List UInt8) : dotG p (46 :: t) = p :: dotG [] t := by
  show (if (46 : UInt8) = 46 then _ else _) = _
  rw [if_pos rfl]

theorem dotG_else (p t : List UInt8) (c : UInt8) (h : c ≠ 46) : dotG p (c :: t) = dotG (p ++ [c]) t := by
  show (if c = 46 then _ else _) = _
  rw [if_neg h]

theorem dotG_app : ∀ (a p b : List UInt8), dotG p (a ++ 46 :: b) = dotG p a ++ dotsL b
  | [], p, b => by rw [List.nil_append, dotG_dot]; rfl
  | c :: t, p, b => by
    rw [List.cons_append]
    by_cases h : c = 46
    · subst h
      rw [dotG_dot, dotG_dot, dotG_app t [] b]
      rfl
    · rw [dotG_else _ _ _ h, dotG_else _ _ _ h, dotG_app t (p ++ [c]) b]

theorem dots_app (a b : List UInt8) : dotsL (a ++ 46 :: b) = dotsL a ++ dotsL b := dotG_app a [] b

/-- The parts with the dots between them are the text. -/
def joinD : List (List UInt8) → List UInt8
  | [] => []
  | [p] => p
  | p :: q :: r => p ++ 46 :: joinD (q :: r)

theorem dotG_ne (l p : List UInt8) : dotG p l ≠ [] := by
  induction l generalizing p with
  | nil => exact fun h => by cases h
  | cons c t ih =>
    by_cases h : c = 46
    · subst h; rw [dotG_dot]; exact fun h => by cases h
    · rw [dotG_else _ _ _ h]; exact ih _

theorem joinD_cons (p : List UInt8) (r : List (List UInt8)) (h : r ≠ []) : joinD (p :: r) = p ++ 46 :: joinD r := by
  cases r with
  | nil => exact absurd rfl h
  | cons q r => rfl

theorem join_dotG (l : List UInt8) : ∀ p, joinD (dotG p l) = p ++ l := by
  induction l with
  | nil => intro p; show p = p ++ []; rw [List.append_nil]
  | cons c t ih =>
    intro p
    by_cases h : c = 46
    · subst h
      rw [dotG_dot, joinD_cons _ _ (dotG_ne t []), ih []]
      rfl
    · rw [dotG_else _ _ _ h, ih (p ++ [c])]
      simp

theorem join_dots (l : List UInt8) : joinD (dotsL l) = l := join_dotG l []

/-! Addresses are hosts -/

theorem numB_yes (p : List UInt8) (h : numB p = true) : ∃ n : Nat, n ≤ 255 ∧ printL (n : Int) = p := by simpa [numB] using h

theorem print_small (n : Nat) (hn : n ≤ 255) : 1 ≤ (printL (n : Int)).length ∧ (printL (n : Int)).length ≤ 3 ∧ allD (printL (n : Int)) = true := by
  have e : printL (n : Int) = padK n (nd n) := by
    unfold printL
    rw [if_neg (by omega)]
    rfl
  rw [e, padK_len]
  have h1 := (nd_spec n (by omega)).1
  have h2 := nd_le n 3 (by decide) (by omega) (by omega)
  exact ⟨h1, h2, padK_all n _⟩

theorem isD_hostC (c : UInt8) (h : isD c = true) : hostC c = true ∧ c ≠ 45 ∧ lowC c = c ∧ c ≠ 46 := by
  have h' : 48 ≤ c.toNat ∧ c.toNat ≤ 57 := by simpa [isD] using h
  refine ⟨?_, ?_, lowC_not c (by omega), ?_⟩
  · unfold hostC
    rw [decide_eq_true h'.1, decide_eq_true h'.2]
    simp
  · intro e; rw [e] at h'; exact absurd h'.1 (by decide)
  · intro e; rw [e] at h'; exact absurd h'.1 (by decide)

theorem getD_mem {l : List UInt8} {k : Nat} (h : k < l.length) : l.getD k 0 ∈ l := by
  rw [List.getD_eq_getElem?_getD, List.getElem?_eq_getElem h]
  exact List.getElem_mem h

theorem numB_part (p : List UInt8) (h : numB p = true) : partB p = true ∧ p.length ≤ 3 ∧ p.map lowC = p := by
  obtain ⟨n, hn, rfl⟩ := numB_yes p h
  obtain ⟨l1, l2, hd⟩ := print_small n hn
  generalize printL (n : Int) = p at *
  have hall : ∀ c ∈ p, isD c = true := List.all_eq_true.1 hd
  refine ⟨?_, l2, ?_⟩
  · unfold partB
    have a1 := (isD_hostC _ (hall _ (getD_mem (k := 0) (by omega)))).2.1
    have a2 := (isD_hostC _ (hall _ (getD_mem (k := p.length - 1) (by omega)))).2.1
    have a3 : p.all hostC = true := List.all_eq_true.2 fun c hc => (isD_hostC c (hall c hc)).1
    rw [decide_eq_true l1, decide_eq_true (show p.length ≤ 63 by omega), decide_eq_true a1, decide_eq_true a2, a3]
    rfl
  · have : p.map lowC = p.map id := List.map_congr_left fun c hc => (isD_hostC c (hall c hc)).2.2.1
    rw [this, List.map_id]

theorem low_joinD : ∀ l : List (List UInt8), (∀ p ∈ l, p.map lowC = p) → (joinD l).map lowC = joinD l
  | [], _ => rfl
  | [p], h => h p (by simp)
  | p :: q :: r, h => by
    show (p ++ 46 :: joinD (q :: r)).map lowC = p ++ 46 :: joinD (q :: r)
    rw [List.map_append, List.map_cons, h p (by simp), low_joinD (q :: r) (fun x hx => h x (by simp at hx ⊢; exact .inr hx))]
    rfl

theorem joinD_len : ∀ l : List (List UInt8), (∀ p ∈ l, p.length ≤ 3) → (joinD l).length ≤ 4 * l.length
  | [], _ => Nat.le_refl _
  | [p], h => by have := h p (by simp); show p.length ≤ 4; omega
  | p :: q :: r, h => by
    have h1 := h p (by simp)
    have h2 := joinD_len (q :: r) (fun x hx => h x (by simp at hx ⊢; exact .inr hx))
    show (p ++ 46 :: joinD (q :: r)).length ≤ 4 * (p :: q :: r).length
    rw [List.length_append, List.length_cons]
    simp only [List.length_cons] at h2 ⊢
    omega

/-- An address is a host, and has no great letters. -/
theorem ip_host (l : List UInt8) (h : ipB l = true) : l.map lowC = l ∧ hostB l = true := by
  have h' : (dotsL l).length = 4 ∧ (dotsL l).all numB = true := by simpa [ipB] using h
  obtain ⟨h4, hall⟩ := h'
  have hn : ∀ p ∈ dotsL l, numB p = true := List.all_eq_true.1 hall
  have e1 := low_joinD (dotsL l) (fun p hp => (numB_part p (hn p hp)).2.2)
  have e2 := joinD_len (dotsL l) (fun p hp => (numB_part p (hn p hp)).2.1)
  rw [join_dots] at e1 e2
  refine ⟨e1, ?_⟩
  have hne : 1 ≤ l.length := by
    cases l with
    | nil => simp [dotsL, dotG] at h4
    | cons c t => simp
  have hp : (dotsL l).all partB = true := List.all_eq_true.2 fun p hp => (numB_part p (hn p hp)).1
  unfold hostB
  rw [decide_eq_true hne, decide_eq_true (show l.length ≤ 64 by omega), hp]
  rfl

/-! Matching -/

theorem match_self (a : List UInt8) : matchB a a = true := by simp [matchB]

theorem ends_less {a d : List UInt8} (h : endsB a d = true) : d.length < a.length := by
  have h' : (d.length < a.length ∧ a.drop (a.length - d.length) = d) ∧ a.getD (a.length - d.length - 1) 0 = 46 := by simpa [endsB] using h
  exact h'.1.1

theorem match_cases {a d : List UInt8} (h : matchB a d = true) : a = d ∨ (endsB a d = true ∧ ipB a = false) := by simpa [matchB] using h

theorem match_both (a b : List UInt8) (h1 : matchB a b = true) (h2 : matchB b a = true) : a = b := by
  rcases match_cases h1 with h | ⟨h, _⟩
  · exact h
  · rcases match_cases h2 with h' | ⟨h', _⟩
    · exact h'.symm
    · have := ends_less h; have := ends_less h'; omega

theorem tails_ends : ∀ (s d : List UInt8), d ∈ tailsL s ↔ endsB s d = true
  | [], d => by simp [tailsL, endsB]
  | c :: t, d => by
    have ih := tails_ends t d
    have key : endsB (c :: t) d = true ↔ ((c = 46 ∧ d = t) ∨ endsB t d = true) := by
      constructor
      · intro h
        have h' : (d.length < (c :: t).length ∧ (c :: t).drop ((c :: t).length - d.length) = d) ∧ (c :: t).getD ((c :: t).length - d.length - 1) 0 = 46 := by simpa [endsB] using h
        obtain ⟨⟨h1, h2⟩, h3⟩ := h'
        simp only [List.length_cons] at h1 h2 h3
        by_cases e : d.length = t.length
        · rw [e, show t.length + 1 - t.length = 1 by omega] at h2 h3
          exact .inl ⟨h3, h2.symm⟩
        · have e2 : t.length + 1 - d.length = (t.length - d.length - 1 + 1) + 1 := by omega
          have e3 : t.length + 1 - d.length - 1 = (t.length - d.length - 1) + 1 := by omega
          rw [e2, List.drop_succ_cons] at h2
          rw [e3, List.getD_cons_succ] at h3
          refine .inr ?_
          unfold endsB
          rw [decide_eq_true (show d.length < t.length by omega), decide_eq_true h3, show t.length - d.length = t.length - d.length - 1 + 1 by omega, decide_eq_true h2]
          rfl
      · rintro (⟨rfl, rfl⟩ | h)
        · unfold endsB
          have e1 : (46 :: d).length - d.length = 1 := by simp
          rw [e1, decide_eq_true (show d.length < ((46 : UInt8) :: d).length by simp)]
          simp
        · have h' : (d.length < t.length ∧ t.drop (t.length - d.length) = d) ∧ t.getD (t.length - d.length - 1) 0 = 46 := by simpa [endsB] using h
          obtain ⟨⟨h1, h2⟩, h3⟩ := h'
          unfold endsB
          have e2 : (c :: t).length - d.length = (t.length - d.length) + 1 := by simp only [List.length_cons]; omega
          have e3 : (c :: t).length - d.length - 1 = (t.length - d.length - 1) + 1 := by simp only [List.length_cons]; omega
          rw [e3, List.getD_cons_succ, e2, List.drop_succ_cons, decide_eq_true h2, decide_eq_true h3, decide_eq_true (show d.length < (c :: t).length by simp only [List.length_cons]; omega)]
          rfl
    rw [key]
    show d ∈ (if c = 46 then t :: tailsL t else tailsL t) ↔ _
    by_cases h : c = 46
    · rw [if_pos h, List.mem_cons, ih]
      simp [h]
    · rw [if_neg h, ih]
      simp [h]

/-- A host matches just its parents. -/
theorem match_parents (s d : List UInt8) : matchB s d = decide (d ∈ parentsL s) := by
  rw [Bool.eq_iff_iff, decide_eq_true_iff]
  unfold parentsL
  rw [List.mem_cons]
  constructor
  · intro h
    rcases match_cases h with rfl | ⟨h1, h2⟩
    · exact .inl rfl
    · rw [h2, if_neg (by decide)]
      exact .inr ((tails_ends s d).2 h1)
  · rintro (rfl | h)
    · exact match_self _
    · cases hi : ipB s with
      | true => rw [hi, if_pos rfl] at h; cases h
      | false =>
        rw [hi, if_neg (by decide)] at h
        unfold matchB
        rw [(tails_ends s d).1 h, hi]
        simp

theorem tails_trans : ∀ (a b c : List UInt8), b ∈ tailsL a → c ∈ tailsL b → c ∈ tailsL a
  | [], b, c, h, _ => by cases h
  | x :: t, b, c, h, h2 => by
    have h' : b ∈ (if x = 46 then t :: tailsL t else tailsL t) := h
    show c ∈ (if x = 46 then t :: tailsL t else tailsL t)
    by_cases hx : x = 46
    · rw [if_pos hx] at h' ⊢
      rcases List.mem_cons.1 h' with rfl | h'
      · exact List.mem_cons_of_mem _ h2
      · exact List.mem_cons_of_mem _ (tails_trans t b c h' h2)
    · rw [if_neg hx] at h' ⊢
      exact tails_trans t b c h' h2

theorem match_trans (a b c : List UInt8) (h1 : matchB a b = true) (h2 : matchB b c = true) : matchB a c = true := by
  rcases match_cases h1 with rfl | ⟨e1, i1⟩
  · exact h2
  · rcases match_cases h2 with rfl | ⟨e2, _⟩
    · exact h1
    · unfold matchB
      rw [(tails_ends a c).1 (tails_trans a b c ((tails_ends a b).2 e1) ((tails_ends b c).2 e2)), i1]
      simp

/-! A part ahead of a host -/

theorem ends_app (s t : List UInt8) : endsB (s ++ 46 :: t) t = true := by
  unfold endsB
  have e1 : (s ++ 46 :: t).length - t.length = s.length + 1 := by simp; omega
  have e2 : (s ++ 46 :: t).length - t.length - 1 = s.length := by omega
  have e3 : (s ++ 46 :: t).getD s.length 0 = 46 := by
    rw [List.getD_eq_getElem?_getD, List.getElem?_append_right (Nat.le_refl _)]
    simp
  have e4 : (s ++ 46 :: t).drop (s.length + 1) = t := by
    rw [List.drop_append]
    simp
  rw [e2, e3, e1, e4, decide_eq_true (show t.length < (s ++ 46 :: t).length by simp; omega)]
  simp

theorem host_app (s t : List UInt8) (hs : hostB s = true) (ht : hostB t = true) (hl : s.length + t.length < 64) : hostB (s ++ 46 :: t) = true := by
  have hs' : (1 ≤ s.length ∧ s.length ≤ 64) ∧ (dotsL s).all partB = true := by simpa [hostB] using hs
  have ht' : (1 ≤ t.length ∧ t.length ≤ 64) ∧ (dotsL t).all partB = true := by simpa [hostB] using ht
  unfold hostB
  rw [dots_app, List.all_append, hs'.2, ht'.2, decide_eq_true (show 1 ≤ (s ++ 46 :: t).length by simp; omega), decide_eq_true (show (s ++ 46 :: t).length ≤ 64 by simp; omega)]
  rfl

theorem match_app (s t : List UInt8) : matchB (s ++ 46 :: t) t = !ipB (s ++ 46 :: t) := by
  unfold matchB
  rw [ends_app, decide_eq_false (fun h => by have := congrArg List.length h; simp at this; omega)]
  simp

theorem match_not (s t : List UInt8) : matchB t (s ++ 46 :: t) = false := by
  cases h : matchB t (s ++ 46 :: t) with
  | false => rfl
  | true =>
    rcases match_cases h with e | ⟨e, _⟩
    · have := congrArg List.length e; simp at this; omega
    · have := ends_less e; simp at this; omega
end Go.Proofs.YtkpdejnhjbojpaaDoor
namespace Go.Proofs.YtkpdejnhjbojpaaDoor
set_option linter.unusedVariables false

/-- May a byte stand in a path? -/
def plainC (c : UInt8) : Bool := inSpans plainL (c.toNat : Int)

/-- Is it a right path? -/
def rightB (l : List UInt8) : Bool := decide (1 ≤ l.length) && decide (l.length ≤ 64) && decide (l.getD 0 0 = 47) && l.all plainC

/-- The place of the last slash, from k down. -/
def lastAt (l : List UInt8) : Nat → Nat
  | 0 => 0
  | k + 1 => if l.getD (k + 1) 0 = 47 then k + 1 else lastAt l k

/-- The path of a cookie that has none. -/
def defL (l : List UInt8) : List UInt8 := if l.getD 0 0 = 47 then (if lastAt l (l.length - 1) = 0 then [47] else l.take (lastAt l (l.length - 1))) else [47]

/-- Does r match c? -/
def pmB (r c : List UInt8) : Bool :=
  decide (r = c) || (decide (c.length < r.length) && decide (r.take c.length = c) && ((decide (0 < c.length) && decide (c.getD (c.length - 1) 0 = 47)) || decide (r.getD c.length 0 = 47)))

theorem pm_self (a : List UInt8) : pmB a a = true := by simp [pmB]

/-- r begins with c, and goes on. -/
def Below1 (r c : List UInt8) : Prop := c.length < r.length ∧ r.take c.length = c ∧ ((0 < c.length ∧ c.getD (c.length - 1) 0 = 47) ∨ r.getD c.length 0 = 47)

theorem pm_iff (r c : List UInt8) : pmB r c = true ↔ (r = c ∨ Below1 r c) := by
  unfold pmB Below1
  simp only [Bool.or_eq_true, Bool.and_eq_true, decide_eq_true_eq]
  constructor
  · rintro (h | ⟨⟨h1, h2⟩, h3⟩)
    · exact .inl h
    · exact .inr ⟨h1, h2, h3⟩
  · rintro (h | ⟨h1, h2, h3⟩)
    · exact .inl h
    · exact .inr ⟨⟨h1, h2⟩, h3⟩

theorem pm_prefix (a b : List UInt8) (h : pmB a b = true) : b.length ≤ a.length ∧ a.take b.length = b := by
  rcases (pm_iff a b).1 h with rfl | ⟨h1, h2, _⟩
  · exact ⟨Nat.le_refl _, List.take_length⟩
  · exact ⟨by omega, h2⟩

theorem getD_take (l : List UInt8) (n k : Nat) (h : k < n) : (l.take n).getD k 0 = l.getD k 0 := by
  rw [List.getD_eq_getElem?_getD, List.getD_eq_getElem?_getD, List.getElem?_take_of_lt h]

theorem pm_trans (a b c : List UInt8) (h1 : pmB a b = true) (h2 : pmB b c = true) : pmB a c = true := by
  rcases (pm_iff a b).1 h1 with rfl | ⟨x1, x2, x3⟩
  · exact h2
  rcases (pm_iff b c).1 h2 with rfl | ⟨y1, y2, y3⟩
  · exact h1
  refine (pm_iff a c).2 (.inr ⟨by omega, ?_, ?_⟩)
  · have : a.take c.length = (a.take b.length).take c.length := by rw [List.take_take, Nat.min_eq_left (by omega)]
    rw [this, x2, y2]
  · rcases y3 with y3 | y3
    · exact .inl y3
    · refine .inr ?_
      rw [← getD_take a b.length c.length y1, x2]
      exact y3

/-! The path of a cookie that has none -/

theorem lastAt_le (l : List UInt8) : ∀ k, lastAt l k ≤ k
  | 0 => Nat.le_refl _
  | k + 1 => by
    have := lastAt_le l k
    unfold lastAt
    split <;> omega

theorem lastAt_slash (l : List UInt8) (h : l.getD 0 0 = 47) : ∀ k, l.getD (lastAt l k) 0 = 47
  | 0 => h
  | k + 1 => by
    unfold lastAt
    split
    · assumption
    · exact lastAt_slash l h k

theorem slash_right : rightB [47] = true := by decide

theorem slash_below (s : List UInt8) (h : s.getD 0 0 = 47) : pmB s [47] = true := by
  match s, h with
  | [], h => simp at h
  | c :: t, h =>
    have hc : c = 47 := h
    subst hc
    cases t with
    | nil => exact pm_self _
    | cons d r => exact (pm_iff _ _).2 (.inr ⟨by simp, by simp, .inl ⟨by simp, by simp⟩⟩)

/-- A right path's is right, and the path matches it. -/
theorem def_right (s : List UInt8) (h : rightB s = true) : rightB (defL s) = true ∧ pmB s (defL s) = true := by
  have h' : ((1 ≤ s.length ∧ s.length ≤ 64) ∧ s.getD 0 0 = 47) ∧ s.all plainC = true := by simpa [rightB] using h
  obtain ⟨⟨⟨h1, h2⟩, h3⟩, h4⟩ := h'
  unfold defL
  rw [if_pos h3]
  by_cases hk : lastAt s (s.length - 1) = 0
  · rw [if_pos hk]
    exact ⟨slash_right, slash_below s h3⟩
  · rw [if_neg hk]
    have hle := lastAt_le s (s.length - 1)
    have hsl := lastAt_slash s h3 (s.length - 1)
    obtain ⟨k, hkk⟩ : ∃ k, k = lastAt s (s.length - 1) := ⟨_, rfl⟩
    rw [← hkk] at hle hsl hk ⊢
    have hlen : (s.take k).length = k := by rw [List.length_take]; omega
    constructor
    · unfold rightB
      have a1 : (s.take k).all plainC = true := List.all_eq_true.2 fun c hc => List.all_eq_true.1 h4 c (List.mem_of_mem_take hc)
      rw [hlen, getD_take s k 0 (by omega), h3, a1, decide_eq_true (show 1 ≤ k by omega), decide_eq_true (show k ≤ 64 by omega)]
      rfl
    · refine (pm_iff _ _).2 (.inr ⟨by omega, by rw [hlen], .inr ?_⟩)
      rw [hlen]
      exact hsl

/-! Behind a path -/

theorem pm_slash (a b : List UInt8) : pmB (a ++ 47 :: b) a = true := by
  refine (pm_iff _ _).2 (.inr ⟨by simp, by simp, .inr ?_⟩)
  rw [List.getD_eq_getElem?_getD, List.getElem?_append_right (Nat.le_refl _)]
  simp

theorem pm_slash2 (a b : List UInt8) : pmB (a ++ 47 :: b) (a ++ [47]) = true := by
  cases b with
  | nil => exact pm_self _
  | cons c t =>
    refine (pm_iff _ _).2 (.inr ⟨by simp, ?_, .inl ⟨by simp, ?_⟩⟩)
    · have : a ++ 47 :: c :: t = (a ++ [47]) ++ c :: t := by simp
      rw [this, List.take_left]
    · rw [List.getD_eq_getElem?_getD]
      simp

theorem pm_more (a b : List UInt8) (hb : b ≠ []) : pmB (a ++ b) a = (decide (b.getD 0 0 = 47) || (decide (0 < a.length) && decide (a.getD (a.length - 1) 0 = 47))) := by
  have hl : 0 < b.length := by cases b with | nil => exact absurd rfl hb | cons c t => simp
  have h0 : (a ++ b).getD a.length 0 = b.getD 0 0 := by
    rw [List.getD_eq_getElem?_getD, List.getElem?_append_right (Nat.le_refl _), Nat.sub_self, List.getD_eq_getElem?_getD]
  unfold pmB
  rw [decide_eq_false (fun h => by have := congrArg List.length h; simp at this; exact hb this), List.take_left, h0, decide_eq_true (show a.length < (a ++ b).length by rw [List.length_append]; omega)]
  simp [Bool.or_comm]

/-! Addresses -/

def httpsL : List UInt8 := [104, 116, 116, 112, 115, 58, 47, 47]
def httpL : List UInt8 := [104, 116, 116, 112, 58, 47, 47]

/-- Does a byte end a path? -/
def asksC (c : UInt8) : Bool := decide (c = 63) || decide (c = 35)
/-- Does a byte end a host? -/
def endsC (c : UInt8) : Bool := decide (c = 47) || asksC c

/-- What stands ahead of the first byte of that kind. -/
def untilL (p : UInt8 → Bool) (l : List UInt8) : List UInt8 := l.takeWhile fun c => !p c

/-- An address, or an error's number. -/
structure Ad where
  e : Int
  sec : Bool
  host : List UInt8
  path : List UInt8

def adNo (e : Int) : Ad := ⟨e, false, [], []⟩

/-- What is behind the scheme. -/
def restA (sec : Bool) (r : List UInt8) : Ad :=
  if hostB ((untilL endsC r).map lowC) = true then
    (let p := untilL asksC (r.drop (untilL endsC r).length)
     let q := if p = [] then [47] else p
     if rightB q = true then ⟨0, sec, (untilL endsC r).map lowC, q⟩ else adNo 122)
  else adNo 121

def parseA (l : List UInt8) : Ad :=
  if httpsL.isPrefixOf l = true then restA true (l.drop 8) else if httpL.isPrefixOf l = true then restA false (l.drop 7) else adNo 120

/-- An address as a text. -/
def textA (sec : Bool) (h p : List UInt8) : Option (List UInt8) :=
  if hostB (h.map lowC) = true ∧ h.map lowC = h ∧ rightB p = true ∧ p.any asksC = false then some ((if sec = true then httpsL else httpL) ++ h ++ p) else none

theorem until_app (p : UInt8 → Bool) (c : UInt8) (hc : p c = true) : ∀ (a b : List UInt8), untilL p (a ++ c :: b) = untilL p a
  | [], b => by simp [untilL, hc]
  | x :: t, b => by
    have ih := until_app p c hc t b
    unfold untilL at ih ⊢
    rw [List.cons_append]
    by_cases hx : p x = true
    · simp [hx]
    · have hx' : p x = false := by simpa using hx
      simp [hx', ih]

theorem until_len (p : UInt8 → Bool) (l : List UInt8) : (untilL p l).length ≤ l.length := by
  unfold untilL
  exact (List.takeWhile_sublist _).length_le

theorem prefix_app (c : UInt8) : ∀ (p s b : List UInt8), (p.contains c) = false → p.isPrefixOf (s ++ c :: b) = p.isPrefixOf s
  | [], s, b, _ => by simp [List.isPrefixOf]
  | x :: t, [], b, h => by
    have h' : c ≠ x ∧ t.contains c = false := by
      simp only [List.contains_cons, Bool.or_eq_false_iff, beq_eq_false_iff_ne] at h
      exact h
    show (x == c && t.isPrefixOf b) = false
    have : (x == c) = false := beq_eq_false_iff_ne.2 (fun e => h'.1 e.symm)
    rw [this]
    rfl
  | x :: t, y :: s, b, h => by
    have h' : t.contains c = false := by
      simp only [List.contains_cons, Bool.or_eq_false_iff] at h
      exact h.2
    show (x == y && t.isPrefixOf (s ++ c :: b)) = (x == y && t.isPrefixOf s)
    rw [prefix_app c t s b h']

theorem prefix_len : ∀ (p l : List UInt8), p.isPrefixOf l = true → p.length ≤ l.length
  | [], _, _ => Nat.zero_le _
  | x :: t, [], h => by cases h
  | x :: t, y :: s, h => by
    have h' : (x == y && t.isPrefixOf s) = true := h
    rw [Bool.and_eq_true] at h'
    have := prefix_len t s h'.2
    simpa using this

theorem restA_app (sec : Bool) (r b : List UInt8) (c : UInt8) (hc : asksC c = true) : restA sec (r ++ c :: b) = restA sec r := by
  have he : endsC c = true := by unfold endsC; rw [hc, Bool.or_true]
  unfold restA
  rw [until_app endsC c he, List.drop_append_of_le_length (until_len endsC r), until_app asksC c hc]

/-- What is behind an address's path is of no account. -/
theorem parse_app (s b : List UInt8) (c : UInt8) (hc : asksC c = true) (h1 : httpsL.contains c = false) (h2 : httpL.contains c = false) : parseA (s ++ c :: b) = parseA s := by
  unfold parseA
  rw [prefix_app c httpsL s b h1, prefix_app c httpL s b h2]
  by_cases x1 : httpsL.isPrefixOf s = true
  · have := prefix_len _ _ x1
    rw [if_pos x1, if_pos x1, List.drop_append_of_le_length (show 8 ≤ s.length from this), restA_app _ _ _ _ hc]
  · rw [if_neg x1, if_neg x1]
    by_cases x2 : httpL.isPrefixOf s = true
    · have := prefix_len _ _ x2
      rw [if_pos x2, if_pos x2, List.drop_append_of_le_length (show 7 ≤ s.length from this), restA_app _ _ _ _ hc]
    · rw [if_neg x2, if_neg x2]

theorem until_all (p : UInt8 → Bool) : ∀ (a : List UInt8), a.any p = false → untilL p a = a
  | [], _ => rfl
  | x :: t, h => by
    have h' : p x = false ∧ t.any p = false := by simpa using h
    have ih := until_all p t h'.2
    unfold untilL at ih ⊢
    simp [h'.1, ih]

/-- A host has no byte that ends it. -/
theorem dotG_bytes (l : List UInt8) : ∀ p, ∀ c ∈ l, c = 46 ∨ ∃ x ∈ dotG p l, c ∈ x := by
  induction l with
  | nil => intro p c h; cases h
  | cons d t ih =>
    intro p c hc
    by_cases h : d = 46
    · subst h
      rw [dotG_dot]
      rcases List.mem_cons.1 hc with rfl | hc
      · exact .inl rfl
      · rcases ih [] c hc with e | ⟨x, hx, hcx⟩
        · exact .inl e
        · exact .inr ⟨x, List.mem_cons_of_mem _ hx, hcx⟩
    · rw [dotG_else _ _ _ h]
      rcases List.mem_cons.1 hc with rfl | hc
      · have key : ∀ (m q : List UInt8), ∃ x ∈ dotG q m, ∀ z ∈ q, z ∈ x := by
          intro m
          induction m with
          | nil => intro q; exact ⟨q, by simp [dotG], fun z hz => hz⟩
          | cons e r ihm =>
            intro q
            by_cases he : e = 46
            · subst he
              rw [dotG_dot]
              exact ⟨q, by simp, fun z hz => hz⟩
            · rw [dotG_else _ _ _ he]
              obtain ⟨x, hx, hz⟩ := ihm (q ++ [e])
              exact ⟨x, hx, fun z hzq => hz z (by simp [hzq])⟩
        obtain ⟨x, hx, hz⟩ := key t (p ++ [c])
        exact .inr ⟨x, hx, hz c (by simp)⟩
      · exact ih _ c hc

theorem host_bytes (l : List UInt8) (h : hostB l = true) : ∀ c ∈ l, c = 46 ∨ hostC c = true := by
  have h' : (1 ≤ l.length ∧ l.length ≤ 64) ∧ (dotsL l).all partB = true := by simpa [hostB] using h
  intro c hc
  rcases dotG_bytes l [] c hc with e | ⟨x, hx, hcx⟩
  · exact .inl e
  · have hp := List.all_eq_true.1 h'.2 x hx
    have hp' : (((1 ≤ x.length ∧ x.length ≤ 63) ∧ ¬ x.getD 0 0 = 45) ∧ ¬ x.getD (x.length - 1) 0 = 45) ∧ x.all hostC = true := by simpa [partB] using hp
    exact .inr (List.all_eq_true.1 hp'.2 c hcx)

theorem hostC_ends (c : UInt8) (h : c = 46 ∨ hostC c = true) : endsC c = false := by
  have hb : ∀ c : UInt8, (!(decide (c = 46) || hostC c) || !endsC c) = true := by
    intro c
    have : ∀ n : Nat, n < 256 → (!(decide (UInt8.ofNat n = 46) || hostC (UInt8.ofNat n)) || !endsC (UInt8.ofNat n)) = true := by decide +kernel
    have := this c.toNat (by have := c.toNat_lt; omega)
    simpa using this
  have := hb c
  rcases h with rfl | h
  · decide
  · rw [h] at this
    simpa using this

/-- An address as a text is read as it was. -/
theorem parse_text (sec : Bool) (h p t : List UInt8) (ht : textA sec h p = some t) : parseA t = ⟨0, sec, h, p⟩ := by
  unfold textA at ht
  split at ht
  · rename_i hc
    obtain ⟨h1, h2, h3, h4⟩ := hc
    injection ht with ht
    have hp : ((1 ≤ p.length ∧ p.length ≤ 64) ∧ p.getD 0 0 = 47) ∧ p.all plainC = true := by simpa [rightB] using h3
    have hu1 : untilL endsC (h ++ p) = h := by
      match p, hp.1.2 with
      | c :: r, hcc =>
        have : c = 47 := hcc
        subst this
        rw [until_app endsC 47 (by decide), until_all]
        rw [List.any_eq_false]
        intro x hx
        rw [hostC_ends x (host_bytes h (h2 ▸ h1) x hx)]
        decide
      | [], hcc => simp at hcc
    have hu2 : untilL asksC p = p := until_all asksC p h4
    have hne : p ≠ [] := fun e => by rw [e] at hp; simp at hp
    have key : restA sec (h ++ p) = ⟨0, sec, h, p⟩ := by
      unfold restA
      rw [hu1, if_pos h1, List.drop_left, hu2]
      simp only [if_neg hne]
      rw [if_pos h3, h2]
    cases sec
    · rw [if_neg (by decide)] at ht
      subst ht
      have e1 : httpsL.isPrefixOf (httpL ++ h ++ p) = false := by rfl
      have e2 : httpL.isPrefixOf (httpL ++ h ++ p) = true := by
        rw [List.append_assoc]
        simp [httpL, List.isPrefixOf]
      unfold parseA
      rw [e1, if_neg (by decide), e2, if_pos rfl]
      exact key
    · rw [if_pos rfl] at ht
      subst ht
      have e1 : httpsL.isPrefixOf (httpsL ++ h ++ p) = true := by
        rw [List.append_assoc]
        simp [httpsL, List.isPrefixOf]
      unfold parseA
      rw [e1, if_pos rfl]
      exact key
  · cases ht
end Go.Proofs.YtkpdejnhjbojpaaDoor
namespace Go.Proofs.YtkpdejnhjbojpaaDoor
set_option linter.unusedVariables false

/-- How two numbers compare. -/
def cmpN (a b : Int) : Int := if a < b then -1 else if b < a then 1 else 0

/-- A way to compare. -/
structure Ord' {α : Type} (f : α → α → Int) : Prop where
  three : ∀ a b, f a b = -1 ∨ f a b = 0 ∨ f a b = 1
  anti : ∀ a b, f b a = - f a b
  trans : ∀ a b c, f a b ≤ 0 → f b c ≤ 0 → f a c ≤ 0

theorem Ord'.same {α : Type} {f : α → α → Int} (h : Ord' f) (a b c : α) (h1 : f a b = 0) : f a c = f b c := by
  have h2 : f b a = 0 := by rw [h.anti a b, h1]; rfl
  rcases h.three a c with e | e | e <;> rcases h.three b c with e' | e' | e' <;> rw [e, e']
  all_goals exfalso
  · have := h.trans c b a (by rw [h.anti b c, e']; decide) (by omega); rw [h.anti a c, e] at this; omega
  · have := h.trans c b a (by rw [h.anti b c, e']; decide) (by omega); rw [h.anti a c, e] at this; omega
  · have := h.trans c a b (by rw [h.anti a c, e]; decide) (by omega); rw [h.anti b c, e'] at this; omega
  · have := h.trans b a c (by omega) (by omega); omega
  · have := h.trans a b c (by omega) (by omega); omega
  · have := h.trans a b c (by omega) (by omega); omega

/-- First the one way, then the other. -/
def lexF {α : Type} (f g : α → α → Int) (a b : α) : Int := if f a b = 0 then g a b else f a b

theorem Ord'.lex {α : Type} {f g : α → α → Int} (hf : Ord' f) (hg : Ord' g) : Ord' (lexF f g) where
  three a b := by unfold lexF; split; exact hg.three a b; exact hf.three a b
  anti a b := by
    unfold lexF
    rw [hf.anti a b]
    by_cases h : f a b = 0
    · rw [if_pos (by omega), if_pos h]; exact hg.anti a b
    · rw [if_neg (by omega), if_neg h]
  trans a b c h1 h2 := by
    unfold lexF at h1 h2 ⊢
    by_cases hab : f a b = 0
    · rw [if_pos hab] at h1
      rw [hf.same a b c hab]
      by_cases hbc : f b c = 0
      · rw [if_pos hbc] at h2 ⊢
        exact hg.trans a b c h1 h2
      · rw [if_neg hbc] at h2 ⊢
        exact h2
    · rw [if_neg hab] at h1
      by_cases hbc : f b c = 0
      · have e : f a c = f a b := by
          have h3 := hf.same c b a (by rw [hf.anti b c, hbc]; rfl)
          have h4 := hf.anti a c
          have h5 := hf.anti a b
          omega
        rw [e, if_neg hab]
        exact h1
      · rw [if_neg hbc] at h2
        have h3 := hf.trans a b c h1 h2
        have hne : f a c ≠ 0 := by
          intro h0
          have h4 := hf.same a c b h0
          have h5 := hf.anti b c
          omega
        rw [if_neg hne]
        exact h3

theorem Ord'.on {α β : Type} {f : β → β → Int} (hf : Ord' f) (p : α → β) : Ord' (fun a b => f (p a) (p b)) where
  three a b := hf.three _ _
  anti a b := hf.anti _ _
  trans a b c := hf.trans _ _ _

theorem ordN : Ord' cmpN where
  three a b := by unfold cmpN; split; simp; split <;> simp
  anti a b := by unfold cmpN; split <;> split <;> (try split) <;> omega
  trans a b c h1 h2 := by
    unfold cmpN at *
    by_cases x : b < a
    · rw [if_neg (by omega), if_pos x] at h1; omega
    · by_cases y : c < b
      · rw [if_neg (by omega), if_pos y] at h2; omega
      · split
        · decide
        · rw [if_neg (by omega)]
          decide

theorem cmpN_zero (a b : Int) : cmpN a b = 0 ↔ a = b := by
  unfold cmpN
  constructor
  · intro h
    by_cases x : a < b
    · rw [if_pos x] at h; omega
    · rw [if_neg x] at h
      by_cases y : b < a
      · rw [if_pos y] at h; omega
      · omega
  · rintro rfl
    rw [if_neg (by omega), if_neg (by omega)]

end Go.Proofs.YtkpdejnhjbojpaaDoor
namespace Go.Proofs.YtkpdejnhjbojpaaDoor
set_option linter.unusedVariables false

/-- A cookie. -/
structure Ck where
  dom : ByteArray
  path : ByteArray
  name : ByteArray
  val : ByteArray
  cr : Int
  ac : Int
  ex : Int
  ho : Bool
  se : Bool
  hp : Bool
  ss : Int

/-- How two texts compare. -/
def cmpT : List UInt8 → List UInt8 → Int
  | [], [] => 0
  | [], _ :: _ => -1
  | _ :: _, [] => 1
  | x :: xs, y :: ys => if x.toNat < y.toNat then -1 else if y.toNat < x.toNat then 1 else cmpT xs ys

/-- What a bool counts. -/
def bitN (b : Bool) : Int := if b = true then 1 else 0

theorem cmpT_cons (x y : UInt8) (xs ys : List UInt8) : cmpT (x :: xs) (y :: ys) = if x.toNat < y.toNat then -1 else if y.toNat < x.toNat then 1 else cmpT xs ys := rfl

theorem ordT : Ord' cmpT where
  three a := by
    induction a with
    | nil => intro b; cases b <;> simp [cmpT]
    | cons x xs ih =>
      intro b
      cases b with
      | nil => simp [cmpT]
      | cons y ys =>
        rw [cmpT_cons]
        split
        · simp
        · split
          · simp
          · exact ih ys
  anti a := by
    induction a with
    | nil => intro b; cases b <;> simp [cmpT]
    | cons x xs ih =>
      intro b
      cases b with
      | nil => simp [cmpT]
      | cons y ys =>
        rw [cmpT_cons, cmpT_cons]
        by_cases h1 : x.toNat < y.toNat
        · rw [if_neg (by omega), if_pos h1, if_pos h1]; rfl
        · by_cases h2 : y.toNat < x.toNat
          · rw [if_pos h2, if_neg h1, if_pos h2]
          · rw [if_neg h2, if_neg h1, if_neg h1, if_neg h2]; exact ih ys
  trans a := by
    induction a with
    | nil =>
      intro b c h1 h2
      cases c with
      | nil => simp [cmpT]
      | cons z zs => simp [cmpT]
    | cons x xs ih =>
      intro b c h1 h2
      cases b with
      | nil => simp [cmpT] at h1
      | cons y ys =>
        cases c with
        | nil => simp [cmpT] at h2
        | cons z zs =>
          rw [cmpT_cons] at h1 h2 ⊢
          by_cases a1 : y.toNat < x.toNat
          · rw [if_neg (by omega), if_pos a1] at h1; omega
          · by_cases a2 : z.toNat < y.toNat
            · rw [if_neg (by omega), if_pos a2] at h2; omega
            · by_cases a3 : x.toNat < z.toNat
              · rw [if_pos a3]; decide
              · rw [if_neg a3, if_neg (by omega)]
                rw [if_neg (by omega), if_neg (by omega)] at h1 h2
                exact ih ys zs h1 h2

theorem cmpT_zero : ∀ a b : List UInt8, cmpT a b = 0 ↔ a = b
  | [], [] => by simp [cmpT]
  | [], _ :: _ => by simp [cmpT]
  | _ :: _, [] => by simp [cmpT]
  | x :: xs, y :: ys => by
    rw [cmpT_cons]
    have ih := cmpT_zero xs ys
    by_cases h1 : x.toNat < y.toNat
    · rw [if_pos h1]
      constructor
      · intro h; omega
      · intro h; injection h with h _; rw [h] at h1; omega
    · rw [if_neg h1]
      by_cases h2 : y.toNat < x.toNat
      · rw [if_pos h2]
        constructor
        · intro h; omega
        · intro h; injection h with h _; rw [h] at h2; omega
      · rw [if_neg h2, ih]
        have e : x = y := UInt8.toNat.inj (by omega)
        subst e
        simp

/-- How two keys compare. -/
def cmpK (a b : Ck) : Int := lexF (fun a b : Ck => cmpT a.dom.data.toList b.dom.data.toList) (lexF (fun a b : Ck => cmpT a.path.data.toList b.path.data.toList) (fun a b : Ck => cmpT a.name.data.toList b.name.data.toList)) a b

/-- How two cookies compare. -/
def cmpC : Ck → Ck → Int :=
  lexF cmpK (lexF (fun a b => cmpN a.cr b.cr) (lexF (fun a b => cmpN a.ac b.ac) (lexF (fun a b => cmpT a.val.data.toList b.val.data.toList) (lexF (fun a b => cmpN a.ex b.ex)
    (lexF (fun a b => cmpN (bitN a.ho) (bitN b.ho)) (lexF (fun a b => cmpN (bitN a.se) (bitN b.se)) (lexF (fun a b => cmpN (bitN a.hp) (bitN b.hp)) (fun a b => cmpN a.ss b.ss))))))))

theorem ordK : Ord' cmpK := (ordT.on fun c : Ck => c.dom.data.toList).lex ((ordT.on fun c : Ck => c.path.data.toList).lex (ordT.on fun c : Ck => c.name.data.toList))
theorem ordC : Ord' cmpC :=
  ordK.lex ((ordN.on fun c : Ck => c.cr).lex ((ordN.on fun c : Ck => c.ac).lex ((ordT.on fun c : Ck => c.val.data.toList).lex ((ordN.on fun c : Ck => c.ex).lex
    ((ordN.on fun c : Ck => bitN c.ho).lex ((ordN.on fun c : Ck => bitN c.se).lex ((ordN.on fun c : Ck => bitN c.hp).lex (ordN.on fun c : Ck => c.ss))))))))

theorem lexF_zero {α : Type} (f g : α → α → Int) (a b : α) : lexF f g a b = 0 ↔ (f a b = 0 ∧ g a b = 0) := by
  unfold lexF
  by_cases h : f a b = 0
  · rw [if_pos h]; exact ⟨fun h2 => ⟨h, h2⟩, fun h2 => h2.2⟩
  · rw [if_neg h]; exact ⟨fun h2 => absurd h2 h, fun h2 => absurd h2.1 h⟩

theorem bitN_inj (a b : Bool) : bitN a = bitN b ↔ a = b := by cases a <;> cases b <;> decide

theorem bytes_is {a d : ByteArray} : a.data.toList = d.data.toList ↔ a = d := ⟨fun h => ba_ext h, fun h => by rw [h]⟩

theorem cmpK_zero (a b : Ck) : cmpK a b = 0 ↔ (a.dom = b.dom ∧ a.path = b.path ∧ a.name = b.name) := by
  unfold cmpK
  rw [lexF_zero, lexF_zero, cmpT_zero, cmpT_zero, cmpT_zero, bytes_is, bytes_is, bytes_is]

/-- Two cookies compare as 0 just if they are the same. -/
theorem cmpC_zero (a b : Ck) : cmpC a b = 0 ↔ a = b := by
  unfold cmpC
  simp only [lexF_zero, cmpK_zero, cmpN_zero, cmpT_zero, bitN_inj, bytes_is]
  constructor
  · rintro ⟨⟨h1, h2, h3⟩, h4, h5, h6, h7, h8, h9, h10, h11⟩
    cases a; cases b
    simp_all
  · rintro rfl
    simp

/-- The greater one. -/
def grC (a b : Ck) : Ck := if cmpC a b < 0 then b else a

theorem grC_comm (a b : Ck) : grC a b = grC b a := by
  unfold grC
  have h := ordC.anti a b
  by_cases h0 : cmpC a b = 0
  · have e := (cmpC_zero a b).1 h0
    rw [e]
  · by_cases h1 : cmpC a b < 0
    · rw [if_pos h1, if_neg (by omega)]
    · rw [if_neg h1, if_pos (by omega)]

theorem grC_one (a b : Ck) : grC a b = a ∨ grC a b = b := by unfold grC; split; exact .inr rfl; exact .inl rfl

theorem grC_left (a b : Ck) : 0 ≤ cmpC (grC a b) a := by
  have h := ordC.anti a b
  have h2 := (cmpC_zero a a).2 rfl
  unfold grC
  split
  · omega
  · omega

theorem grC_right (a b : Ck) : 0 ≤ cmpC (grC a b) b := by rw [grC_comm]; exact grC_left b a

theorem grC_self (a : Ck) : grC a a = a := by unfold grC; split <;> rfl

/-- The greater one is above just what the two are above. -/
theorem grC_ge (a b c : Ck) : 0 ≤ cmpC c (grC a b) ↔ (0 ≤ cmpC c a ∧ 0 ≤ cmpC c b) := by
  have hl := grC_left a b
  have hr := grC_right a b
  have t : ∀ x y z : Ck, 0 ≤ cmpC x y → 0 ≤ cmpC y z → 0 ≤ cmpC x z := by
    intro x y z h1 h2
    have a1 := ordC.anti x y
    have a2 := ordC.anti y z
    have a3 := ordC.anti x z
    have := ordC.trans z y x (by omega) (by omega)
    omega
  constructor
  · intro h; exact ⟨t _ _ _ h hl, t _ _ _ h hr⟩
  · rintro ⟨h1, h2⟩
    rcases grC_one a b with e | e <;> rw [e] <;> assumption

theorem cmpC_le_eq (a b : Ck) (h1 : 0 ≤ cmpC a b) (h2 : 0 ≤ cmpC b a) : a = b := by
  have := ordC.anti a b
  exact (cmpC_zero a b).1 (by omega)

theorem cmpC_refl (a : Ck) : 0 ≤ cmpC a a := by rw [(cmpC_zero a a).2 rfl]; decide

theorem grC_assoc (a b c : Ck) : grC a (grC b c) = grC (grC a b) c := by
  apply cmpC_le_eq
  · rw [grC_ge, grC_ge]
    have h := (grC_ge a (grC b c) (grC a (grC b c))).1 (cmpC_refl _)
    have h2 := (grC_ge b c _).1 h.2
    exact ⟨⟨h.1, h2.1⟩, h2.2⟩
  · rw [grC_ge, grC_ge]
    have h := (grC_ge (grC a b) c (grC (grC a b) c)).1 (cmpC_refl _)
    have h2 := (grC_ge a b _).1 h.1
    exact ⟨h2.1, h2.2, h.2⟩

/-- Has it not expired? -/
def liveB (c : Ck) (now : Int) : Bool := decide (c.ex = 0) || decide (now < c.ex)
end Go.Proofs.YtkpdejnhjbojpaaDoor
