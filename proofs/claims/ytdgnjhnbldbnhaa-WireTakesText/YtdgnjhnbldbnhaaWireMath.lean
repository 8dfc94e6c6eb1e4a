/-
  Numbers in sevens of bits: plain facts of lists and numbers.
-/
import Derived.ProofKit
namespace Go.Proofs.Ytdgnjhnbldbnhaa
set_option linter.unusedVariables false

/-- The bytes of n, at most f + 1 of them. -/
def putF : Nat → Nat → List UInt8
  | 0, n => [UInt8.ofNat n]
  | f + 1, n => if n < 128 then [UInt8.ofNat n] else UInt8.ofNat (128 + n % 128) :: putF f (n / 128)

/-- The bytes of n. -/
def putL (n : Nat) : List UInt8 := putF 9 n

def putB (n : Nat) : ByteArray := ⟨(putL n).toArray⟩

/-- The bytes l from place k on, when the sevens before were V. -/
def scan : List UInt8 → Nat → Nat → Nat × Nat × Nat
  | [], k, _ => if k = 10 then (0, 0, 31) else (0, 0, 30)
  | c :: t, k, V =>
    if k = 10 then (0, 0, 31) else if 128 ≤ c.toNat then scan t (k + 1) (V + (c.toNat - 128) * 128 ^ k)
    else if k = 9 ∧ 1 < c.toNat then (0, 0, 31) else if 0 < k ∧ c.toNat = 0 then (0, 0, 32) else (V + c.toNat * 128 ^ k, k + 1, 0)

def takeB (s : ByteArray) : Nat × Nat × Nat := scan s.data.toList 0 0

theorem scan_ten (l : List UInt8) (V : Nat) : scan l 10 V = (0, 0, 31) := by cases l <;> rfl

theorem scan_nil (k V : Nat) (h : k < 10) : scan [] k V = (0, 0, 30) := by
  show (if k = 10 then ((0, 0, 31) : Nat × Nat × Nat) else (0, 0, 30)) = _
  rw [if_neg (by omega)]

theorem scan_more (c : UInt8) (t : List UInt8) (k V : Nat) (h : k < 10) (hc : 128 ≤ c.toNat) : scan (c :: t) k V = scan t (k + 1) (V + (c.toNat - 128) * 128 ^ k) := by
  rw [scan, if_neg (by omega), if_pos hc]

theorem scan_last (c : UInt8) (t : List UInt8) (k V : Nat) (h : k < 10) (hc : c.toNat < 128) (h9 : k < 9 ∨ c.toNat ≤ 1) (h0 : k = 0 ∨ 0 < c.toNat) : scan (c :: t) k V = (V + c.toNat * 128 ^ k, k + 1, 0) := by
  rw [scan, if_neg (by omega), if_neg (by omega), if_neg (by omega), if_neg (by omega)]

theorem scan_long (c : UInt8) (t : List UInt8) (V : Nat) (hc : c.toNat < 128) (h1 : 1 < c.toNat) : scan (c :: t) 9 V = (0, 0, 31) := by
  rw [scan, if_neg (by omega), if_neg (by omega), if_pos ⟨rfl, h1⟩]

theorem scan_form (c : UInt8) (t : List UInt8) (k V : Nat) (h : k < 10) (hk : 0 < k) (h0 : c.toNat = 0) : scan (c :: t) k V = (0, 0, 32) := by
  rw [scan, if_neg (by omega), if_neg (by omega), if_neg (by omega), if_pos ⟨hk, h0⟩]

theorem u8_nat (n : Nat) (h : n < 256) : (UInt8.ofNat n).toNat = n := by
  rw [UInt8.toNat_ofNat']
  omega

theorem putF_last (f n : Nat) (h : n < 128) : putF f n = [UInt8.ofNat n] := by
  cases f with
  | zero => rfl
  | succ f => rw [putF, if_pos h]

theorem putF_more (f n : Nat) (h : 128 ≤ n) : putF (f + 1) n = UInt8.ofNat (128 + n % 128) :: putF f (n / 128) := by
  rw [putF, if_neg (by omega)]

theorem putF_len : ∀ f n, 1 ≤ (putF f n).length ∧ (putF f n).length ≤ f + 1
  | 0, n => by simp [putF]
  | f + 1, n => by
    have := putF_len f (n / 128)
    unfold putF
    split
    · simp
    · simp; omega

theorem fits_down (f n : Nat) (h : n < 2 * 128 ^ (f + 1)) : n / 128 < 2 * 128 ^ f := by
  rw [Nat.pow_succ, ← Nat.mul_assoc] at h
  exact (Nat.div_lt_iff_lt_mul (by decide)).2 h

theorem sevens (V q k : Nat) : V + (128 + q % 128 - 128) * 128 ^ k + q / 128 * 128 ^ (k + 1) = V + q * 128 ^ k := by
  have e : (128 + q % 128 - 128) = q % 128 := by omega
  rw [e, Nat.pow_succ, Nat.mul_comm (128 ^ k) 128, ← Nat.mul_assoc, Nat.add_assoc, ← Nat.add_mul]
  have : q % 128 + q / 128 * 128 = q := by omega
  rw [this]

/-- What was put is taken. -/
theorem scan_put (b : List UInt8) : ∀ (f q k V : Nat), k + f = 9 → q < 2 * 128 ^ f → (k = 0 ∨ 0 < q) → scan (putF f q ++ b) k V = (V + q * 128 ^ k, k + (putF f q).length, 0)
  | 0, q, k, V, hk, hq, h0 => by
    have hq2 : q < 2 := by simpa using hq
    have e := u8_nat q (by omega)
    show scan (UInt8.ofNat q :: b) k V = (V + q * 128 ^ k, k + 1, 0)
    rw [scan_last _ _ _ _ (by omega) (by omega) (.inr (by omega)) (by omega), e]
  | f + 1, q, k, V, hk, hq, h0 => by
    by_cases h : q < 128
    · have e := u8_nat q (by omega)
      rw [putF_last _ _ h]
      show scan (UInt8.ofNat q :: b) k V = (V + q * 128 ^ k, k + 1, 0)
      rw [scan_last _ _ _ _ (by omega) (by omega) (.inl (by omega)) (by omega), e]
    · have e := u8_nat (128 + q % 128) (by omega)
      rw [putF_more f q (by omega), List.cons_append, scan_more _ _ _ _ (by omega) (by omega), e, scan_put b f (q / 128) (k + 1) _ (by omega) (fits_down f q hq) (.inr (by omega)), sevens]
      simp
      omega

/-- What is taken has just those bytes. -/
theorem scan_taken : ∀ (l : List UInt8) (k V n m : Nat), k ≤ 10 → scan l k V = (n, m, 0) →
    ∃ q, n = V + q * 128 ^ k ∧ k < m ∧ m ≤ 10 ∧ m ≤ k + l.length ∧ l.take (m - k) = putF (9 - k) q ∧ q < 2 * 128 ^ (9 - k) ∧ (k = 0 ∨ 0 < q)
  | [], k, V, n, m, hk, h => by
    unfold scan at h
    split at h <;> cases h
  | c :: t, k, V, n, m, hk, h => by
    by_cases h10 : k = 10
    · subst h10
      rw [scan_ten] at h
      cases h
    · by_cases hc : 128 ≤ c.toNat
      · rw [scan_more _ _ _ _ (by omega) hc] at h
        by_cases h9 : k = 9
        · subst h9
          rw [scan_ten] at h
          cases h
        · obtain ⟨q, e1, e2, e3, e4, e5, e6, e7⟩ := scan_taken t (k + 1) _ n m (by omega) h
          have hcl := c.toNat_lt
          have hq0 : 0 < q := by omega
          have e9 : 9 - k = (9 - (k + 1)) + 1 := by omega
          have em : m - k = (m - (k + 1)) + 1 := by omega
          have hm : (c.toNat - 128 + 128 * q) % 128 = c.toNat - 128 := by omega
          have hd : (c.toNat - 128 + 128 * q) / 128 = q := by omega
          have hb : UInt8.ofNat (128 + (c.toNat - 128)) = c := by
            apply UInt8.toNat.inj
            rw [u8_nat _ (by omega)]
            omega
          refine ⟨c.toNat - 128 + 128 * q, ?_, by omega, e3, by simp; omega, ?_, ?_, .inr (by omega)⟩
          · rw [e1, Nat.pow_succ, Nat.mul_comm (128 ^ k) 128, ← Nat.mul_assoc, Nat.add_assoc, ← Nat.add_mul, Nat.mul_comm q 128]
          · rw [em, List.take_succ_cons, e5, e9, putF_more _ _ (by omega), hm, hd, hb]
          · rw [e9, Nat.pow_succ]
            generalize 128 ^ (9 - (k + 1)) = P at *
            clear e1 e5 e9 em hm hd h
            omega
      · rw [scan, if_neg h10, if_neg hc] at h
        split at h
        · cases h
        · split at h
          · cases h
          · have e := (Prod.mk.inj h).1
            have e2 := (Prod.mk.inj (Prod.mk.inj h).2).1
            subst e e2
            have ec : UInt8.ofNat c.toNat = c := by simp
            refine ⟨c.toNat, rfl, by omega, by omega, by simp, ?_, ?_, by omega⟩
            · rw [show k + 1 - k = 1 by omega, putF_last _ _ (by omega), ec]
              simp
            · by_cases h9 : k = 9
              · subst h9
                simp
                omega
              · have : 128 ^ 1 ≤ 128 ^ (9 - k) := Nat.pow_le_pow_right (by decide) (by omega)
                omega

/-- A beginning is told as short. -/
theorem scan_cut : ∀ (f q k V m : Nat), k + f = 9 → m < (putF f q).length → scan ((putF f q).take m) k V = (0, 0, 30)
  | 0, q, k, V, m, hk, hm => by
    have : m = 0 := by simp [putF] at hm; omega
    subst this
    exact scan_nil k V (by omega)
  | f + 1, q, k, V, m, hk, hm => by
    by_cases h : q < 128
    · rw [putF_last _ _ h] at hm ⊢
      have : m = 0 := by simp at hm; omega
      subst this
      exact scan_nil k V (by omega)
    · rw [putF_more f q (by omega)] at hm ⊢
      cases m with
      | zero => exact scan_nil k V (by omega)
      | succ m =>
        have e := u8_nat (128 + q % 128) (by omega)
        rw [List.take_succ_cons, scan_more _ _ _ _ (by omega) (by omega)]
        exact scan_cut f (q / 128) (k + 1) _ m (by omega) (by simpa using hm)

theorem scan_err : ∀ (l : List UInt8) (k V n m e : Nat), k ≤ 10 → scan l k V = (n, m, e) → e = 0 ∨ (n = 0 ∧ m = 0 ∧ (e = 30 ∨ e = 31 ∨ e = 32))
  | [], k, V, n, m, e, hk, h => by
    unfold scan at h
    split at h <;> (cases h; simp)
  | c :: t, k, V, n, m, e, hk, h => by
    by_cases h10 : k = 10
    · subst h10
      rw [scan_ten] at h
      cases h
      simp
    · by_cases hc : 128 ≤ c.toNat
      · rw [scan_more _ _ _ _ (by omega) hc] at h
        exact scan_err t (k + 1) _ n m e (by omega) h
      · rw [scan, if_neg h10, if_neg hc] at h
        split at h
        · cases h; simp
        · split at h
          · cases h; simp
          · cases h; simp
end Go.Proofs.Ytdgnjhnbldbnhaa
