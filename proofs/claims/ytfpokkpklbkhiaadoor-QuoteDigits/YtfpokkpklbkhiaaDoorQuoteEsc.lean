/-
  The document's own escape (package cracknelref07): a contract.
-/
import Derived.Test.YtfpokkpklbkhiaaDoorQuoteRef
namespace Go.Proofs.YtfpokkpklbkhiaaDoor
open Go.RowKit
set_option linter.unusedVariables false

/-- What escape answers. -/
def escV (o : Option (Nat × Nat)) : Value := match o with
  | some (r, n) => .tuple #[.int .i64 (r : Int), .int .i64 (n : Int)]
  | none => .tuple #[.int .i64 0, .int .i64 0]

theorem at_number (s : ByteArray) (at_ : Nat) (A i : Int) (w : World) (hA : A = (at_ : Int)) (hs : s.size ≤ 150000000000000) (ha : at_ ≤ s.size + 100) (hi : numI (s.data.toList.drop at_) = i) :
    Calls Tryd.prog 45 #[.string s, .int .i64 A] w fun e w' => e = .returned (.int .i64 i) ∧ w = w' := by
  subst hi
  exact rnumber_any s at_ A w hA hs ha
theorem at_short (n : Nat) (C i : Int) (w : World) (hC : C = (n : Int)) (hi : (shortN n : Int) = i) :
    Calls Tryd.prog 22 #[.int .u8 C] w fun e w' => e = .returned (.int .u8 i) ∧ w = w' := by
  subst hi
  exact rshort_any n C w hC

theorem escQ_cons (s : ByteArray) (k : Nat) (h : k < s.size) : escQ (s.data.toList.drop k) = match backN s[k].toNat with
    | some r => some (r, 2)
    | none => match numQ (s.data.toList.drop k) with
      | none => none
      | some n => if 56320 ≤ n ∧ n ≤ 57343 then none else if n < 55296 ∨ 57343 < n then some (n, 6) else (pairQ n (s.data.toList.drop (k + 5))).map fun r => (r, 12) := by
  rw [drop_cons s k h]
  show (match backN s[k].toNat with | some r => some (r, 2) | none => match numQ (s[k] :: s.data.toList.drop (k + 1)) with | none => none | some n => if 56320 ≤ n ∧ n ≤ 57343 then none else if n < 55296 ∨ 57343 < n then some (n, 6) else (pairQ n ((s.data.toList.drop (k + 1)).drop 4)).map fun r => (r, 12)) = _
  rw [List.drop_drop, show k + 1 + 4 = k + 5 by omega]

theorem esc_nil (s : ByteArray) (k : Nat) (h : ¬ k < s.size) : escQ (s.data.toList.drop k) = none := by
  rw [List.drop_eq_nil_of_le (by rw [list_len]; omega)]
  rfl
theorem esc_back (s : ByteArray) (k r : Nat) (h : k < s.size) (hb : backN s[k].toNat = some r) : escQ (s.data.toList.drop k) = some (r, 2) := by
  rw [escQ_cons s k h, hb]
theorem esc_no (s : ByteArray) (k : Nat) (h : k < s.size) (hb : backN s[k].toNat = none) (hn : numQ (s.data.toList.drop k) = none) : escQ (s.data.toList.drop k) = none := by
  rw [escQ_cons s k h, hb, hn]
theorem esc_low (s : ByteArray) (k n : Nat) (h : k < s.size) (hb : backN s[k].toNat = none) (hn : numQ (s.data.toList.drop k) = some n) (hr : 56320 ≤ n ∧ n ≤ 57343) : escQ (s.data.toList.drop k) = none := by
  rw [escQ_cons s k h, hb, hn]
  simp only
  rw [if_pos hr]
theorem esc_one (s : ByteArray) (k n : Nat) (h : k < s.size) (hb : backN s[k].toNat = none) (hn : numQ (s.data.toList.drop k) = some n) (hr : n < 55296 ∨ 57343 < n) : escQ (s.data.toList.drop k) = some (n, 6) := by
  rw [escQ_cons s k h, hb, hn]
  simp only
  rw [if_neg (by omega), if_pos hr]
theorem esc_two (s : ByteArray) (k n : Nat) (h : k < s.size) (hb : backN s[k].toNat = none) (hn : numQ (s.data.toList.drop k) = some n) (hr : 55296 ≤ n ∧ n ≤ 56319) : escQ (s.data.toList.drop k) = (pairQ n (s.data.toList.drop (k + 5))).map fun r => (r, 12) := by
  rw [escQ_cons s k h, hb, hn]
  simp only
  rw [if_neg (by omega), if_neg (by omega)]
theorem pair_short (s : ByteArray) (k n : Nat) (h : s.size < k + 6) : pairQ n (s.data.toList.drop k) = none := by
  by_cases hk : k < s.size
  · rw [drop_cons s k hk]
    show (if s[k].toNat = 92 then (match numQ (s.data.toList.drop (k + 1)) with | some m => if 56320 ≤ m ∧ m ≤ 57343 then some (65536 + 1024 * (n - 55296) + (m - 56320)) else none | none => none) else none) = none
    rw [numQ_short s (k + 1) (by omega)]
    simp
  · rw [List.drop_eq_nil_of_le (by rw [list_len]; omega)]
    rfl
theorem pair_cons (s : ByteArray) (k n : Nat) (h : k < s.size) : pairQ n (s.data.toList.drop k) = if s[k].toNat = 92 then (match numQ (s.data.toList.drop (k + 1)) with | some m => if 56320 ≤ m ∧ m ≤ 57343 then some (65536 + 1024 * (n - 55296) + (m - 56320)) else none | none => none) else none := by
  rw [drop_cons s k h]
  rfl

/-- What the loop of escape holds. -/
def EscAt (c : Nat) (i : Value) : Prop := ∃ b : Nat, 8 ≤ b ∧ b ≤ 14 ∧ i = .int .i64 (b : Int) ∧ ∀ d, 8 ≤ d → d < b → ¬ (92 < c ∧ shortN d = c)

theorem back_plain (c : Nat) (h : c = 34 ∨ c = 92 ∨ c = 47) : backN c = some c := by
  unfold backN
  rw [if_pos h]
theorem back_sign (c b : Nat) (h1 : 92 < c) (h2 : 8 ≤ b) (h3 : b < 14) (h : shortN b = c) : backN c = some b := by
  have : b = 8 ∨ b = 9 ∨ b = 10 ∨ b = 11 ∨ b = 12 ∨ b = 13 := by omega
  rcases this with rfl | rfl | rfl | rfl | rfl | rfl
  all_goals
    subst h
    first | rfl | (exfalso; revert h1; decide)
theorem back_none (c : Nat) (h : ¬ (c = 34 ∨ c = 92 ∨ c = 47)) (hd : ∀ d, 8 ≤ d → d < 14 → ¬ (92 < c ∧ shortN d = c)) : backN c = none := by
  unfold backN
  rw [if_neg h]
  repeat' split
  all_goals first
    | rfl
    | (exfalso; rename_i e; first | exact hd 8 (by omega) (by omega) ⟨by omega, by rw [e]; rfl⟩ | exact hd 9 (by omega) (by omega) ⟨by omega, by rw [e]; rfl⟩ | exact hd 10 (by omega) (by omega) ⟨by omega, by rw [e]; rfl⟩ | exact hd 12 (by omega) (by omega) ⟨by omega, by rw [e]; rfl⟩ | exact hd 13 (by omega) (by omega) ⟨by omega, by rw [e]; rfl⟩)
end Go.Proofs.YtfpokkpklbkhiaaDoor
