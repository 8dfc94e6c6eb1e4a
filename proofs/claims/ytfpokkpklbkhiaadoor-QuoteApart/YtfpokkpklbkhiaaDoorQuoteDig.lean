/-
  Letters written by their digits: plain facts.
-/
import Derived.Test.YtfpokkpklbkhiaaDoorQuoteFacts
namespace Go.Proofs.YtfpokkpklbkhiaaDoor
set_option linter.unusedVariables false

/-- A digit, small or great. -/
def digG (g : Bool) (n : Nat) : Nat := if n < 10 then 48 + n else if g then 55 + n else 87 + n
/-- A backslash, u, and four digits. -/
def fourL (g : Bool) (n : Nat) : List UInt8 := [92, 117, UInt8.ofNat (digG g (n / 4096 % 16)), UInt8.ofNat (digG g (n / 256 % 16)), UInt8.ofNat (digG g (n / 16 % 16)), UInt8.ofNat (digG g (n % 16))]
/-- A letter by its digits. -/
def digitsL (g : Bool) (r : Nat) : List UInt8 := if r < 65536 then fourL g r else fourL g (55296 + (r - 65536) / 1024) ++ fourL g (56320 + (r - 65536) % 1024)

theorem digG_lt (g : Bool) (n : Nat) (h : n < 16) : digG g n < 256 := by
  unfold digG
  repeat' split
  all_goals omega
theorem valQ_dig (g : Bool) (n : Nat) (h : n < 16) : valQ (digG g n) = some n := by
  unfold valQ digG
  by_cases h1 : n < 10
  · rw [if_pos h1, if_pos (by omega)]
    congr 1
    omega
  · rw [if_neg h1]
    cases g with
    | true =>
      simp only [if_true]
      rw [if_neg (by omega), if_neg (by omega), if_pos (by omega)]
      congr 1
      omega
    | false =>
      simp only [Bool.false_eq_true, if_false]
      rw [if_neg (by omega), if_pos (by omega)]
      congr 1
      omega

theorem numQ_four (g : Bool) (n : Nat) (b : List UInt8) (h : n < 65536) : numQ ((fourL g n).drop 1 ++ b) = some n := by
  show (if (117 : UInt8).toNat = 117 then fourQ (UInt8.ofNat (digG g (n / 4096 % 16))).toNat (UInt8.ofNat (digG g (n / 256 % 16))).toNat (UInt8.ofNat (digG g (n / 16 % 16))).toNat (UInt8.ofNat (digG g (n % 16))).toNat else none) = _
  rw [if_pos (by decide), u8n _ (digG_lt g _ (by omega)), u8n _ (digG_lt g _ (by omega)), u8n _ (digG_lt g _ (by omega)), u8n _ (digG_lt g _ (by omega))]
  unfold fourQ
  rw [valQ_dig g _ (by omega), valQ_dig g _ (by omega), valQ_dig g _ (by omega), valQ_dig g _ (by omega)]
  simp only
  congr 1
  omega

theorem esc_four (g : Bool) (n : Nat) (b : List UInt8) (h : n < 65536) (h2 : n < 55296 ∨ 57343 < n) : escQ ((fourL g n).drop 1 ++ b) = some (n, 6) := by
  have hq := numQ_four g n b h
  show (match backN (117 : UInt8).toNat with | some r => some (r, 2) | none => match numQ ((fourL g n).drop 1 ++ b) with | none => none | some n => if 56320 ≤ n ∧ n ≤ 57343 then none else if n < 55296 ∨ 57343 < n then some (n, 6) else _) = _
  rw [show backN (117 : UInt8).toNat = none from rfl, hq]
  simp only
  rw [if_neg (by omega), if_pos h2]

theorem esc_pair (g : Bool) (n m : Nat) (b : List UInt8) (h : 55296 ≤ n ∧ n ≤ 56319) (h2 : 56320 ≤ m ∧ m ≤ 57343) : escQ ((fourL g n).drop 1 ++ (fourL g m ++ b)) = some (65536 + 1024 * (n - 55296) + (m - 56320), 12) := by
  have hq := numQ_four g n (fourL g m ++ b) (by omega)
  have hm := numQ_four g m b (by omega)
  have hp : pairQ n (fourL g m ++ b) = some (65536 + 1024 * (n - 55296) + (m - 56320)) := by
    show (if (92 : UInt8).toNat = 92 then (match numQ ((fourL g m).drop 1 ++ b) with | some m => if 56320 ≤ m ∧ m ≤ 57343 then some (65536 + 1024 * (n - 55296) + (m - 56320)) else none | none => none) else none) = _
    rw [if_pos (by decide), hm]
    simp only
    rw [if_pos h2]
  show (match backN (117 : UInt8).toNat with | some r => some (r, 2) | none => match numQ ((fourL g n).drop 1 ++ (fourL g m ++ b)) with | none => none | some n => if 56320 ≤ n ∧ n ≤ 57343 then none else if n < 55296 ∨ 57343 < n then some (n, 6) else (pairQ n (fourL g m ++ b)).map fun r => (r, 12)) = _
  rw [show backN (117 : UInt8).toNat = none from rfl, hq]
  simp only
  rw [if_neg (by omega), if_neg (by omega), hp]
  rfl

theorem read_digits (g : Bool) (r : Nat) (hr : letter r) : readQ (34 :: (digitsL g r ++ [34])) = (0, putU r, (digitsL g r).length + 2) := by
  have h1 := hr.1
  show (if some (34 : UInt8) = some 34 then readR (digitsL g r ++ [34]) [] 1 else _) = _
  rw [if_pos rfl]
  have key : ∀ n t, digitsL g r = 92 :: t → t.length + 1 = n → escQ (t ++ [34]) = some (r, n) → readR (digitsL g r ++ [34]) [] 1 = (0, putU r, (digitsL g r).length + 2) := by
    intro n t e hn he
    have hp : pieceQ (digitsL g r ++ [34]) = (0, putU r, n) := by
      rw [e]
      exact pieceQ_esc 92 (t ++ [34]) r n rfl he
    have hh : (digitsL g r ++ [34]).head? ≠ some 34 := by
      rw [e]
      show some (92 : UInt8) ≠ some 34
      decide
    have hd : (digitsL g r ++ [34]).drop n = [34] := by
      rw [e, ← hn]
      show (92 :: t ++ [34]).drop (92 :: t).length = [34]
      rw [List.drop_left]
    rw [readR_step _ _ _ hh (by rw [hp]), hp]
    simp only
    rw [hd, readR_end _ _ _ rfl, List.nil_append, e, List.length_cons]
    congr 2
    omega
  by_cases h : r < 65536
  · have e : digitsL g r = 92 :: (fourL g r).drop 1 := by unfold digitsL; rw [if_pos h]; rfl
    exact key 6 _ e rfl (esc_four g r [34] h hr.2)
  · have e : digitsL g r = 92 :: ((fourL g (55296 + (r - 65536) / 1024)).drop 1 ++ fourL g (56320 + (r - 65536) % 1024)) := by unfold digitsL; rw [if_neg h]; rfl
    refine key 12 _ e rfl ?_
    have hrr : 65536 + 1024 * (55296 + (r - 65536) / 1024 - 55296) + (56320 + (r - 65536) % 1024 - 56320) = r := by omega
    rw [List.append_assoc, esc_pair g _ _ [34] (by omega) (by omega), hrr]
end Go.Proofs.YtfpokkpklbkhiaaDoor
