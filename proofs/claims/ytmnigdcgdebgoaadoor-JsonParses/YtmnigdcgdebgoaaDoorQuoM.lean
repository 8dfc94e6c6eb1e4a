/-
  The document's own short, sign, value, number (package cracknelref07): contracts.
  The document's own escape (package cracknelref07): a contract.
  The document's own escape (package cracknelref07): its walk.
  The document's own Piece and Read (package cracknelref07): contracts.
  The document's own Read (package cracknelref07): a contract.
  The document's own Write (package cracknelref07): a contract.
  Letters written by their digits: plain facts.
-/
import Derived.Test.YtmnigdcgdebgoaaDoorPlainM
import Derived.Test.YtmnigdcgdebgoaaDoorBaseM
import Derived.Test.YtmnigdcgdebgoaaDoorUtfM
namespace Go.Proofs.YtmnigdcgdebgoaaDoor
open Go.RowKit
set_option linter.unusedVariables false

theorem ret_u8q {a b : Int} (h : a = b) : Ending.returned (.int .u8 a) = .returned (.int .u8 b) := by rw [h]

theorem shortN_cases (n : Nat) : (n = 34 ∧ shortN n = 34) ∨ (n = 92 ∧ shortN n = 92) ∨ (n = 8 ∧ shortN n = 98) ∨ (n = 9 ∧ shortN n = 116) ∨ (n = 10 ∧ shortN n = 110) ∨ (n = 12 ∧ shortN n = 102) ∨ (n = 13 ∧ shortN n = 114) ∨ (n ≠ 34 ∧ n ≠ 92 ∧ n ≠ 8 ∧ n ≠ 9 ∧ n ≠ 10 ∧ n ≠ 12 ∧ n ≠ 13 ∧ shortN n = 0) := by
  unfold shortN
  by_cases h1 : n = 34
  · subst h1; simp
  · by_cases h2 : n = 92
    · subst h2; simp
    · by_cases h3 : n = 8
      · subst h3; simp
      · by_cases h4 : n = 9
        · subst h4; simp
        · by_cases h5 : n = 10
          · subst h5; simp
          · by_cases h6 : n = 12
            · subst h6; simp
            · by_cases h7 : n = 13
              · subst h7; simp
              · simp [h1, h2, h3, h4, h5, h6, h7]

set_option maxRecDepth 100000 in
set_option maxHeartbeats 800000 in
theorem rshort_any (n : Nat) (C : Int) (w : World) (hC : C = (n : Int)) :
    Calls Tryd.prog 49 #[.int .u8 C] w fun e w' => e = .returned (.int .u8 (shortN n : Int)) ∧ w = w' := by
  rcases shortN_cases n with ⟨e, h⟩ | ⟨e, h⟩ | ⟨e, h⟩ | ⟨e, h⟩ | ⟨e, h⟩ | ⟨e, h⟩ | ⟨e, h⟩ | ⟨n1, n2, n3, n4, n5, n6, n7, h⟩
  iterate 7
    · have HS := Lib.hid h
      subst e hC
      clear h
      go_enter Tryd.func49, Tryd.ntmps49
      go_wp2
      go_ret
      exact ⟨ret_u8q (by first | (rw [HS.out]; done) | (rw [HS.out]; rfl)), rfl⟩
  · have HS := Lib.hid h
    have m1 : ¬ C = 34 := by omega
    have m2 : ¬ C = 92 := by omega
    have m3 : ¬ C = 8 := by omega
    have m4 : ¬ C = 9 := by omega
    have m5 : ¬ C = 10 := by omega
    have m6 : ¬ C = 12 := by omega
    have m7 : ¬ C = 13 := by omega
    clear h hC n1 n2 n3 n4 n5 n6 n7
    go_enter Tryd.func49, Tryd.ntmps49
    go_wp2
    go_ret
    exact ⟨ret_u8q (by first | (rw [HS.out]; done) | (rw [HS.out]; rfl)), rfl⟩

set_option maxRecDepth 100000 in
set_option maxHeartbeats 400000 in
theorem rsignq_any (n : Nat) (C : Int) (w : World) (hC : C = (n : Int)) (hn : n < 16) :
    Calls Tryd.prog 50 #[.int .u8 C] w fun e w' => e = .returned (.int .u8 (signQ n : Int)) ∧ w = w' := by
  have h0 : 0 ≤ C := by omega
  have h1 : C < 16 := by omega
  have HC := Lib.hid hC
  clear hC
  by_cases h : C < 10
  · go_enter Tryd.func50, Tryd.ntmps50
    go_wp2
    go_ret
    refine ⟨ret_u8q ?_, rfl⟩
    have hC := HC.out
    unfold signQ
    rw [if_pos (by omega)]
    omega
  · go_enter Tryd.func50, Tryd.ntmps50
    go_wp2
    go_ret
    refine ⟨ret_u8q ?_, rfl⟩
    have hC := HC.out
    unfold signQ
    rw [if_neg (by omega)]
    omega

/-- A digit's number, or -1. -/
def valI (n : Nat) : Int := match valQ n with | some v => (v : Int) | none => -1

set_option maxRecDepth 100000 in
set_option maxHeartbeats 800000 in
theorem rvalueq_any (n : Nat) (C : Int) (w : World) (hC : C = (n : Int)) :
    Calls Tryd.prog 124 #[.int .u8 C] w fun e w' => e = .returned (.int .i64 (valI n)) ∧ w = w' := by
  have key : (48 ≤ C ∧ C ≤ 57 ∧ valI n = C - 48) ∨ (¬ (48 ≤ C ∧ C ≤ 57) ∧ 97 ≤ C ∧ C ≤ 102 ∧ valI n = C - 87) ∨ (¬ (48 ≤ C ∧ C ≤ 57) ∧ ¬ (97 ≤ C ∧ C ≤ 102) ∧ 65 ≤ C ∧ C ≤ 70 ∧ valI n = C - 55) ∨ (¬ (48 ≤ C ∧ C ≤ 57) ∧ ¬ (97 ≤ C ∧ C ≤ 102) ∧ ¬ (65 ≤ C ∧ C ≤ 70) ∧ valI n = -1) := by
    unfold valI valQ
    by_cases h1 : 48 ≤ n ∧ n ≤ 57
    · rw [if_pos h1]
      exact .inl ⟨by omega, by omega, by simp only; omega⟩
    · rw [if_neg h1]
      by_cases h2 : 97 ≤ n ∧ n ≤ 102
      · rw [if_pos h2]
        exact .inr (.inl ⟨by omega, by omega, by omega, by simp only; omega⟩)
      · rw [if_neg h2]
        by_cases h3 : 65 ≤ n ∧ n ≤ 70
        · rw [if_pos h3]
          exact .inr (.inr (.inl ⟨by omega, by omega, by omega, by omega, by simp only; omega⟩))
        · rw [if_neg h3]
          exact .inr (.inr (.inr ⟨by omega, by omega, by omega, rfl⟩))
  have HK := Lib.hid key
  have h0 : 0 ≤ C := by omega
  clear key hC
  go_enter Tryd.func124, Tryd.ntmps124
  go_wp2
  all_goals
    go_ret
    refine ⟨ret_i64 ?_, rfl⟩
    have key := HK.out
    omega

/-- Of digits, when acc is had. -/
def foldQ : Nat → List UInt8 → Option Nat
  | acc, [] => some acc
  | acc, c :: t => match valQ c.toNat with | some v => foldQ (16 * acc + v) t | none => none

theorem fourQ_fold (a b c d : UInt8) : fourQ a.toNat b.toNat c.toNat d.toNat = foldQ 0 [a, b, c, d] := by
  unfold fourQ
  simp only [foldQ]
  cases valQ a.toNat with
  | none => rfl
  | some i =>
    cases valQ b.toNat with
    | none => rfl
    | some j =>
      cases valQ c.toNat with
      | none => rfl
      | some k =>
        cases valQ d.toNat with
        | none => rfl
        | some l => simp

/-- A number, or -1. -/
def numI (l : List UInt8) : Int := match numQ l with | some n => (n : Int) | none => -1

theorem numQ_fold (s : ByteArray) (k : Nat) (h : k + 5 ≤ s.size) (hu : s[k].toNat = 117) : numQ (s.data.toList.drop k) = foldQ 0 ((s.data.toList.drop (k + 1)).take (k + 5 - (k + 1))) := by
  rw [drop_cons s k (by omega), drop_cons s (k + 1) (by omega), drop_cons s (k + 1 + 1) (by omega), drop_cons s (k + 1 + 1 + 1) (by omega), drop_cons s (k + 1 + 1 + 1 + 1) (by omega)]
  show (if s[k].toNat = 117 then fourQ s[k + 1].toNat s[k + 1 + 1].toNat s[k + 1 + 1 + 1].toNat s[k + 1 + 1 + 1 + 1].toNat else none) = _
  rw [if_pos hu, fourQ_fold, show k + 5 - (k + 1) = 4 by omega]
  rfl

theorem numQ_short (s : ByteArray) (k : Nat) (h : s.size < k + 5) : numQ (s.data.toList.drop k) = none := by
  have hl : (s.data.toList.drop k).length < 5 := by rw [List.length_drop, list_len]; omega
  match hd : s.data.toList.drop k with
  | [] => rfl
  | [_] => rfl
  | [_, _] => rfl
  | [_, _, _] => rfl
  | [_, _, _, _] => rfl
  | _ :: _ :: _ :: _ :: _ :: _ => rw [hd] at hl; simp at hl; omega
theorem numQ_other (s : ByteArray) (k : Nat) (h : k + 5 ≤ s.size) (hu : s[k].toNat ≠ 117) : numQ (s.data.toList.drop k) = none := by
  rw [drop_cons s k (by omega), drop_cons s (k + 1) (by omega), drop_cons s (k + 1 + 1) (by omega), drop_cons s (k + 1 + 1 + 1) (by omega), drop_cons s (k + 1 + 1 + 1 + 1) (by omega)]
  show (if s[k].toNat = 117 then fourQ s[k + 1].toNat s[k + 1 + 1].toNat s[k + 1 + 1 + 1].toNat s[k + 1 + 1 + 1 + 1].toNat else none) = _
  rw [if_neg hu]

/-- What number holds at place k. -/
def NumAt (s : ByteArray) (at_ : Nat) (n i : Value) : Prop :=
  ∃ acc k : Nat, at_ + 1 ≤ k ∧ k ≤ at_ + 5 ∧ n = .int .i64 (acc : Int) ∧ i = .int .i64 (k : Int) ∧ acc < 16 ^ (k - (at_ + 1)) ∧ numQ (s.data.toList.drop at_) = foldQ acc ((s.data.toList.drop k).take (at_ + 5 - k))

theorem pow16 (j : Nat) (h : j ≤ 4) : 16 ^ j ≤ 65536 := by
  have : j = 0 ∨ j = 1 ∨ j = 2 ∨ j = 3 ∨ j = 4 := by omega
  rcases this with rfl | rfl | rfl | rfl | rfl <;> decide

theorem num_step (s : ByteArray) (at_ acc k v : Nat) (h1 : at_ + 1 ≤ k) (h2 : k < at_ + 5) (h3 : at_ + 5 ≤ s.size) (ha : acc < 16 ^ (k - (at_ + 1))) (hv : valQ (s[k]'(by omega)).toNat = some v) (h : numQ (s.data.toList.drop at_) = foldQ acc ((s.data.toList.drop k).take (at_ + 5 - k))) :
    16 * acc + v < 16 ^ (k + 1 - (at_ + 1)) ∧ numQ (s.data.toList.drop at_) = foldQ (16 * acc + v) ((s.data.toList.drop (k + 1)).take (at_ + 5 - (k + 1))) := by
  have hv16 := valQ_lt _ _ hv
  refine ⟨?_, ?_⟩
  · rw [show k + 1 - (at_ + 1) = (k - (at_ + 1)) + 1 by omega, Nat.pow_succ]
    omega
  · rw [h, drop_cons s k (by omega), show at_ + 5 - k = (at_ + 5 - (k + 1)) + 1 by omega, List.take_succ_cons]
    show (match valQ (s[k]'(by omega)).toNat with | some v => foldQ (16 * acc + v) _ | none => none) = _
    rw [hv]
theorem num_stop (s : ByteArray) (at_ acc k : Nat) (h1 : at_ + 1 ≤ k) (h2 : k < at_ + 5) (h3 : at_ + 5 ≤ s.size) (hv : valQ (s[k]'(by omega)).toNat = none) (h : numQ (s.data.toList.drop at_) = foldQ acc ((s.data.toList.drop k).take (at_ + 5 - k))) :
    numI (s.data.toList.drop at_) = -1 := by
  unfold numI
  rw [h, drop_cons s k (by omega), show at_ + 5 - k = (at_ + 5 - (k + 1)) + 1 by omega, List.take_succ_cons]
  show (match (match valQ (s[k]'(by omega)).toNat with | some v => foldQ (16 * acc + v) _ | none => none) with | some n => (n : Int) | none => -1) = _
  rw [hv]

set_option maxRecDepth 100000 in
set_option maxHeartbeats 1600000 in
theorem rnumber_any (s : ByteArray) (at_ : Nat) (A : Int) (w : World) (hA : A = (at_ : Int)) (hs : s.size ≤ 150000000000000) (ha : at_ ≤ s.size + 100) :
    Calls Tryd.prog 119 #[.string s, .int .i64 A] w fun e w' => e = .returned (.int .i64 (numI (s.data.toList.drop at_))) ∧ w = w' := by
  subst hA
  by_cases h5 : at_ + 5 ≤ s.size
  · have k1 : ¬ (s.size : Int) - (at_ : Int) < 5 := by omega
    have k2 : at_ < s.size := by omega
    have k3 : (at_ : Int) < (s.size : Int) := by omega
    by_cases hu : s[at_].toNat = 117
    · have d1 : (s[at_].toNat : Int) = 117 := by omega
      have HF := Lib.hid (numQ_fold s at_ h5 hu)
      clear hu
      go_enter Tryd.func119, Tryd.ntmps119
      go_wp2
      go_loop [5, 6] (fun n i => NumAt s at_ n i) (fun _ i => at_ + 5 - (intOf i).toNat)
      case atStart => exact ⟨0, at_ + 1, by omega, by omega, rfl, by go_num, by rw [Nat.sub_self]; decide, HF.out⟩
      case round =>
        obtain ⟨acc, k, q1, q2, rfl, rfl, q3, q4⟩ := hrel
        have HQ := Lib.hid q4
        have q5 := pow16 (k - (at_ + 1)) (by omega)
        have q6 : acc < 65536 := by omega
        have HP := Lib.hid q3
        clear q3 q4 q5 d1
        by_cases hk : k < at_ + 5
        · have z1 : k < s.size := by omega
          have z2 : (k : Int) < (at_ : Int) + 5 := by omega
          cases hv : valQ s[k].toNat with
          | none =>
            have HE := Lib.hid (num_stop s at_ acc k q1 hk h5 hv HQ.out)
            have HV : Hid (valI s[k].toNat = -1) := by show _ = _; unfold valI; rw [hv]
            clear hv HQ HP
            go_wp2_with fail
            refine (rvalueq_any s[k].toNat _ _ rfl).mono ?_
            rintro _ w1 ⟨rfl, rfl⟩
            rw [HV.out]
            go_wp2
            go_ret
            exact ⟨ret_i64 HE.out.symm, rfl⟩
          | some v =>
            have hv16 := valQ_lt _ _ hv
            obtain ⟨p1, p2⟩ := num_step s at_ acc k v q1 hk h5 HP.out hv HQ.out
            have P1 := Lib.hid p1
            have P2 := Lib.hid p2
            have HV : Hid (valI s[k].toNat = (v : Int)) := by show _ = _; unfold valI; rw [hv]
            clear hv HQ HP p1 p2
            go_wp2_with fail
            refine (rvalueq_any s[k].toNat _ _ rfl).mono ?_
            rintro _ w1 ⟨rfl, rfl⟩
            rw [HV.out]
            go_wp2_with fail
            refine (rvalueq_any s[k].toNat _ _ rfl).mono ?_
            rintro _ w1 ⟨rfl, rfl⟩
            rw [HV.out]
            go_wp2
            go_round
            case rel => exact ⟨16 * acc + v, k + 1, by omega, by omega, by go_num, by go_num, P1.out, P2.out⟩
            case measure => simp [intOf]; omega
        · have z2 : ¬ (k : Int) < (at_ : Int) + 5 := by omega
          have HE : Hid (numI (s.data.toList.drop at_) = (acc : Int)) := by
            show _ = _
            unfold numI
            rw [HQ.out, show at_ + 5 - k = 0 by omega, List.take_zero]
            rfl
          clear HQ HP
          go_wp2
          go_ret
          exact ⟨ret_i64 HE.out.symm, rfl⟩
    · have d1 : ¬ (s[at_].toNat : Int) = 117 := by omega
      have d2 : ((s[at_].toNat : Int) == 117) = false := by rw [beq_eq_false_iff_ne]; exact d1
      have HE : Hid (numI (s.data.toList.drop at_) = -1) := by show _ = _; unfold numI; rw [numQ_other s at_ h5 hu]
      clear hu
      go_enter Tryd.func119, Tryd.ntmps119
      go_wp2
      go_ret
      exact ⟨ret_i64 HE.out.symm, rfl⟩
  · have k1 : (s.size : Int) - (at_ : Int) < 5 := by omega
    have HE : Hid (numI (s.data.toList.drop at_) = -1) := by show _ = _; unfold numI; rw [numQ_short s at_ (by omega)]
    go_enter Tryd.func119, Tryd.ntmps119
    go_wp2
    go_ret
    exact ⟨ret_i64 HE.out.symm, rfl⟩
end Go.Proofs.YtmnigdcgdebgoaaDoor
namespace Go.Proofs.YtmnigdcgdebgoaaDoor
open Go.RowKit
set_option linter.unusedVariables false

/-- What escape answers. -/
def escV (o : Option (Nat × Nat)) : Value := match o with
  | some (r, n) => .tuple #[.int .i64 (r : Int), .int .i64 (n : Int)]
  | none => .tuple #[.int .i64 0, .int .i64 0]

theorem at_number (s : ByteArray) (at_ : Nat) (A i : Int) (w : World) (hA : A = (at_ : Int)) (hs : s.size ≤ 150000000000000) (ha : at_ ≤ s.size + 100) (hi : numI (s.data.toList.drop at_) = i) :
    Calls Tryd.prog 119 #[.string s, .int .i64 A] w fun e w' => e = .returned (.int .i64 i) ∧ w = w' := by
  subst hi
  exact rnumber_any s at_ A w hA hs ha
theorem at_short (n : Nat) (C i : Int) (w : World) (hC : C = (n : Int)) (hi : (shortN n : Int) = i) :
    Calls Tryd.prog 49 #[.int .u8 C] w fun e w' => e = .returned (.int .u8 i) ∧ w = w' := by
  subst hi
  exact rshort_any n C w hC

theorem escQ_cons (s : ByteArray) (k : Nat) (h : k < s.size) : escQ (s.data.toList.drop k) = match backN s[k].toNat with
    | some r => some (r, 2)
    | none => match numQ (s.data.toList.drop k) with
      | none => none
      | some n => if 56320 ≤ n ∧ n ≤ 57343 then none else if n < 55296 ∨ 57343 < n then some (n, 6) else (pairQ n (s.data.toList.drop (k + 5))).map fun r => (r, 12) := by
  rw [drop_cons s k h]
  show (match backN s[k].toNat with | some r => some (r, 2) | none => match numQ (s[k] :: s.data.toList.drop (k + 1)) with | none => none | some n => if 56320 ≤ n ∧ n ≤ 57343 then none else if n < 55296 ∨ 57343 < n then some (n, 6) else (pairQ n ((s.data.toList.drop (k + 1)).drop 4)).map fun r => (r, 12)) = _
  rw [List.drop_drop, show k + 1 + 4 = k + 5 by omega]

theorem esc_nil (s : ByteArray) (k : Nat) (h : ¬ k < s.size) : escQ (s.data.toList.drop k) = none := by
  rw [List.drop_eq_nil_of_le (by rw [list_len]; omega)]
  rfl
theorem esc_back (s : ByteArray) (k r : Nat) (h : k < s.size) (hb : backN s[k].toNat = some r) : escQ (s.data.toList.drop k) = some (r, 2) := by
  rw [escQ_cons s k h, hb]
theorem esc_no (s : ByteArray) (k : Nat) (h : k < s.size) (hb : backN s[k].toNat = none) (hn : numQ (s.data.toList.drop k) = none) : escQ (s.data.toList.drop k) = none := by
  rw [escQ_cons s k h, hb, hn]
theorem esc_low (s : ByteArray) (k n : Nat) (h : k < s.size) (hb : backN s[k].toNat = none) (hn : numQ (s.data.toList.drop k) = some n) (hr : 56320 ≤ n ∧ n ≤ 57343) : escQ (s.data.toList.drop k) = none := by
  rw [escQ_cons s k h, hb, hn]
  simp only
  rw [if_pos hr]
theorem esc_one (s : ByteArray) (k n : Nat) (h : k < s.size) (hb : backN s[k].toNat = none) (hn : numQ (s.data.toList.drop k) = some n) (hr : n < 55296 ∨ 57343 < n) : escQ (s.data.toList.drop k) = some (n, 6) := by
  rw [escQ_cons s k h, hb, hn]
  simp only
  rw [if_neg (by omega), if_pos hr]
theorem esc_two (s : ByteArray) (k n : Nat) (h : k < s.size) (hb : backN s[k].toNat = none) (hn : numQ (s.data.toList.drop k) = some n) (hr : 55296 ≤ n ∧ n ≤ 56319) : escQ (s.data.toList.drop k) = (pairQ n (s.data.toList.drop (k + 5))).map fun r => (r, 12) := by
  rw [escQ_cons s k h, hb, hn]
  simp only
  rw [if_neg (by omega), if_neg (by omega)]
theorem pair_short (s : ByteArray) (k n : Nat) (h : s.size < k + 6) : pairQ n (s.data.toList.drop k) = none := by
  by_cases hk : k < s.size
  · rw [drop_cons s k hk]
    show (if s[k].toNat = 92 then (match numQ (s.data.toList.drop (k + 1)) with | some m => if 56320 ≤ m ∧ m ≤ 57343 then some (65536 + 1024 * (n - 55296) + (m - 56320)) else none | none => none) else none) = none
    rw [numQ_short s (k + 1) (by omega)]
    simp
  · rw [List.drop_eq_nil_of_le (by rw [list_len]; omega)]
    rfl
theorem pair_cons (s : ByteArray) (k n : Nat) (h : k < s.size) : pairQ n (s.data.toList.drop k) = if s[k].toNat = 92 then (match numQ (s.data.toList.drop (k + 1)) with | some m => if 56320 ≤ m ∧ m ≤ 57343 then some (65536 + 1024 * (n - 55296) + (m - 56320)) else none | none => none) else none := by
  rw [drop_cons s k h]
  rfl

/-- What the loop of escape holds. -/
def EscAt (c : Nat) (i : Value) : Prop := ∃ b : Nat, 8 ≤ b ∧ b ≤ 14 ∧ i = .int .i64 (b : Int) ∧ ∀ d, 8 ≤ d → d < b → ¬ (92 < c ∧ shortN d = c)

theorem back_plain (c : Nat) (h : c = 34 ∨ c = 92 ∨ c = 47) : backN c = some c := by
  unfold backN
  rw [if_pos h]
theorem back_sign (c b : Nat) (h1 : 92 < c) (h2 : 8 ≤ b) (h3 : b < 14) (h : shortN b = c) : backN c = some b := by
  have : b = 8 ∨ b = 9 ∨ b = 10 ∨ b = 11 ∨ b = 12 ∨ b = 13 := by omega
  rcases this with rfl | rfl | rfl | rfl | rfl | rfl
  all_goals
    subst h
    first | rfl | (exfalso; revert h1; decide)
theorem back_none (c : Nat) (h : ¬ (c = 34 ∨ c = 92 ∨ c = 47)) (hd : ∀ d, 8 ≤ d → d < 14 → ¬ (92 < c ∧ shortN d = c)) : backN c = none := by
  unfold backN
  rw [if_neg h]
  repeat' split
  all_goals first
    | rfl
    | (exfalso; rename_i e; first | exact hd 8 (by omega) (by omega) ⟨by omega, by rw [e]; rfl⟩ | exact hd 9 (by omega) (by omega) ⟨by omega, by rw [e]; rfl⟩ | exact hd 10 (by omega) (by omega) ⟨by omega, by rw [e]; rfl⟩ | exact hd 12 (by omega) (by omega) ⟨by omega, by rw [e]; rfl⟩ | exact hd 13 (by omega) (by omega) ⟨by omega, by rw [e]; rfl⟩)
end Go.Proofs.YtmnigdcgdebgoaaDoor
namespace Go.Proofs.YtmnigdcgdebgoaaDoor
open Go.RowKit
set_option linter.unusedVariables false

theorem ret_esc {o : Option (Nat × Nat)} {v : Value} (h : escV o = v) : Ending.returned v = .returned (escV o) := by rw [h]

set_option maxRecDepth 100000 in
set_option maxHeartbeats 3200000 in
theorem rescape_any (s : ByteArray) (at_ : Nat) (A : Int) (w : World) (hA : A = (at_ : Int)) (hs : s.size ≤ 150000000000000) (ha : at_ < s.size) :
    Calls Tryd.prog 111 #[.string s, .int .i64 A] w fun e w' => e = .returned (escV (escQ (s.data.toList.drop (at_ + 1)))) ∧ w = w' := by
  subst hA
  by_cases h1 : at_ + 1 < s.size
  · have k1 : ¬ (s.size : Int) ≤ (at_ : Int) + 1 := by omega
    have k2 : (at_ : Int) + 1 < (s.size : Int) := by omega
    obtain ⟨c, hc⟩ : ∃ c, c = s[at_ + 1].toNat := ⟨_, rfl⟩
    by_cases hp : c = 34 ∨ c = 92 ∨ c = 47
    · have HE := Lib.hid (esc_back s (at_ + 1) c h1 (by rw [← hc]; exact back_plain c hp))
      have e1 : (s[at_ + 1].toNat : Int) = (c : Int) := by omega
      rcases hp with rfl | rfl | rfl
      all_goals
        clear hc
        go_enter Tryd.func111, Tryd.ntmps111
        go_wp2
        go_ret2
        exact ⟨ret_esc (by rw [HE.out]; rfl), rfl⟩
    · have e1 : (s[at_ + 1].toNat : Int) = (c : Int) := by omega
      have n1 : ¬ (c : Int) = 34 := by omega
      have n2 : ¬ (c : Int) = 92 := by omega
      have n3 : ¬ (c : Int) = 47 := by omega
      have c8 : c < 256 := by have := s[at_ + 1].toNat_lt; omega
      have n4 : ((c : Int) == 34) = false := by rw [beq_eq_false_iff_ne]; exact n1
      have n5 : ((c : Int) == 92) = false := by rw [beq_eq_false_iff_ne]; exact n2
      have n6 : ((c : Int) == 47) = false := by rw [beq_eq_false_iff_ne]; exact n3
      have n7 : ¬ c = 34 := by omega
      have n8 : ¬ c = 92 := by omega
      have n9 : ¬ c = 47 := by omega
      have HC := Lib.hid hc
      have HP := Lib.hid hp
      clear hc hp
      go_enter Tryd.func111, Tryd.ntmps111
      go_wp2
      go_loop [7] (fun i => EscAt c i) (fun i => 14 - (intOf i).toNat)
      case atStart => exact ⟨8, by omega, by omega, rfl, fun d h2 h3 => by omega⟩
      case round =>
        obtain ⟨b, b1, b2, rfl, hno⟩ := hrel
        have HN := Lib.hid hno
        clear hno
        by_cases hb : b < 14
        · have z1 : (b : Int) ≤ 13 := by omega
          by_cases h92 : 92 < c
          · have z2 : (92 : Int) < (c : Int) := by omega
            by_cases hm : shortN b = c
            · have HE := Lib.hid (esc_back s (at_ + 1) b h1 (by rw [← HC.out]; exact back_sign c b h92 b1 hb hm))
              clear HN HP
              go_wp2_with fail
              refine (at_short b _ (c : Int) _ (by simp) (by rw [hm])).mono ?_
              rintro _ w1 ⟨rfl, rfl⟩
              go_wp2
              go_ret2
              exact ⟨ret_esc (by rw [HE.out]; rfl), rfl⟩
            · obtain ⟨q, hq⟩ : ∃ q : Int, (shortN b : Int) = q := ⟨_, rfl⟩
              have z3 : ¬ q = (c : Int) := by omega
              have z4 : (q == (c : Int)) = false := by rw [beq_eq_false_iff_ne]; exact z3
              have HQ := Lib.hid hq
              clear hq
              go_wp2_with fail
              refine (at_short b _ q _ (by simp) HQ.out).mono ?_
              rintro _ w1 ⟨rfl, rfl⟩
              go_wp2
              go_round
              case rel =>
                refine ⟨b + 1, by omega, by omega, by go_num, fun d h2 h3 => ?_⟩
                by_cases hd : d = b
                · rw [hd]
                  exact fun h => hm h.2
                · exact HN.out d h2 (by omega)
              case measure => simp [intOf]; omega
          · have z2 : ¬ (92 : Int) < (c : Int) := by omega
            go_wp2
            go_round
            case rel => exact ⟨b + 1, by omega, by omega, by go_num, fun d h2 h3 h => h92 h.1⟩
            case measure => simp [intOf]; omega
        · have z1 : ¬ (b : Int) ≤ 13 := by omega
          have eb : b = 14 := by omega
          have hbn : backN s[at_ + 1].toNat = none := by
            rw [← HC.out]
            exact back_none c HP.out (fun d h2 h3 => HN.out d h2 (by omega))
          clear HN HP eb
          cases hn : numQ (s.data.toList.drop (at_ + 1)) with
          | none =>
            have HE := Lib.hid (esc_no s (at_ + 1) h1 hbn hn)
            have HI : Hid (numI (s.data.toList.drop (at_ + 1)) = -1) := by show _ = _; unfold numI; rw [hn]
            clear hbn hn
            go_wp2_with fail
            refine (at_number s (at_ + 1) _ (-1) _ (by simp) hs (by omega) HI.out).mono ?_
            rintro _ w1 ⟨rfl, rfl⟩
            go_wp2
            go_ret2
            exact ⟨ret_esc (by rw [HE.out]; rfl), rfl⟩
          | some n =>
            have hn6 := (numQ_yes _ _ hn).1
            have HI : Hid (numI (s.data.toList.drop (at_ + 1)) = (n : Int)) := by show _ = _; unfold numI; rw [hn]
            rcases (show (56320 ≤ n ∧ n ≤ 57343) ∨ n < 55296 ∨ 57343 < n ∨ (55296 ≤ n ∧ n ≤ 56319) from by omega) with hr | hr | hr | hr
            · have HE := Lib.hid (esc_low s (at_ + 1) n h1 hbn hn hr)
              have r1 : (56320 : Int) ≤ (n : Int) := by omega
              have r2 : (n : Int) ≤ 57343 := by omega
              obtain ⟨N, hN⟩ : ∃ N : Int, (n : Int) = N := ⟨_, rfl⟩
              rw [hN] at HI r1 r2
              have r3 : ¬ N < 0 := by omega
              clear hbn hn hr hn6 hN
              go_wp2_with fail
              refine (at_number s (at_ + 1) _ N _ (by simp) hs (by omega) HI.out).mono ?_
              rintro _ w1 ⟨rfl, rfl⟩
              go_wp2
              go_ret2
              exact ⟨ret_esc (by rw [HE.out]; rfl), rfl⟩
            · have HE := Lib.hid (esc_one s (at_ + 1) n h1 hbn hn (.inl hr))
              obtain ⟨N, hN⟩ : ∃ N : Int, (n : Int) = N := ⟨_, rfl⟩
              rw [hN] at HI
              have r1 : ¬ (56320 : Int) ≤ N := by omega
              have r2 : N < 55296 := by omega
              have r3 : ¬ N < 0 := by omega
              have HNN := Lib.hid hN
              clear hbn hn hr hn6 hN
              go_wp2_with fail
              refine (at_number s (at_ + 1) _ N _ (by simp) hs (by omega) HI.out).mono ?_
              rintro _ w1 ⟨rfl, rfl⟩
              go_wp2
              go_ret2
              exact ⟨ret_esc (by rw [HE.out, ← HNN.out]; rfl), rfl⟩
            · have HE := Lib.hid (esc_one s (at_ + 1) n h1 hbn hn (.inr hr))
              obtain ⟨N, hN⟩ : ∃ N : Int, (n : Int) = N := ⟨_, rfl⟩
              rw [hN] at HI
              have r1 : (56320 : Int) ≤ N := by omega
              have r2 : ¬ N ≤ 57343 := by omega
              have r3 : ¬ N < 0 := by omega
              have r4 : ¬ N < 55296 := by omega
              have r5 : (57343 : Int) < N := by omega
              have HNN := Lib.hid hN
              clear hbn hn hr hn6 hN
              go_wp2_with fail
              refine (at_number s (at_ + 1) _ N _ (by simp) hs (by omega) HI.out).mono ?_
              rintro _ w1 ⟨rfl, rfl⟩
              go_wp2
              go_ret2
              exact ⟨ret_esc (by rw [HE.out, ← HNN.out]; rfl), rfl⟩
            · have HE := Lib.hid (esc_two s (at_ + 1) n h1 hbn hn hr)
              rw [show at_ + 1 + 5 = at_ + 6 by omega] at HE
              obtain ⟨N, hN⟩ : ∃ N : Int, (n : Int) = N := ⟨_, rfl⟩
              rw [hN] at HI
              have r1 : ¬ (56320 : Int) ≤ N := by omega
              have r3 : ¬ N < 0 := by omega
              have r4 : ¬ N < 55296 := by omega
              have r5 : ¬ (57343 : Int) < N := by omega
              have r6 : N ≤ 56319 := by omega
              have r7 : (55296 : Int) ≤ N := by omega
              have HNN := Lib.hid hN
              clear hbn hn hr hn6 hN
              by_cases h12 : at_ + 12 ≤ s.size
              · have t1 : ¬ (s.size : Int) - (at_ : Int) < 12 := by omega
                have t2 : at_ + 6 < s.size := by omega
                have t3 : (at_ : Int) + 6 < (s.size : Int) := by omega
                have hpc := pair_cons s (at_ + 6) n t2
                rw [show at_ + 6 + 1 = at_ + 7 by omega] at hpc
                by_cases h6 : s[at_ + 6].toNat = 92
                · have t4 : (s[at_ + 6].toNat : Int) = 92 := by omega
                  rw [if_pos h6] at hpc
                  clear h6
                  cases hm : numQ (s.data.toList.drop (at_ + 7)) with
                  | none =>
                    have HE2 : Hid (escQ (s.data.toList.drop (at_ + 1)) = none) := by show _ = _; rw [HE.out, hpc, hm]; rfl
                    have HJ : Hid (numI (s.data.toList.drop (at_ + 7)) = -1) := by show _ = _; unfold numI; rw [hm]
                    clear hpc hm HE
                    go_wp2_with fail
                    refine (at_number s (at_ + 1) _ N _ (by simp) hs (by omega) HI.out).mono ?_
                    rintro _ w1 ⟨rfl, rfl⟩
                    go_wp2_with fail
                    refine (at_number s (at_ + 7) _ (-1) _ (by simp) hs (by omega) HJ.out).mono ?_
                    rintro _ w1 ⟨rfl, rfl⟩
                    go_wp2
                    go_ret2
                    exact ⟨ret_esc (by rw [HE2.out]; rfl), rfl⟩
                  | some m =>
                    have hm6 := (numQ_yes _ _ hm).1
                    obtain ⟨M, hM⟩ : ∃ M : Int, (m : Int) = M := ⟨_, rfl⟩
                    have HJ : Hid (numI (s.data.toList.drop (at_ + 7)) = M) := by show _ = _; unfold numI; rw [hm]; exact hM
                    rcases (show m < 56320 ∨ 57343 < m ∨ (56320 ≤ m ∧ m ≤ 57343) from by omega) with hr | hr | hr
                    · have HE2 : Hid (escQ (s.data.toList.drop (at_ + 1)) = none) := by show _ = _; rw [HE.out, hpc, hm]; simp only; rw [if_neg (by omega)]; rfl
                      have u1 : M < 56320 := by omega
                      clear hpc hm HE hM hm6 hr
                      go_wp2_with fail
                      refine (at_number s (at_ + 1) _ N _ (by simp) hs (by omega) HI.out).mono ?_
                      rintro _ w1 ⟨rfl, rfl⟩
                      go_wp2_with fail
                      refine (at_number s (at_ + 7) _ M _ (by simp) hs (by omega) HJ.out).mono ?_
                      rintro _ w1 ⟨rfl, rfl⟩
                      go_wp2
                      go_ret2
                      exact ⟨ret_esc (by rw [HE2.out]; rfl), rfl⟩
                    · have HE2 : Hid (escQ (s.data.toList.drop (at_ + 1)) = none) := by show _ = _; rw [HE.out, hpc, hm]; simp only; rw [if_neg (by omega)]; rfl
                      have u1 : ¬ M < 56320 := by omega
                      have u2 : (57343 : Int) < M := by omega
                      clear hpc hm HE hM hm6 hr
                      go_wp2_with fail
                      refine (at_number s (at_ + 1) _ N _ (by simp) hs (by omega) HI.out).mono ?_
                      rintro _ w1 ⟨rfl, rfl⟩
                      go_wp2_with fail
                      refine (at_number s (at_ + 7) _ M _ (by simp) hs (by omega) HJ.out).mono ?_
                      rintro _ w1 ⟨rfl, rfl⟩
                      go_wp2
                      go_ret2
                      exact ⟨ret_esc (by rw [HE2.out]; rfl), rfl⟩
                    · obtain ⟨r, hrr⟩ : ∃ r, 65536 + 1024 * (n - 55296) + (m - 56320) = r := ⟨_, rfl⟩
                      have HE2 : Hid (escQ (s.data.toList.drop (at_ + 1)) = some (r, 12)) := by show _ = _; rw [HE.out, hpc, hm]; simp only; rw [if_pos hr, hrr]; rfl
                      have HV : Hid ((r : Int) = 65536 + 1024 * (N - 55296) + M - 56320) := by
                        show _ = _
                        have := HNN.out
                        omega
                      clear hrr
                      have u1 : ¬ M < 56320 := by omega
                      have u2 : ¬ (57343 : Int) < M := by omega
                      have u3 : M ≤ 57343 := by omega
                      have u4 : 56320 ≤ M := by omega
                      clear hpc hm HE hM hm6 hr
                      go_wp2_with fail
                      refine (at_number s (at_ + 1) _ N _ (by simp) hs (by omega) HI.out).mono ?_
                      rintro _ w1 ⟨rfl, rfl⟩
                      go_wp2_with fail
                      refine (at_number s (at_ + 7) _ M _ (by simp) hs (by omega) HJ.out).mono ?_
                      rintro _ w1 ⟨rfl, rfl⟩
                      go_wp2
                      go_ret2
                      refine ⟨ret_esc ?_, rfl⟩
                      rw [HE2.out]
                      show Value.tuple #[.int .i64 (r : Int), .int .i64 ((12 : Nat) : Int)] = _
                      rw [HV.out]
                      rfl
                · have t4 : ¬ (s[at_ + 6].toNat : Int) = 92 := by omega
                  have t5 : ((s[at_ + 6].toNat : Int) != 92) = true := by rw [bne_iff_ne]; exact t4
                  have HE2 : Hid (escQ (s.data.toList.drop (at_ + 1)) = none) := by show _ = _; rw [HE.out, hpc, if_neg h6]; rfl
                  clear hpc h6 HE
                  go_wp2_with fail
                  refine (at_number s (at_ + 1) _ N _ (by simp) hs (by omega) HI.out).mono ?_
                  rintro _ w1 ⟨rfl, rfl⟩
                  go_wp2
                  go_ret2
                  exact ⟨ret_esc (by rw [HE2.out]; rfl), rfl⟩
              · have t1 : (s.size : Int) - (at_ : Int) < 12 := by omega
                have HE2 : Hid (escQ (s.data.toList.drop (at_ + 1)) = none) := by show _ = _; rw [HE.out, pair_short s (at_ + 6) n (by omega)]; rfl
                clear HE
                go_wp2_with fail
                refine (at_number s (at_ + 1) _ N _ (by simp) hs (by omega) HI.out).mono ?_
                rintro _ w1 ⟨rfl, rfl⟩
                go_wp2
                go_ret2
                exact ⟨ret_esc (by rw [HE2.out]; rfl), rfl⟩
  · have k1 : (s.size : Int) ≤ (at_ : Int) + 1 := by omega
    have HE := Lib.hid (esc_nil s (at_ + 1) h1)
    go_enter Tryd.func111, Tryd.ntmps111
    go_wp2
    go_ret2
    exact ⟨ret_esc (by rw [HE.out]; rfl), rfl⟩
end Go.Proofs.YtmnigdcgdebgoaaDoor
namespace Go.Proofs.YtmnigdcgdebgoaaDoor
open Go.RowKit
set_option linter.unusedVariables false

/-- What Piece, and Read, answer. -/
def pieceW (p : Nat × List UInt8 × Nat) : Value := .tuple #[.string ⟨p.2.1.toArray⟩, .int .i64 (p.2.2 : Int), .int .i64 (p.1 : Int)]

theorem ret_piece {p : Nat × List UInt8 × Nat} {v : Value} (h : pieceW p = v) : Ending.returned v = .returned (pieceW p) := by rw [h]

theorem piece_nil (s : ByteArray) (k : Nat) (h : ¬ k < s.size) : pieceQ (s.data.toList.drop k) = (71, [], 0) := by
  rw [List.drop_eq_nil_of_le (by rw [list_len]; omega)]
  rfl
theorem piece_cons (s : ByteArray) (k : Nat) (h : k < s.size) : pieceQ (s.data.toList.drop k) =
    if s[k].toNat < 32 then (72, [], 0)
    else if s[k].toNat = 92 then (match escQ (s.data.toList.drop (k + 1)) with | some (r, n) => (0, putU r, n) | none => (73, [], 0))
    else if (takeU (s.data.toList.drop k)).2.2 = true then (0, (s.data.toList.drop k).take (takeU (s.data.toList.drop k)).2.1, (takeU (s.data.toList.drop k)).2.1) else (74, [], 0) := by
  have e := drop_cons s k h
  rw [e]
  rfl

theorem rest_of (s : ByteArray) (p : Nat) : (s.extract p s.size).data.toList = s.data.toList.drop p := by
  rw [extract_list, List.take_of_length_le]
  rw [List.length_drop, list_len]
  omega

set_option maxRecDepth 100000 in
set_option maxHeartbeats 1600000 in
theorem rpiece_any (s : ByteArray) (at_ : Nat) (A : Int) (w : World) (hA : A = (at_ : Int)) (hs : s.size ≤ 150000000000000) (ha : at_ ≤ s.size) :
    Calls Tryd.prog 98 #[.string s, .int .i64 A] w fun e w' => e = .returned (pieceW (pieceQ (s.data.toList.drop at_))) ∧ Below w.heap.size w w' := by
  subst hA
  by_cases h1 : at_ < s.size
  · have k1 : ¬ (s.size : Int) ≤ (at_ : Int) := by omega
    have k2 : (at_ : Int) < (s.size : Int) := by omega
    have hp := piece_cons s at_ h1
    by_cases h32 : s[at_].toNat < 32
    · have HE : Hid (pieceQ (s.data.toList.drop at_) = (72, [], 0)) := by show _ = _; rw [hp, if_pos h32]
      have d1 : (s[at_].toNat : Int) < 32 := by omega
      clear hp h32
      go_enter Tryd.func98, Tryd.ntmps98
      go_wp2
      go_ret3
      exact ⟨ret_piece (by rw [HE.out]; rfl), Below.refl _ _⟩
    · have d1 : ¬ (s[at_].toNat : Int) < 32 := by omega
      rw [if_neg h32] at hp
      by_cases h92 : s[at_].toNat = 92
      · rw [if_pos h92] at hp
        have d2 : (s[at_].toNat : Int) = 92 := by omega
        clear h32 h92 d1
        cases he : escQ (s.data.toList.drop (at_ + 1)) with
        | none =>
          have HE : Hid (pieceQ (s.data.toList.drop at_) = (73, [], 0)) := by show _ = _; rw [hp, he]
          have HS : Hid (escV (escQ (s.data.toList.drop (at_ + 1))) = .tuple #[.int .i64 0, .int .i64 0]) := by show _ = _; rw [he]; rfl
          clear hp he
          go_enter Tryd.func98, Tryd.ntmps98
          go_wp2_with fail
          refine (rescape_any s at_ _ _ rfl hs h1).mono ?_
          rintro _ w1 ⟨rfl, rfl⟩
          rw [HS.out]
          go_wp2
          go_ret3
          exact ⟨ret_piece (by rw [HE.out]; rfl), Below.refl _ _⟩
        | some p =>
          obtain ⟨r, n⟩ := p
          obtain ⟨e1, e2, e3, _⟩ := escQ_yes _ _ _ he
          have HE : Hid (pieceQ (s.data.toList.drop at_) = (0, putU r, n)) := by show _ = _; rw [hp, he]
          have HS : Hid (escV (escQ (s.data.toList.drop (at_ + 1))) = .tuple #[.int .i64 (r : Int), .int .i64 (n : Int)]) := by show _ = _; rw [he]; rfl
          have m1 : ¬ (n : Int) = 0 := by omega
          have m2 : ((n : Int) == 0) = false := by rw [beq_eq_false_iff_ne]; exact m1
          have m3 : ¬ n = 0 := by omega
          have HL := Lib.hid e1
          obtain ⟨R, hR⟩ : ∃ R : Int, R = (r : Int) := ⟨_, rfl⟩
          rw [← hR] at HS
          have HR := Lib.hid hR
          clear hp he e1 e2 e3 hR
          go_enter Tryd.func98, Tryd.ntmps98
          go_wp2_with fail
          refine (rescape_any s at_ _ _ rfl hs h1).mono ?_
          rintro _ w1 ⟨rfl, rfl⟩
          rw [HS.out]
          go_wp2_with fail
          refine (at_rputu r R _ HR.out HL.out).mono ?_
          rintro _ w1 ⟨rfl, hb1⟩
          go_wp2
          go_ret3
          exact ⟨ret_piece (by rw [HE.out]; rfl), hb1⟩
      · rw [if_neg h92] at hp
        have d2 : ¬ (s[at_].toNat : Int) = 92 := by omega
        have d3 : ((s[at_].toNat : Int) == 92) = false := by rw [beq_eq_false_iff_ne]; exact d2
        clear h32 h92
        obtain ⟨r, n, b, ht⟩ : ∃ r n b, takeU (s.data.toList.drop at_) = (r, n, b) := ⟨_, _, _, rfl⟩
        rw [ht] at hp
        have HT : Hid (takeU (s.extract at_ s.size).data.toList = (r, n, b)) := by show _ = _; rw [rest_of]; exact ht
        have hz : (s.extract at_ s.size).size ≤ maxLen := by
          rw [← list_len, rest_of, List.length_drop, list_len]
          unfold maxLen
          omega
        have HZ := Lib.hid hz
        cases b with
        | false =>
          have HE : Hid (pieceQ (s.data.toList.drop at_) = (74, [], 0)) := by show _ = _; rw [hp]; rfl
          clear hp ht hz
          go_enter Tryd.func98, Tryd.ntmps98
          go_wp2_with fail
          refine (rtakeu_any _ r n false _ HZ.out HT.out).mono ?_
          rintro _ w1 ⟨rfl, hb1⟩
          go_wp2
          go_ret3
          exact ⟨ret_piece (by rw [HE.out]; rfl), hb1⟩
        | true =>
          obtain ⟨y1, y2, y3, y4, y5, y6⟩ := takeU_yes _ _ _ ht
          rw [List.length_drop, list_len] at y6
          have HE : Hid (pieceQ (s.data.toList.drop at_) = (0, (s.data.toList.drop at_).take n, n)) := by show _ = _; rw [hp]; rfl
          have z1 : (at_ : Int) + (n : Int) ≤ (s.size : Int) := by omega
          have z2 : at_ + n ≤ s.size := by omega
          clear hp ht hz y1 y2 y3
          go_enter Tryd.func98, Tryd.ntmps98
          go_wp2_with fail
          refine (rtakeu_any _ r n true _ HZ.out HT.out).mono ?_
          rintro _ w1 ⟨rfl, hb1⟩
          go_wp2
          go_ret3
          refine ⟨ret_piece ?_, hb1⟩
          rw [HE.out]
          have e : (⟨((s.data.toList.drop at_).take n).toArray⟩ : ByteArray) = s.extract at_ (at_ + n) := by
            apply ba_ext
            rw [extract_list, show at_ + n - at_ = n by omega]
          show Value.tuple #[.string ⟨((s.data.toList.drop at_).take n).toArray⟩, .int .i64 (n : Int), .int .i64 ((0 : Nat) : Int)] = _
          rw [e]
          rfl
  · have k1 : (s.size : Int) ≤ (at_ : Int) := by omega
    have HE := Lib.hid (piece_nil s at_ h1)
    go_enter Tryd.func98, Tryd.ntmps98
    go_wp2
    go_ret3
    exact ⟨ret_piece (by rw [HE.out]; rfl), Below.refl _ _⟩
end Go.Proofs.YtmnigdcgdebgoaaDoor
namespace Go.Proofs.YtmnigdcgdebgoaaDoor
open Go.RowKit
set_option linter.unusedVariables false

/-- What Read holds: out is had, at bytes are read. -/
def ReadsAt (s : ByteArray) (g : Nat) (w0 : World) (out at_ : Value) (wr : World) : Prop :=
  ∃ (o : List UInt8) (k : Nat), out = .string ⟨o.toArray⟩ ∧ at_ = .int .i64 (k : Int) ∧ 1 ≤ k ∧ k ≤ s.size ∧ o.length ≤ 4 * k ∧ readQ s.data.toList = readR (s.data.toList.drop k) o k ∧ Below g w0 wr

theorem bytes_size (l : List UInt8) : (⟨l.toArray⟩ : ByteArray).size = l.length := by
  show l.toArray.size = _
  rw [List.size_toArray]
theorem bytes_app (a b : List UInt8) : (⟨a.toArray⟩ : ByteArray) ++ ⟨b.toArray⟩ = ⟨(a ++ b).toArray⟩ := by
  apply ba_ext
  rw [app_list]

theorem head_drop (s : ByteArray) (k : Nat) (h : k < s.size) : (s.data.toList.drop k).head? = some s[k] := by
  rw [drop_cons s k h]
  rfl
theorem head_end (s : ByteArray) (k : Nat) (h : ¬ k < s.size) : (s.data.toList.drop k).head? = none := by
  rw [List.drop_eq_nil_of_le (by rw [list_len]; omega)]
  rfl

set_option maxRecDepth 100000 in
set_option maxHeartbeats 1600000 in
theorem rread_any (s : ByteArray) (w : World) (hs : s.size ≤ 150000000000000) :
    Calls Tryd.prog 84 #[.string s] w fun e w' => e = .returned (pieceW (readQ s.data.toList)) ∧ Below w.heap.size w w' := by
  by_cases h0 : 0 < s.size
  · have d0 : ((s.size : Int) == 0) = false := by rw [beq_eq_false_iff_ne]; omega
    have d9 : ¬ (s.size : Int) = 0 := by omega
    have d8 : ¬ s.size = 0 := by omega
    have hh : s.data.toList.head? = some s[0] := by
      have := head_drop s 0 h0
      rw [List.drop_zero] at this
      exact this
    by_cases h34 : s[0].toNat = 34
    · have d1 : (s[0].toNat : Int) = 34 := by omega
      have e34 : s[0] = 34 := UInt8.toNat.inj h34
      have HQ : Hid (readQ s.data.toList = readR (s.data.toList.drop 1) [] 1) := by
        show _ = _
        unfold readQ
        rw [hh, e34, if_pos rfl, List.drop_one]
      clear hh h34 e34
      go_enter Tryd.func84, Tryd.ntmps84
      go_wp2
      go_loopw [5, 6] (fun out k wr => ReadsAt s w.heap.size w out k wr) (fun _ k _ => s.size - (intOf k).toNat)
      case atStart => exact ⟨[], 1, rfl, rfl, by omega, by omega, by simp, HQ.out, Below.refl _ _⟩
      case round =>
        obtain ⟨o, k, rfl, rfl, q1, q2, q3, q4, hbe⟩ := hrel
        have H4 := Lib.hid q4
        have hos := bytes_size o
        clear q4 HQ d1
        by_cases hend : ∃ h : k < s.size, (s[k]'h).toNat = 34
        · obtain ⟨hk, he⟩ := hend
          have HE : Hid (readQ s.data.toList = (0, o, k + 1)) := by
            show _ = _
            rw [H4.out, readR_end]
            rw [head_drop s k hk]
            congr 1
            exact UInt8.toNat.inj he
          have z1 : (s[k].toNat : Int) = 34 := by omega
          have z2 : ¬ (s.size : Int) ≤ (k : Int) := by omega
          clear H4 he hos
          go_wp2
          go_ret3
          refine ⟨ret_piece ?_, hbe⟩
          rw [HE.out]
          show Value.tuple #[.string ⟨o.toArray⟩, .int .i64 ((k + 1 : Nat) : Int), .int .i64 ((0 : Nat) : Int)] = _
          rfl
        · have hne : (s.data.toList.drop k).head? ≠ some 34 := by
            by_cases hk : k < s.size
            · rw [head_drop s k hk]
              intro e
              have e2 := Option.some.inj e
              exact hend ⟨hk, by rw [e2]; rfl⟩
            · rw [head_end s k hk]
              simp
          obtain ⟨e, bs, n, hp⟩ : ∃ e bs n, pieceQ (s.data.toList.drop k) = (e, bs, n) := ⟨_, _, _, rfl⟩
          have HP : Hid (pieceW (pieceQ (s.data.toList.drop k)) = .tuple #[.string ⟨bs.toArray⟩, .int .i64 (n : Int), .int .i64 (e : Int)]) := by show _ = _; rw [hp]; rfl
          have hstep : e = 0 → readQ s.data.toList = readR (s.data.toList.drop (k + n)) (o ++ bs) (k + n) ∧ 1 ≤ n ∧ k + n ≤ s.size ∧ bs.length ≤ 4 ∧ k < s.size := by
            intro he
            subst he
            have h0' : (pieceQ (s.data.toList.drop k)).1 = 0 := by rw [hp]
            obtain ⟨⟨r, hr, hb⟩, p2, p3, _⟩ := pieceQ_yes _ h0'
            rw [hp] at hb p2 p3
            rw [List.length_drop, list_len] at p3
            have hst := readR_step _ o k hne h0'
            rw [hp] at hst
            simp only at hst hb p2 p3
            refine ⟨by rw [H4.out, hst, List.drop_drop], p2, by omega, by rw [hb]; exact (putU_len r).2, by omega⟩
          have herr : e ≠ 0 → readQ s.data.toList = (e, [], 0) := by
            intro he
            rw [H4.out, readR_err _ o k hne (by rw [hp]; exact he), hp]
          have HST := Lib.hid hstep
          have HER := Lib.hid herr
          clear hstep herr hp hne H4
          by_cases he : e = 0
          · obtain ⟨g1, g2, g3, g4, g5⟩ := HST.out he
            have G1 := Lib.hid g1
            have z1 : ¬ (s[k].toNat : Int) = 34 := fun h => hend ⟨g5, by omega⟩
            have z2 : ((s[k].toNat : Int) != 34) = true := by rw [bne_iff_ne]; exact z1
            have z3 : ¬ (s.size : Int) ≤ (k : Int) := by omega
            have hbs := bytes_size bs
            have HA := Lib.hid (bytes_app o bs)
            have y1 : (⟨o.toArray⟩ : ByteArray).size + (⟨bs.toArray⟩ : ByteArray).size ≤ 9223372036854775807 := by rw [hos, hbs]; omega
            obtain ⟨O, hO⟩ : ∃ O : ByteArray, (⟨o.toArray⟩ : ByteArray) = O := ⟨_, rfl⟩
            obtain ⟨T, hT⟩ : ∃ T : ByteArray, (⟨bs.toArray⟩ : ByteArray) = T := ⟨_, rfl⟩
            rw [hO, hT] at y1 HA
            rw [hT] at HP
            rw [hO]
            subst he
            clear hend g1 hos hbs HST HER hO hT
            go_wp2_with fail
            refine (rpiece_any s k _ _ rfl hs q2).mono ?_
            rintro _ w1 ⟨rfl, hb1⟩
            rw [HP.out]
            have hbe1 := hbe.trans (hb1.mono hbe.size)
            clear hb1 hbe
            go_wp2
            go_roundw
            case rel => exact ⟨o ++ bs, k + n, by rw [HA.out], by go_num, by omega, g3, by rw [List.length_append]; omega, G1.out, hbe1⟩
            case measure => simp [intOf]; omega
          · have HE := Lib.hid (HER.out he)
            have z4 : ¬ (e : Int) = 0 := by omega
            have z5 : ((e : Int) == 0) = false := by rw [beq_eq_false_iff_ne]; exact z4
            have z6 : ((e : Int) != 0) = true := by rw [bne_iff_ne]; exact z4
            clear HST HER hos
            by_cases hk : k < s.size
            · have z1 : ¬ (s[k].toNat : Int) = 34 := fun h => hend ⟨hk, by omega⟩
              have z2 : ((s[k].toNat : Int) != 34) = true := by rw [bne_iff_ne]; exact z1
              have z3 : ¬ (s.size : Int) ≤ (k : Int) := by omega
              clear hend
              go_wp2_with fail
              refine (rpiece_any s k _ _ rfl hs q2).mono ?_
              rintro _ w1 ⟨rfl, hb1⟩
              rw [HP.out]
              have hbe1 := hbe.trans (hb1.mono hbe.size)
              go_wp2
              go_ret3
              exact ⟨ret_piece (by rw [HE.out]; rfl), hbe1⟩
            · have z3 : (s.size : Int) ≤ (k : Int) := by omega
              clear hend
              go_wp2_with fail
              refine (rpiece_any s k _ _ rfl hs q2).mono ?_
              rintro _ w1 ⟨rfl, hb1⟩
              rw [HP.out]
              have hbe1 := hbe.trans (hb1.mono hbe.size)
              go_wp2
              go_ret3
              exact ⟨ret_piece (by rw [HE.out]; rfl), hbe1⟩
    · have d1 : ¬ (s[0].toNat : Int) = 34 := by omega
      have d2 : ((s[0].toNat : Int) != 34) = true := by rw [bne_iff_ne]; exact d1
      have HE : Hid (readQ s.data.toList = (70, [], 0)) := by
        show _ = _
        unfold readQ
        rw [hh, if_neg]
        intro e
        have e2 := Option.some.inj e
        exact h34 (by rw [e2]; rfl)
      clear hh h34
      go_enter Tryd.func84, Tryd.ntmps84
      go_wp2
      go_ret3
      exact ⟨ret_piece (by rw [HE.out]; rfl), Below.refl _ _⟩
  · have d0 : (s.size : Int) = 0 := by omega
    have HE : Hid (readQ s.data.toList = (70, [], 0)) := by
      show _ = _
      have e : s.data.toList = [] := List.eq_nil_of_length_eq_zero (by rw [list_len]; omega)
      rw [e]
      rfl
    go_enter Tryd.func84, Tryd.ntmps84
    go_wp2
    go_ret3
    exact ⟨ret_piece (by rw [HE.out]; rfl), Below.refl _ _⟩
end Go.Proofs.YtmnigdcgdebgoaaDoor
namespace Go.Proofs.YtmnigdcgdebgoaaDoor
open Go.RowKit
set_option linter.unusedVariables false

/-- What Write answers. -/
def quoteV (s : ByteArray) : Value := if validB s = true then .tuple #[.string ⟨(quoteL s.data.toList).toArray⟩, .bool true] else .tuple #[.string ByteArray.empty, .bool false]

/-- What Write holds at place k. -/
def WritesAt (s : ByteArray) (g : Nat) (w0 : World) (out i : Value) (wr : World) : Prop :=
  ∃ k : Nat, k ≤ s.size ∧ i = .int .i64 (k : Int) ∧ RowB wr g out (34 :: innerL (s.data.toList.take k)) ∧ Below g w0 wr ∧ g ≤ wr.heap.size

theorem innerL_snoc (l : List UInt8) (c : UInt8) : innerL (l ++ [c]) = innerL l ++ pieceL c := by
  unfold innerL
  rw [List.flatMap_append]
  simp
theorem pieceL_len (c : UInt8) : (pieceL c).length ≤ 6 := by
  unfold pieceL
  repeat' split
  all_goals simp
theorem innerL_len (l : List UInt8) : (innerL l).length ≤ 6 * l.length := by
  induction l with
  | nil => simp [innerL]
  | cons c t ih =>
    have := pieceL_len c
    show (pieceL c ++ innerL t).length ≤ 6 * (t.length + 1)
    rw [List.length_append]
    omega

theorem shortN_lt (n : Nat) : shortN n < 256 := by
  rcases shortN_cases n with ⟨_, h⟩ | ⟨_, h⟩ | ⟨_, h⟩ | ⟨_, h⟩ | ⟨_, h⟩ | ⟨_, h⟩ | ⟨_, h⟩ | ⟨_, _, _, _, _, _, _, h⟩ <;> omega
theorem signQ_lt (n : Nat) (h : n < 16) : signQ n < 256 := by
  unfold signQ
  split <;> omega

theorem at_sign (n : Nat) (C i : Int) (w : World) (hC : C = (n : Int)) (hn : n < 16) (hi : (signQ n : Int) = i) :
    Calls Tryd.prog 50 #[.int .u8 C] w fun e w' => e = .returned (.int .u8 i) ∧ w = w' := by
  subst hi
  exact rsignq_any n C w hC hn

set_option maxRecDepth 100000 in
set_option maxHeartbeats 1600000 in
theorem rwrite_any (s : ByteArray) (w : World) (hs : s.size ≤ 1000000000000) :
    Calls Tryd.prog 23 #[.string s] w fun e w' => e = .returned (quoteV s) ∧ Below w.heap.size w w' := by
  cases hv : validB s with
  | false =>
    have HE : Hid (quoteV s = .tuple #[.string ByteArray.empty, .bool false]) := by show _ = _; unfold quoteV; rw [hv]; rfl
    have HV := Lib.hid hv
    clear hv
    go_enter Tryd.func23, Tryd.ntmps23
    go_wp2_with fail
    refine (rvalid_any s _ hs).mono ?_
    rintro _ w1 ⟨rfl, hb1⟩
    rw [HV.out]
    go_wp2
    go_ret2
    rw [HE.out]
    exact ⟨rfl, hb1⟩
  | true =>
    have HE : Hid (quoteV s = .tuple #[.string ⟨(quoteL s.data.toList).toArray⟩, .bool true]) := by show _ = _; unfold quoteV; rw [hv]; rfl
    have HV := Lib.hid hv
    have HL := Lib.hid (list_len s)
    clear hv
    go_enter Tryd.func23, Tryd.ntmps23
    go_wp2_with fail
    refine (rvalid_any s _ hs).mono ?_
    rintro _ w1 ⟨rfl, hb1⟩
    rw [HV.out]
    have hz1 := hb1.size
    go_wp2
    go_loopw [4, 5] (fun out i wr => WritesAt s w1.heap.size w1 out i wr) (fun _ i _ => s.size - (intOf i).toNat)
    case atStart => exact ⟨0, by omega, rfl, RowB.made w1 [34] _ rfl (by decide), (Below.refl _ _).alloc (Nat.le_refl _) _, by simp⟩
    case round =>
      obtain ⟨k, hk, rfl, hrow, hbe, hge⟩ := hrel
      have HR := Lib.hid hrow
      have hil := innerL_len (s.data.toList.take k)
      have hil2 : (s.data.toList.take k).length ≤ k := List.length_take_le _ _
      have hlen : (34 :: innerL (s.data.toList.take k)).length ≤ 6 * k + 1 := by rw [List.length_cons]; omega
      have HLN := Lib.hid hlen
      clear hrow hil hil2 hlen
      by_cases hlt : k < s.size
      · have HN : Hid ((34 :: innerL (s.data.toList.take k)) ++ pieceL s[k] = 34 :: innerL (s.data.toList.take (k + 1))) := by
          show _ = _
          rw [take_snoc s k hlt, innerL_snoc]
          rfl
        have c8 := s[k].toNat_lt
        obtain ⟨q, hq⟩ : ∃ q : Int, (shortN s[k].toNat : Int) = q := ⟨_, rfl⟩
        have q0 : 0 ≤ q := by omega
        by_cases hsh : shortN s[k].toNat ≠ 0
        · have hp : pieceL s[k] = [92, UInt8.ofNat (shortN s[k].toNat)] := by unfold pieceL; rw [if_pos hsh]
          have z1 : ¬ q = 0 := by omega
          have z2 : (q != 0) = true := by rw [bne_iff_ne]; exact z1
          have HCS : Hid (#[Value.int .u8 92, .int .u8 q] = (u8s [92, UInt8.ofNat (shortN s[k].toNat)]).toArray) := by
            show _ = _
            have := shortN_lt s[k].toNat
            have e : (((UInt8.ofNat (shortN s[k].toNat)).toNat : Nat) : Int) = q := by rw [u8n _ this]; exact hq
            simp only [u8s, List.map_cons, List.map_nil]
            rw [e]
            rfl
          rw [hp] at HN
          have HQ := Lib.hid hq
          clear hsh hp hq
          go_wp2_with fail
          refine (at_short s[k].toNat _ q _ rfl HQ.out).mono ?_
          rintro _ w2 ⟨rfl, rfl⟩
          go_wp2_with fail
          refine (at_short s[k].toNat _ q _ rfl HQ.out).mono ?_
          rintro _ w2 ⟨rfl, rfl⟩
          go_wp2_with (at_builtin; refine wpList_pushN rfl _ _ rfl HR.out [92, UInt8.ofNat (shortN s[k].toNat)] HCS.out rfl rfl rfl (by have := HLN.out; simp only [List.length_cons, List.length_nil] at this ⊢; omega) hge ?_; intro v' w2 hrow' hB' hsz')
          have hbe2 := hB' _ _ hbe (Nat.le_refl _)
          rw [HN.out] at hrow'
          have HR2 := Lib.hid hrow'
          clear hB' hrow' HR
          go_wp2
          go_roundw
          case rel => exact ⟨k + 1, by omega, by go_num, HR2.out, hbe2, hsz'⟩
          case measure => simp [intOf]; omega
        · have z0 : q = 0 := by omega
          by_cases h32 : s[k].toNat < 32
          · have hp : pieceL s[k] = [92, 117, 48, 48, UInt8.ofNat (signQ (s[k].toNat / 16)), UInt8.ofNat (signQ (s[k].toNat % 16))] := by unfold pieceL; rw [if_neg hsh, if_pos h32]
            have d1 : (s[k].toNat : Int) < 32 := by omega
            obtain ⟨a, ha⟩ : ∃ a, s[k].toNat / 16 = a := ⟨_, rfl⟩
            obtain ⟨b, hb⟩ : ∃ b, s[k].toNat % 16 = b := ⟨_, rfl⟩
            have a16 : a < 16 := by omega
            have b16 : b < 16 := by omega
            have r1 : ((s[k].toNat : Int) / 16) = (a : Int) := by omega
            have r2 : ((s[k].toNat : Int) % 16) = (b : Int) := by omega
            obtain ⟨x, hx⟩ : ∃ x : Int, (signQ a : Int) = x := ⟨_, rfl⟩
            obtain ⟨y, hy⟩ : ∃ y : Int, (signQ b : Int) = y := ⟨_, rfl⟩
            rw [ha, hb] at hp
            have HCS : Hid (#[Value.int .u8 92, .int .u8 117, .int .u8 48, .int .u8 48, .int .u8 x, .int .u8 y] = (u8s [92, 117, 48, 48, UInt8.ofNat (signQ a), UInt8.ofNat (signQ b)]).toArray) := by
              show _ = _
              have e1 : (((UInt8.ofNat (signQ a)).toNat : Nat) : Int) = x := by rw [u8n _ (signQ_lt a a16)]; exact hx
              have e2 : (((UInt8.ofNat (signQ b)).toNat : Nat) : Int) = y := by rw [u8n _ (signQ_lt b b16)]; exact hy
              simp only [u8s, List.map_cons, List.map_nil]
              rw [e1, e2]
              rfl
            rw [hp] at HN
            have HQ : Hid ((shortN s[k].toNat : Int) = 0) := by show _ = _; omega
            have HX := Lib.hid hx
            have HY := Lib.hid hy
            clear hsh hp hq h32 ha hb hx hy z0 q0
            go_wp2_with fail
            refine (at_short s[k].toNat _ 0 _ rfl HQ.out).mono ?_
            rintro _ w2 ⟨rfl, rfl⟩
            go_wp2_with fail
            refine (at_sign a _ x _ rfl a16 HX.out).mono ?_
            rintro _ w2 ⟨rfl, rfl⟩
            go_wp2_with fail
            refine (at_sign b _ y _ rfl b16 HY.out).mono ?_
            rintro _ w2 ⟨rfl, rfl⟩
            go_wp2_with (at_builtin; refine wpList_pushN rfl _ _ rfl HR.out [92, 117, 48, 48, UInt8.ofNat (signQ a), UInt8.ofNat (signQ b)] HCS.out rfl rfl rfl (by have := HLN.out; simp only [List.length_cons, List.length_nil] at this ⊢; omega) hge ?_; intro v' w2 hrow' hB' hsz')
            have hbe2 := hB' _ _ hbe (Nat.le_refl _)
            rw [HN.out] at hrow'
            have HR2 := Lib.hid hrow'
            clear hB' hrow' HR
            go_wp2
            go_roundw
            case rel => exact ⟨k + 1, by omega, by go_num, HR2.out, hbe2, hsz'⟩
            case measure => simp [intOf]; omega
          · have hp : pieceL s[k] = [s[k]] := by unfold pieceL; rw [if_neg hsh, if_neg h32]
            have d1 : ¬ (s[k].toNat : Int) < 32 := by omega
            rw [hp] at HN
            have HQ : Hid ((shortN s[k].toNat : Int) = 0) := by show _ = _; omega
            clear hsh hp hq h32 z0 q0
            go_wp2_with fail
            refine (at_short s[k].toNat _ 0 _ rfl HQ.out).mono ?_
            rintro _ w2 ⟨rfl, rfl⟩
            go_wp2_with (at_builtin; refine wpList_push rfl _ _ rfl HR.out (c := s[k]) rfl rfl rfl (by have := HLN.out; omega) hge ?_; intro v' w2 hrow' hB' hsz')
            have hbe2 := hB' _ _ hbe (Nat.le_refl _)
            rw [HN.out] at hrow'
            have HR2 := Lib.hid hrow'
            clear hB' hrow' HR
            go_wp2
            go_roundw
            case rel => exact ⟨k + 1, by omega, by go_num, HR2.out, hbe2, hsz'⟩
            case measure => simp [intOf]; omega
      · have e : s.data.toList.take k = s.data.toList := List.take_of_length_le (by rw [HL.out]; omega)
        have HF : Hid ((34 :: innerL (s.data.toList.take k)) ++ [34] = quoteL s.data.toList) := by show _ = _; rw [e]; rfl
        clear e
        go_wp2_with (at_builtin; refine wpList_push rfl _ _ rfl HR.out (c := 34) rfl rfl rfl (by have := HLN.out; omega) hge ?_; intro v' w2 hrow' hB' hsz'; rw [HF.out] at hrow'; have hcv := hrow'.back)
        have hbe2 := hB' _ _ hbe (Nat.le_refl _)
        clear hB' hrow' HR
        go_wp2
        go_ret2
        rw [HE.out]
        exact ⟨rfl, chain hb1 hbe2⟩
end Go.Proofs.YtmnigdcgdebgoaaDoor
namespace Go.Proofs.YtmnigdcgdebgoaaDoor
set_option linter.unusedVariables false

/-- A digit, small or great. -/
def digG (g : Bool) (n : Nat) : Nat := if n < 10 then 48 + n else if g then 55 + n else 87 + n
/-- A backslash, u, and four digits. -/
def fourL (g : Bool) (n : Nat) : List UInt8 := [92, 117, UInt8.ofNat (digG g (n / 4096 % 16)), UInt8.ofNat (digG g (n / 256 % 16)), UInt8.ofNat (digG g (n / 16 % 16)), UInt8.ofNat (digG g (n % 16))]
/-- A letter by its digits. -/
def digitsL (g : Bool) (r : Nat) : List UInt8 := if r < 65536 then fourL g r else fourL g (55296 + (r - 65536) / 1024) ++ fourL g (56320 + (r - 65536) % 1024)

theorem digG_lt (g : Bool) (n : Nat) (h : n < 16) : digG g n < 256 := by
  unfold digG
  repeat' split
  all_goals omega
theorem valQ_dig (g : Bool) (n : Nat) (h : n < 16) : valQ (digG g n) = some n := by
  unfold valQ digG
  by_cases h1 : n < 10
  · rw [if_pos h1, if_pos (by omega)]
    congr 1
    omega
  · rw [if_neg h1]
    cases g with
    | true =>
      simp only [if_true]
      rw [if_neg (by omega), if_neg (by omega), if_pos (by omega)]
      congr 1
      omega
    | false =>
      simp only [Bool.false_eq_true, if_false]
      rw [if_neg (by omega), if_pos (by omega)]
      congr 1
      omega

theorem numQ_four (g : Bool) (n : Nat) (b : List UInt8) (h : n < 65536) : numQ ((fourL g n).drop 1 ++ b) = some n := by
  show (if (117 : UInt8).toNat = 117 then fourQ (UInt8.ofNat (digG g (n / 4096 % 16))).toNat (UInt8.ofNat (digG g (n / 256 % 16))).toNat (UInt8.ofNat (digG g (n / 16 % 16))).toNat (UInt8.ofNat (digG g (n % 16))).toNat else none) = _
  rw [if_pos (by decide), u8n _ (digG_lt g _ (by omega)), u8n _ (digG_lt g _ (by omega)), u8n _ (digG_lt g _ (by omega)), u8n _ (digG_lt g _ (by omega))]
  unfold fourQ
  rw [valQ_dig g _ (by omega), valQ_dig g _ (by omega), valQ_dig g _ (by omega), valQ_dig g _ (by omega)]
  simp only
  congr 1
  omega

theorem esc_four (g : Bool) (n : Nat) (b : List UInt8) (h : n < 65536) (h2 : n < 55296 ∨ 57343 < n) : escQ ((fourL g n).drop 1 ++ b) = some (n, 6) := by
  have hq := numQ_four g n b h
  show (match backN (117 : UInt8).toNat with | some r => some (r, 2) | none => match numQ ((fourL g n).drop 1 ++ b) with | none => none | some n => if 56320 ≤ n ∧ n ≤ 57343 then none else if n < 55296 ∨ 57343 < n then some (n, 6) else _) = _
  rw [show backN (117 : UInt8).toNat = none from rfl, hq]
  simp only
  rw [if_neg (by omega), if_pos h2]

theorem esc_pair (g : Bool) (n m : Nat) (b : List UInt8) (h : 55296 ≤ n ∧ n ≤ 56319) (h2 : 56320 ≤ m ∧ m ≤ 57343) : escQ ((fourL g n).drop 1 ++ (fourL g m ++ b)) = some (65536 + 1024 * (n - 55296) + (m - 56320), 12) := by
  have hq := numQ_four g n (fourL g m ++ b) (by omega)
  have hm := numQ_four g m b (by omega)
  have hp : pairQ n (fourL g m ++ b) = some (65536 + 1024 * (n - 55296) + (m - 56320)) := by
    show (if (92 : UInt8).toNat = 92 then (match numQ ((fourL g m).drop 1 ++ b) with | some m => if 56320 ≤ m ∧ m ≤ 57343 then some (65536 + 1024 * (n - 55296) + (m - 56320)) else none | none => none) else none) = _
    rw [if_pos (by decide), hm]
    simp only
    rw [if_pos h2]
  show (match backN (117 : UInt8).toNat with | some r => some (r, 2) | none => match numQ ((fourL g n).drop 1 ++ (fourL g m ++ b)) with | none => none | some n => if 56320 ≤ n ∧ n ≤ 57343 then none else if n < 55296 ∨ 57343 < n then some (n, 6) else (pairQ n (fourL g m ++ b)).map fun r => (r, 12)) = _
  rw [show backN (117 : UInt8).toNat = none from rfl, hq]
  simp only
  rw [if_neg (by omega), if_neg (by omega), hp]
  rfl

theorem read_digits (g : Bool) (r : Nat) (hr : letter r) : readQ (34 :: (digitsL g r ++ [34])) = (0, putU r, (digitsL g r).length + 2) := by
  have h1 := hr.1
  show (if some (34 : UInt8) = some 34 then readR (digitsL g r ++ [34]) [] 1 else _) = _
  rw [if_pos rfl]
  have key : ∀ n t, digitsL g r = 92 :: t → t.length + 1 = n → escQ (t ++ [34]) = some (r, n) → readR (digitsL g r ++ [34]) [] 1 = (0, putU r, (digitsL g r).length + 2) := by
    intro n t e hn he
    have hp : pieceQ (digitsL g r ++ [34]) = (0, putU r, n) := by
      rw [e]
      exact pieceQ_esc 92 (t ++ [34]) r n rfl he
    have hh : (digitsL g r ++ [34]).head? ≠ some 34 := by
      rw [e]
      show some (92 : UInt8) ≠ some 34
      decide
    have hd : (digitsL g r ++ [34]).drop n = [34] := by
      rw [e, ← hn]
      show (92 :: t ++ [34]).drop (92 :: t).length = [34]
      rw [List.drop_left]
    rw [readR_step _ _ _ hh (by rw [hp]), hp]
    simp only
    rw [hd, readR_end _ _ _ rfl, List.nil_append, e, List.length_cons]
    congr 2
    omega
  by_cases h : r < 65536
  · have e : digitsL g r = 92 :: (fourL g r).drop 1 := by unfold digitsL; rw [if_pos h]; rfl
    exact key 6 _ e rfl (esc_four g r [34] h hr.2)
  · have e : digitsL g r = 92 :: ((fourL g (55296 + (r - 65536) / 1024)).drop 1 ++ fourL g (56320 + (r - 65536) % 1024)) := by unfold digitsL; rw [if_neg h]; rfl
    refine key 12 _ e rfl ?_
    have hrr : 65536 + 1024 * (55296 + (r - 65536) / 1024 - 55296) + (56320 + (r - 65536) % 1024 - 56320) = r := by omega
    rw [List.append_assoc, esc_pair g _ _ [34] (by omega) (by omega), hrr]
end Go.Proofs.YtmnigdcgdebgoaaDoor
