/-
  The document's own short, sign, value, number (package cracknelref07): contracts.
-/
import Derived.Test.YtfpokkpklbkhiaaDoorQuoteMath
import Derived.Test.YtfpokkpklbkhiaaDoorBaseBytes
import Derived.Test.YtfpokkpklbkhiaaDoorBaseDraw
namespace Go.Proofs.YtfpokkpklbkhiaaDoor
open Go.RowKit
set_option linter.unusedVariables false

theorem ret_u8q {a b : Int} (h : a = b) : Ending.returned (.int .u8 a) = .returned (.int .u8 b) := by rw [h]

theorem shortN_cases (n : Nat) : (n = 34 ∧ shortN n = 34) ∨ (n = 92 ∧ shortN n = 92) ∨ (n = 8 ∧ shortN n = 98) ∨ (n = 9 ∧ shortN n = 116) ∨ (n = 10 ∧ shortN n = 110) ∨ (n = 12 ∧ shortN n = 102) ∨ (n = 13 ∧ shortN n = 114) ∨ (n ≠ 34 ∧ n ≠ 92 ∧ n ≠ 8 ∧ n ≠ 9 ∧ n ≠ 10 ∧ n ≠ 12 ∧ n ≠ 13 ∧ shortN n = 0) := by
  unfold shortN
  by_cases h1 : n = 34
  · subst h1; simp
  · by_cases h2 : n = 92
    · subst h2; simp
    · by_cases h3 : n = 8
      · subst h3; simp
      · by_cases h4 : n = 9
        · subst h4; simp
        · by_cases h5 : n = 10
          · subst h5; simp
          · by_cases h6 : n = 12
            · subst h6; simp
            · by_cases h7 : n = 13
              · subst h7; simp
              · simp [h1, h2, h3, h4, h5, h6, h7]

set_option maxRecDepth 100000 in
set_option maxHeartbeats 800000 in
theorem rshort_any (n : Nat) (C : Int) (w : World) (hC : C = (n : Int)) :
    Calls Tryd.prog 22 #[.int .u8 C] w fun e w' => e = .returned (.int .u8 (shortN n : Int)) ∧ w = w' := by
  rcases shortN_cases n with ⟨e, h⟩ | ⟨e, h⟩ | ⟨e, h⟩ | ⟨e, h⟩ | ⟨e, h⟩ | ⟨e, h⟩ | ⟨e, h⟩ | ⟨n1, n2, n3, n4, n5, n6, n7, h⟩
  iterate 7
    · have HS := Lib.hid h
      subst e hC
      clear h
      go_enter Tryd.func22, Tryd.ntmps22
      go_wp2
      go_ret
      exact ⟨ret_u8q (by first | (rw [HS.out]; done) | (rw [HS.out]; rfl)), rfl⟩
  · have HS := Lib.hid h
    have m1 : ¬ C = 34 := by omega
    have m2 : ¬ C = 92 := by omega
    have m3 : ¬ C = 8 := by omega
    have m4 : ¬ C = 9 := by omega
    have m5 : ¬ C = 10 := by omega
    have m6 : ¬ C = 12 := by omega
    have m7 : ¬ C = 13 := by omega
    clear h hC n1 n2 n3 n4 n5 n6 n7
    go_enter Tryd.func22, Tryd.ntmps22
    go_wp2
    go_ret
    exact ⟨ret_u8q (by first | (rw [HS.out]; done) | (rw [HS.out]; rfl)), rfl⟩

set_option maxRecDepth 100000 in
set_option maxHeartbeats 400000 in
theorem rsignq_any (n : Nat) (C : Int) (w : World) (hC : C = (n : Int)) (hn : n < 16) :
    Calls Tryd.prog 23 #[.int .u8 C] w fun e w' => e = .returned (.int .u8 (signQ n : Int)) ∧ w = w' := by
  have h0 : 0 ≤ C := by omega
  have h1 : C < 16 := by omega
  have HC := Lib.hid hC
  clear hC
  by_cases h : C < 10
  · go_enter Tryd.func23, Tryd.ntmps23
    go_wp2
    go_ret
    refine ⟨ret_u8q ?_, rfl⟩
    have hC := HC.out
    unfold signQ
    rw [if_pos (by omega)]
    omega
  · go_enter Tryd.func23, Tryd.ntmps23
    go_wp2
    go_ret
    refine ⟨ret_u8q ?_, rfl⟩
    have hC := HC.out
    unfold signQ
    rw [if_neg (by omega)]
    omega

/-- A digit's number, or -1. -/
def valI (n : Nat) : Int := match valQ n with | some v => (v : Int) | none => -1

set_option maxRecDepth 100000 in
set_option maxHeartbeats 800000 in
theorem rvalueq_any (n : Nat) (C : Int) (w : World) (hC : C = (n : Int)) :
    Calls Tryd.prog 50 #[.int .u8 C] w fun e w' => e = .returned (.int .i64 (valI n)) ∧ w = w' := by
  have key : (48 ≤ C ∧ C ≤ 57 ∧ valI n = C - 48) ∨ (¬ (48 ≤ C ∧ C ≤ 57) ∧ 97 ≤ C ∧ C ≤ 102 ∧ valI n = C - 87) ∨ (¬ (48 ≤ C ∧ C ≤ 57) ∧ ¬ (97 ≤ C ∧ C ≤ 102) ∧ 65 ≤ C ∧ C ≤ 70 ∧ valI n = C - 55) ∨ (¬ (48 ≤ C ∧ C ≤ 57) ∧ ¬ (97 ≤ C ∧ C ≤ 102) ∧ ¬ (65 ≤ C ∧ C ≤ 70) ∧ valI n = -1) := by
    unfold valI valQ
    by_cases h1 : 48 ≤ n ∧ n ≤ 57
    · rw [if_pos h1]
      exact .inl ⟨by omega, by omega, by simp only; omega⟩
    · rw [if_neg h1]
      by_cases h2 : 97 ≤ n ∧ n ≤ 102
      · rw [if_pos h2]
        exact .inr (.inl ⟨by omega, by omega, by omega, by simp only; omega⟩)
      · rw [if_neg h2]
        by_cases h3 : 65 ≤ n ∧ n ≤ 70
        · rw [if_pos h3]
          exact .inr (.inr (.inl ⟨by omega, by omega, by omega, by omega, by simp only; omega⟩))
        · rw [if_neg h3]
          exact .inr (.inr (.inr ⟨by omega, by omega, by omega, rfl⟩))
  have HK := Lib.hid key
  have h0 : 0 ≤ C := by omega
  clear key hC
  go_enter Tryd.func50, Tryd.ntmps50
  go_wp2
  all_goals
    go_ret
    refine ⟨ret_i64 ?_, rfl⟩
    have key := HK.out
    omega

/-- Of digits, when acc is had. -/
def foldQ : Nat → List UInt8 → Option Nat
  | acc, [] => some acc
  | acc, c :: t => match valQ c.toNat with | some v => foldQ (16 * acc + v) t | none => none

theorem fourQ_fold (a b c d : UInt8) : fourQ a.toNat b.toNat c.toNat d.toNat = foldQ 0 [a, b, c, d] := by
  unfold fourQ
  simp only [foldQ]
  cases valQ a.toNat with
  | none => rfl
  | some i =>
    cases valQ b.toNat with
    | none => rfl
    | some j =>
      cases valQ c.toNat with
      | none => rfl
      | some k =>
        cases valQ d.toNat with
        | none => rfl
        | some l => simp

/-- A number, or -1. -/
def numI (l : List UInt8) : Int := match numQ l with | some n => (n : Int) | none => -1

theorem numQ_fold (s : ByteArray) (k : Nat) (h : k + 5 ≤ s.size) (hu : s[k].toNat = 117) : numQ (s.data.toList.drop k) = foldQ 0 ((s.data.toList.drop (k + 1)).take (k + 5 - (k + 1))) := by
  rw [drop_cons s k (by omega), drop_cons s (k + 1) (by omega), drop_cons s (k + 1 + 1) (by omega), drop_cons s (k + 1 + 1 + 1) (by omega), drop_cons s (k + 1 + 1 + 1 + 1) (by omega)]
  show (if s[k].toNat = 117 then fourQ s[k + 1].toNat s[k + 1 + 1].toNat s[k + 1 + 1 + 1].toNat s[k + 1 + 1 + 1 + 1].toNat else none) = _
  rw [if_pos hu, fourQ_fold, show k + 5 - (k + 1) = 4 by omega]
  rfl

theorem numQ_short (s : ByteArray) (k : Nat) (h : s.size < k + 5) : numQ (s.data.toList.drop k) = none := by
  have hl : (s.data.toList.drop k).length < 5 := by rw [List.length_drop, list_len]; omega
  match hd : s.data.toList.drop k with
  | [] => rfl
  | [_] => rfl
  | [_, _] => rfl
  | [_, _, _] => rfl
  | [_, _, _, _] => rfl
  | _ :: _ :: _ :: _ :: _ :: _ => rw [hd] at hl; simp at hl; omega
theorem numQ_other (s : ByteArray) (k : Nat) (h : k + 5 ≤ s.size) (hu : s[k].toNat ≠ 117) : numQ (s.data.toList.drop k) = none := by
  rw [drop_cons s k (by omega), drop_cons s (k + 1) (by omega), drop_cons s (k + 1 + 1) (by omega), drop_cons s (k + 1 + 1 + 1) (by omega), drop_cons s (k + 1 + 1 + 1 + 1) (by omega)]
  show (if s[k].toNat = 117 then fourQ s[k + 1].toNat s[k + 1 + 1].toNat s[k + 1 + 1 + 1].toNat s[k + 1 + 1 + 1 + 1].toNat else none) = _
  rw [if_neg hu]

/-- What number holds at place k. -/
def NumAt (s : ByteArray) (at_ : Nat) (n i : Value) : Prop :=
  ∃ acc k : Nat, at_ + 1 ≤ k ∧ k ≤ at_ + 5 ∧ n = .int .i64 (acc : Int) ∧ i = .int .i64 (k : Int) ∧ acc < 16 ^ (k - (at_ + 1)) ∧ numQ (s.data.toList.drop at_) = foldQ acc ((s.data.toList.drop k).take (at_ + 5 - k))

theorem pow16 (j : Nat) (h : j ≤ 4) : 16 ^ j ≤ 65536 := by
  have : j = 0 ∨ j = 1 ∨ j = 2 ∨ j = 3 ∨ j = 4 := by omega
  rcases this with rfl | rfl | rfl | rfl | rfl <;> decide

theorem num_step (s : ByteArray) (at_ acc k v : Nat) (h1 : at_ + 1 ≤ k) (h2 : k < at_ + 5) (h3 : at_ + 5 ≤ s.size) (ha : acc < 16 ^ (k - (at_ + 1))) (hv : valQ (s[k]'(by omega)).toNat = some v) (h : numQ (s.data.toList.drop at_) = foldQ acc ((s.data.toList.drop k).take (at_ + 5 - k))) :
    16 * acc + v < 16 ^ (k + 1 - (at_ + 1)) ∧ numQ (s.data.toList.drop at_) = foldQ (16 * acc + v) ((s.data.toList.drop (k + 1)).take (at_ + 5 - (k + 1))) := by
  have hv16 := valQ_lt _ _ hv
  refine ⟨?_, ?_⟩
  · rw [show k + 1 - (at_ + 1) = (k - (at_ + 1)) + 1 by omega, Nat.pow_succ]
    omega
  · rw [h, drop_cons s k (by omega), show at_ + 5 - k = (at_ + 5 - (k + 1)) + 1 by omega, List.take_succ_cons]
    show (match valQ (s[k]'(by omega)).toNat with | some v => foldQ (16 * acc + v) _ | none => none) = _
    rw [hv]
theorem num_stop (s : ByteArray) (at_ acc k : Nat) (h1 : at_ + 1 ≤ k) (h2 : k < at_ + 5) (h3 : at_ + 5 ≤ s.size) (hv : valQ (s[k]'(by omega)).toNat = none) (h : numQ (s.data.toList.drop at_) = foldQ acc ((s.data.toList.drop k).take (at_ + 5 - k))) :
    numI (s.data.toList.drop at_) = -1 := by
  unfold numI
  rw [h, drop_cons s k (by omega), show at_ + 5 - k = (at_ + 5 - (k + 1)) + 1 by omega, List.take_succ_cons]
  show (match (match valQ (s[k]'(by omega)).toNat with | some v => foldQ (16 * acc + v) _ | none => none) with | some n => (n : Int) | none => -1) = _
  rw [hv]

set_option maxRecDepth 100000 in
set_option maxHeartbeats 1600000 in
theorem rnumber_any (s : ByteArray) (at_ : Nat) (A : Int) (w : World) (hA : A = (at_ : Int)) (hs : s.size ≤ 150000000000000) (ha : at_ ≤ s.size + 100) :
    Calls Tryd.prog 45 #[.string s, .int .i64 A] w fun e w' => e = .returned (.int .i64 (numI (s.data.toList.drop at_))) ∧ w = w' := by
  subst hA
  by_cases h5 : at_ + 5 ≤ s.size
  · have k1 : ¬ (s.size : Int) - (at_ : Int) < 5 := by omega
    have k2 : at_ < s.size := by omega
    have k3 : (at_ : Int) < (s.size : Int) := by omega
    by_cases hu : s[at_].toNat = 117
    · have d1 : (s[at_].toNat : Int) = 117 := by omega
      have HF := Lib.hid (numQ_fold s at_ h5 hu)
      clear hu
      go_enter Tryd.func45, Tryd.ntmps45
      go_wp2
      go_loop [5, 6] (fun n i => NumAt s at_ n i) (fun _ i => at_ + 5 - (intOf i).toNat)
      case atStart => exact ⟨0, at_ + 1, by omega, by omega, rfl, by go_num, by rw [Nat.sub_self]; decide, HF.out⟩
      case round =>
        obtain ⟨acc, k, q1, q2, rfl, rfl, q3, q4⟩ := hrel
        have HQ := Lib.hid q4
        have q5 := pow16 (k - (at_ + 1)) (by omega)
        have q6 : acc < 65536 := by omega
        have HP := Lib.hid q3
        clear q3 q4 q5 d1
        by_cases hk : k < at_ + 5
        · have z1 : k < s.size := by omega
          have z2 : (k : Int) < (at_ : Int) + 5 := by omega
          cases hv : valQ s[k].toNat with
          | none =>
            have HE := Lib.hid (num_stop s at_ acc k q1 hk h5 hv HQ.out)
            have HV : Hid (valI s[k].toNat = -1) := by show _ = _; unfold valI; rw [hv]
            clear hv HQ HP
            go_wp2_with fail
            refine (rvalueq_any s[k].toNat _ _ rfl).mono ?_
            rintro _ w1 ⟨rfl, rfl⟩
            rw [HV.out]
            go_wp2
            go_ret
            exact ⟨ret_i64 HE.out.symm, rfl⟩
          | some v =>
            have hv16 := valQ_lt _ _ hv
            obtain ⟨p1, p2⟩ := num_step s at_ acc k v q1 hk h5 HP.out hv HQ.out
            have P1 := Lib.hid p1
            have P2 := Lib.hid p2
            have HV : Hid (valI s[k].toNat = (v : Int)) := by show _ = _; unfold valI; rw [hv]
            clear hv HQ HP p1 p2
            go_wp2_with fail
            refine (rvalueq_any s[k].toNat _ _ rfl).mono ?_
            rintro _ w1 ⟨rfl, rfl⟩
            rw [HV.out]
            go_wp2_with fail
            refine (rvalueq_any s[k].toNat _ _ rfl).mono ?_
            rintro _ w1 ⟨rfl, rfl⟩
            rw [HV.out]
            go_wp2
            go_round
            case rel => exact ⟨16 * acc + v, k + 1, by omega, by omega, by go_num, by go_num, P1.out, P2.out⟩
            case measure => simp [intOf]; omega
        · have z2 : ¬ (k : Int) < (at_ : Int) + 5 := by omega
          have HE : Hid (numI (s.data.toList.drop at_) = (acc : Int)) := by
            show _ = _
            unfold numI
            rw [HQ.out, show at_ + 5 - k = 0 by omega, List.take_zero]
            rfl
          clear HQ HP
          go_wp2
          go_ret
          exact ⟨ret_i64 HE.out.symm, rfl⟩
    · have d1 : ¬ (s[at_].toNat : Int) = 117 := by omega
      have d2 : ((s[at_].toNat : Int) == 117) = false := by rw [beq_eq_false_iff_ne]; exact d1
      have HE : Hid (numI (s.data.toList.drop at_) = -1) := by show _ = _; unfold numI; rw [numQ_other s at_ h5 hu]
      clear hu
      go_enter Tryd.func45, Tryd.ntmps45
      go_wp2
      go_ret
      exact ⟨ret_i64 HE.out.symm, rfl⟩
  · have k1 : (s.size : Int) - (at_ : Int) < 5 := by omega
    have HE : Hid (numI (s.data.toList.drop at_) = -1) := by show _ = _; unfold numI; rw [numQ_short s at_ (by omega)]
    go_enter Tryd.func45, Tryd.ntmps45
    go_wp2
    go_ret
    exact ⟨ret_i64 HE.out.symm, rfl⟩
end Go.Proofs.YtfpokkpklbkhiaaDoor
