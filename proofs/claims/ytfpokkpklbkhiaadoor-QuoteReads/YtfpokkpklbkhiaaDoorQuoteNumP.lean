/-
  The program's own digit, number, signed and nothing (package quote): contracts.
-/
import Derived.Test.YtfpokkpklbkhiaaDoorQuoteEsc
import Derived.Test.YtfpokkpklbkhiaaDoorBasePrefix
import Derived.Test.YtfpokkpklbkhiaaDoorBaseIndex
namespace Go.Proofs.YtfpokkpklbkhiaaDoor
open Go.RowKit
set_option linter.unusedVariables false

/-- A number, or that there is none. -/
def digV (o : Option Nat) : Value := match o with
  | some v => .tuple #[.int .i64 (v : Int), .bool true]
  | none => .tuple #[.int .i64 0, .bool false]

set_option maxRecDepth 100000 in
set_option maxHeartbeats 800000 in
theorem pdigit_any (n : Nat) (C : Int) (w : World) (hC : C = (n : Int)) :
    Calls Tryd.prog 48 #[.int .u8 C] w fun e w' => e = .returned (digV (valQ n)) ∧ w = w' := by
  have h0 : 0 ≤ C := by omega
  rcases (show (48 ≤ n ∧ n ≤ 57) ∨ (¬ (48 ≤ n ∧ n ≤ 57) ∧ 97 ≤ n ∧ n ≤ 102) ∨ (¬ (48 ≤ n ∧ n ≤ 57) ∧ ¬ (97 ≤ n ∧ n ≤ 102) ∧ 65 ≤ n ∧ n ≤ 70) ∨ (¬ (48 ≤ n ∧ n ≤ 57) ∧ ¬ (97 ≤ n ∧ n ≤ 102) ∧ ¬ (65 ≤ n ∧ n ≤ 70)) from by omega) with h | ⟨h1, h⟩ | ⟨h1, h2, h⟩ | ⟨h1, h2, h3⟩
  · have HV : Hid (digV (valQ n) = .tuple #[.int .i64 (C - 48), .bool true]) := by
      show _ = _
      unfold valQ
      rw [if_pos h]
      unfold digV
      simp only
      rw [show ((n - 48 : Nat) : Int) = C - 48 by omega]
    have d1 : 48 ≤ C := by omega
    have d2 : C ≤ 57 := by omega
    clear hC h
    go_enter Tryd.func48, Tryd.ntmps48
    go_wp2
    go_ret2
    rw [HV.out]
    exact ⟨rfl, rfl⟩
  · have HV : Hid (digV (valQ n) = .tuple #[.int .i64 (C - 97 + 10), .bool true]) := by
      show _ = _
      unfold valQ
      rw [if_neg h1, if_pos h]
      unfold digV
      simp only
      rw [show ((n - 87 : Nat) : Int) = C - 97 + 10 by omega]
    have d1 : 97 ≤ C := by omega
    have d2 : C ≤ 102 := by omega
    clear hC h h1
    go_enter Tryd.func48, Tryd.ntmps48
    go_wp2
    go_ret2
    rw [HV.out]
    exact ⟨rfl, rfl⟩
  · have HV : Hid (digV (valQ n) = .tuple #[.int .i64 (C - 65 + 10), .bool true]) := by
      show _ = _
      unfold valQ
      rw [if_neg h1, if_neg h2, if_pos h]
      unfold digV
      simp only
      rw [show ((n - 55 : Nat) : Int) = C - 65 + 10 by omega]
    have d1 : 65 ≤ C := by omega
    have d2 : C ≤ 70 := by omega
    clear hC h h1 h2
    go_enter Tryd.func48, Tryd.ntmps48
    go_wp2
    go_ret2
    rw [HV.out]
    exact ⟨rfl, rfl⟩
  · have HV : Hid (digV (valQ n) = .tuple #[.int .i64 0, .bool false]) := by
      show _ = _
      unfold valQ
      rw [if_neg h1, if_neg h2, if_neg h3]
      rfl
    have d1 : ¬ (48 ≤ C ∧ C ≤ 57) := by omega
    have d2 : ¬ (97 ≤ C ∧ C ≤ 102) := by omega
    have d3 : ¬ (65 ≤ C ∧ C ≤ 70) := by omega
    have HD := Lib.hid (And.intro d1 (And.intro d2 d3))
    clear hC h1 h2 h3 d1 d2 d3
    go_enter Tryd.func48, Tryd.ntmps48
    go_wp2
    all_goals first
      | (exfalso; have := HD.out; omega)
      | (go_ret2; rw [HV.out]; exact ⟨rfl, rfl⟩)

/-- A backslash, a u, and four digits. -/
def bsNum (l : List UInt8) : Option Nat := match l with
  | c :: t => if c.toNat = 92 then numQ t else none
  | [] => none

theorem bsNum_cons (s : ByteArray) (k : Nat) (h : k < s.size) : bsNum (s.data.toList.drop k) = if s[k].toNat = 92 then numQ (s.data.toList.drop (k + 1)) else none := by
  rw [drop_cons s k h]
  rfl
theorem bsNum_zero (s : ByteArray) (h : 0 < s.size) : bsNum s.data.toList = if s[0].toNat = 92 then numQ (s.data.toList.drop 1) else none := by
  have := bsNum_cons s 0 h
  rw [List.drop_zero] at this
  exact this
theorem bsNum_short (s : ByteArray) (h : s.size < 6) : bsNum s.data.toList = none := by
  by_cases h0 : 0 < s.size
  · rw [bsNum_zero s h0, numQ_short s 1 (by omega), ite_self]
  · have e : s.data.toList = [] := List.eq_nil_of_length_eq_zero (by rw [list_len]; omega)
    rw [e]
    rfl
theorem pair_bs (n : Nat) (l : List UInt8) : pairQ n l = match bsNum l with | some m => if 56320 ≤ m ∧ m ≤ 57343 then some (65536 + 1024 * (n - 55296) + (m - 56320)) else none | none => none := by
  cases l with
  | nil => rfl
  | cons c t =>
    show (if c.toNat = 92 then _ else none) = match (if c.toNat = 92 then numQ t else none) with | some m => if 56320 ≤ m ∧ m ≤ 57343 then some (65536 + 1024 * (n - 55296) + (m - 56320)) else none | none => none
    by_cases hc : c.toNat = 92
    · rw [if_pos hc, if_pos hc]
      cases numQ t <;> rfl
    · rw [if_neg hc, if_neg hc]

theorem two_first (s : ByteArray) (h : 1 < s.size) : s.data.toList = s[0] :: s[1] :: s.data.toList.drop 2 := by
  have h1 := drop_cons s 0 (by omega)
  rw [List.drop_zero] at h1
  exact h1.trans (congrArg (s[0] :: ·) (drop_cons s 1 h))

theorem prefix_u (s : ByteArray) (h : 1 < s.size) : Lib.hasPrefix s.data.toList (⟨#[92, 117]⟩ : ByteArray).data.toList = decide (s[0].toNat = 92 ∧ s[1].toNat = 117) := by
  rw [two_first s h]
  unfold Lib.hasPrefix
  rw [Bool.eq_iff_iff, List.isPrefixOf_iff_prefix, decide_eq_true_eq]
  show [92, 117] <+: _ ↔ _
  rw [List.cons_prefix_cons, List.cons_prefix_cons]
  constructor
  · rintro ⟨h1, h2, _⟩
    rw [← h1, ← h2]
    exact ⟨rfl, rfl⟩
  · rintro ⟨h1, h2⟩
    exact ⟨(UInt8.toNat.inj h1).symm, (UInt8.toNat.inj h2).symm, List.nil_prefix⟩

set_option maxRecDepth 100000 in
set_option maxHeartbeats 1600000 in
theorem pnumber_any (s : ByteArray) (w : World) :
    Calls Tryd.prog 43 #[.string s] w fun e w' => e = .returned (digV (bsNum s.data.toList)) ∧ w = w' := by
  by_cases h6 : 6 ≤ s.size
  · have k1 : ¬ (s.size : Int) < 6 := by omega
    have hp := prefix_u s (by omega)
    by_cases hu : s[0].toNat = 92 ∧ s[1].toNat = 117
    · rw [decide_eq_true hu] at hp
      have HP := Lib.hid hp
      have HF := Lib.hid (numQ_fold s 1 h6 hu.2)
      have HZ : Hid (bsNum s.data.toList = numQ (s.data.toList.drop 1)) := by show _ = _; rw [bsNum_zero s (by omega), if_pos hu.1]
      clear hu hp
      go_enter Tryd.func43, Tryd.ntmps43
      go_wp2_with fail
      refine (prefix_at s _ true _ HP.out).mono ?_
      rintro _ w1 ⟨rfl, rfl⟩
      clear HP
      go_wp2
      go_loop [4, 5] (fun n i => NumAt s 1 n i) (fun _ i => 6 - (intOf i).toNat)
      case atStart => exact ⟨0, 2, by omega, by omega, rfl, by go_num, by decide, HF.out⟩
      case round =>
        obtain ⟨acc, k, q1, q2, rfl, rfl, q3, q4⟩ := hrel
        have HQ := Lib.hid q4
        have q5 := pow16 (k - (1 + 1)) (by omega)
        have q6 : acc < 65536 := by omega
        have HPW := Lib.hid q3
        clear q3 q4 q5 HF
        by_cases hk : k < 6
        · have z1 : k < s.size := by omega
          have z2 : (k : Int) < 6 := by omega
          cases hv : valQ s[k].toNat with
          | none =>
            have HE := Lib.hid (num_stop s 1 acc k q1 hk h6 hv HQ.out)
            have HV : Hid (digV (valQ s[k].toNat) = .tuple #[.int .i64 0, .bool false]) := by show _ = _; rw [hv]; rfl
            have HN : Hid (digV (bsNum s.data.toList) = .tuple #[.int .i64 0, .bool false]) := by
              show _ = _
              rw [HZ.out]
              have e := HE.out
              unfold numI at e
              cases hq : numQ (s.data.toList.drop 1) with
              | none => rfl
              | some n => rw [hq] at e; simp only at e; omega
            clear hv HQ HPW HE HZ
            go_wp2_with fail
            refine (pdigit_any s[k].toNat _ _ rfl).mono ?_
            rintro _ w1 ⟨rfl, rfl⟩
            rw [HV.out]
            go_wp2
            go_ret2
            rw [HN.out]
            exact ⟨rfl, rfl⟩
          | some v =>
            have hv16 := valQ_lt _ _ hv
            obtain ⟨p1, p2⟩ := num_step s 1 acc k v q1 hk h6 HPW.out hv HQ.out
            have P1 := Lib.hid p1
            have P2 := Lib.hid p2
            have HV : Hid (digV (valQ s[k].toNat) = .tuple #[.int .i64 (v : Int), .bool true]) := by show _ = _; rw [hv]; rfl
            clear hv HQ HPW p1 p2
            go_wp2_with fail
            refine (pdigit_any s[k].toNat _ _ rfl).mono ?_
            rintro _ w1 ⟨rfl, rfl⟩
            rw [HV.out]
            go_wp2
            go_round
            case rel => exact ⟨16 * acc + v, k + 1, by omega, by omega, by go_num, by go_num, P1.out, P2.out⟩
            case measure => simp [intOf]; omega
        · have z2 : ¬ (k : Int) < 6 := by omega
          have HE : Hid (digV (bsNum s.data.toList) = .tuple #[.int .i64 (acc : Int), .bool true]) := by
            show _ = _
            rw [HZ.out, HQ.out, show 1 + 5 - k = 0 by omega, List.take_zero]
            rfl
          clear HQ HPW
          go_wp2
          go_ret2
          rw [HE.out]
          exact ⟨rfl, rfl⟩
    · have HN : Hid (digV (bsNum s.data.toList) = .tuple #[.int .i64 0, .bool false]) := by
        show _ = _
        rw [bsNum_zero s (by omega)]
        by_cases h0 : s[0].toNat = 92
        · rw [if_pos h0, numQ_other s 1 h6 (fun h => hu ⟨h0, h⟩)]
          rfl
        · rw [if_neg h0]
          rfl
      rw [decide_eq_false hu] at hp
      have HP := Lib.hid hp
      clear hu hp
      go_enter Tryd.func43, Tryd.ntmps43
      go_wp2_with fail
      refine (prefix_at s _ false _ HP.out).mono ?_
      rintro _ w1 ⟨rfl, rfl⟩
      go_wp2
      go_ret2
      rw [HN.out]
      exact ⟨rfl, rfl⟩
  · have k1 : (s.size : Int) < 6 := by omega
    have HN : Hid (digV (bsNum s.data.toList) = .tuple #[.int .i64 0, .bool false]) := by show _ = _; rw [bsNum_short s (by omega)]; rfl
    go_enter Tryd.func43, Tryd.ntmps43
    go_wp2
    go_ret2
    rw [HN.out]
    exact ⟨rfl, rfl⟩

/-- Which byte the first sign stands for. -/
def headBack (l : List UInt8) : Option Nat := match l with
  | [] => none
  | c :: _ => backN c.toNat

theorem headBack_some (s : ByteArray) (h : 0 < s.size) : headBack s.data.toList = backN s[0].toNat := by
  have := drop_cons s 0 h
  rw [List.drop_zero] at this
  rw [this]
  rfl

theorem sign_place (c : UInt8) (h47 : c.toNat ≠ 47) : ∃ i : Int, Lib.indexByte [34, 92, 98, 116, 110, 102, 114] c = i ∧ ((i = 0 ∧ backN c.toNat = some 34) ∨ (i = 1 ∧ backN c.toNat = some 92) ∨ (i = 2 ∧ backN c.toNat = some 8) ∨ (i = 3 ∧ backN c.toNat = some 9) ∨ (i = 4 ∧ backN c.toNat = some 10) ∨ (i = 5 ∧ backN c.toNat = some 12) ∨ (i = 6 ∧ backN c.toNat = some 13) ∨ (i = -1 ∧ backN c.toNat = none)) := by
  by_cases h1 : c = 34
  · subst h1; exact ⟨0, by decide, .inl ⟨rfl, by decide⟩⟩
  by_cases h2 : c = 92
  · subst h2; exact ⟨1, by decide, .inr (.inl ⟨rfl, by decide⟩)⟩
  by_cases h3 : c = 98
  · subst h3; exact ⟨2, by decide, .inr (.inr (.inl ⟨rfl, by decide⟩))⟩
  by_cases h4 : c = 116
  · subst h4; exact ⟨3, by decide, .inr (.inr (.inr (.inl ⟨rfl, by decide⟩)))⟩
  by_cases h5 : c = 110
  · subst h5; exact ⟨4, by decide, .inr (.inr (.inr (.inr (.inl ⟨rfl, by decide⟩))))⟩
  by_cases h6 : c = 102
  · subst h6; exact ⟨5, by decide, .inr (.inr (.inr (.inr (.inr (.inl ⟨rfl, by decide⟩)))))⟩
  by_cases h7 : c = 114
  · subst h7; exact ⟨6, by decide, .inr (.inr (.inr (.inr (.inr (.inr (.inl ⟨rfl, by decide⟩))))))⟩
  refine ⟨-1, indexByte_none _ _ (by simp [h1, h2, h3, h4, h5, h6, h7]), .inr (.inr (.inr (.inr (.inr (.inr (.inr ⟨rfl, ?_⟩))))))⟩
  have e : ∀ n : UInt8, c ≠ n → c.toNat ≠ n.toNat := fun n h k => h (UInt8.toNat.inj k)
  have e1 : c.toNat ≠ 34 := e 34 h1
  have e2 : c.toNat ≠ 92 := e 92 h2
  have e3 : c.toNat ≠ 98 := e 98 h3
  have e4 : c.toNat ≠ 116 := e 116 h4
  have e5 : c.toNat ≠ 110 := e 110 h5
  have e6 : c.toNat ≠ 102 := e 102 h6
  have e7 : c.toNat ≠ 114 := e 114 h7
  unfold backN
  rw [if_neg (by rintro (h | h | h); exact e1 h; exact e2 h; exact h47 h), if_neg e3, if_neg e4, if_neg e5, if_neg e6, if_neg e7]

set_option maxRecDepth 100000 in
set_option maxHeartbeats 1600000 in
theorem psigned_any (s : ByteArray) (w : World) :
    Calls Tryd.prog 42 #[.string s] w fun e w' => e = .returned (digV (headBack s.data.toList)) ∧ w = w' := by
  by_cases h0 : 0 < s.size
  · have n1 : s.toList.isEmpty = false := by rw [isEmpty_size, decide_eq_false_iff_not]; omega
    have n2 : s.toList ≠ [] := fun e => by rw [e] at n1; cases n1
    have hh := headBack_some s h0
    by_cases h47 : s[0].toNat = 47
    · have HE : Hid (digV (headBack s.data.toList) = .tuple #[.int .i64 47, .bool true]) := by show _ = _; rw [hh, h47]; rfl
      have d1 : (s[0].toNat : Int) = 47 := by omega
      clear h47 hh
      go_enter Tryd.func42, Tryd.ntmps42
      go_wp2
      go_ret2
      rw [HE.out]
      exact ⟨rfl, rfl⟩
    · obtain ⟨i, hi, hc⟩ := sign_place s[0] h47
      have d1 : ¬ (s[0].toNat : Int) = 47 := by omega
      have d2 : ((s[0].toNat : Int) == 47) = false := by rw [beq_eq_false_iff_ne]; exact d1
      have HI := Lib.hid (fun W => index_any ⟨#[34, 92, 98, 116, 110, 102, 114]⟩ s[0] (s[0].toNat : Int) i W rfl hi)
      clear hi h47
      rw [← hh] at hc
      clear hh
      rcases hc with ⟨rfl, e⟩ | ⟨rfl, e⟩ | ⟨rfl, e⟩ | ⟨rfl, e⟩ | ⟨rfl, e⟩ | ⟨rfl, e⟩ | ⟨rfl, e⟩ | ⟨rfl, e⟩
      all_goals
        have HE := Lib.hid e
        clear e
        go_enter Tryd.func42, Tryd.ntmps42
        go_wp2_with (go_at_call 32; refine (HI.out _).mono ?_; rintro _ w1 ⟨rfl, rfl⟩)
        go_ret2
        rw [HE.out]
        first | exact ⟨rfl, rfl⟩ | exact ⟨ret_i64b true (by decide +kernel), rfl⟩
  · have n1 : s.toList.isEmpty = true := by rw [isEmpty_size, decide_eq_true_eq]; omega
    have n2 : s.toList = [] := by simpa using n1
    have HE : Hid (digV (headBack s.data.toList) = .tuple #[.int .i64 0, .bool false]) := by
      show _ = _
      have e : s.data.toList = [] := List.eq_nil_of_length_eq_zero (by rw [list_len]; omega)
      rw [e]
      rfl
    go_enter Tryd.func42, Tryd.ntmps42
    go_wp2
    go_ret2
    rw [HE.out]
    exact ⟨rfl, rfl⟩

set_option maxRecDepth 100000 in
theorem pnothing_any (s : ByteArray) (w : World) :
    Calls Tryd.prog 34 #[.string s] w fun e w' => e = .returned (.tuple #[.int .i64 0, .int .i64 0, .bool false]) ∧ w = w' := by
  go_enter Tryd.func34, Tryd.ntmps34
  go_wp2
  go_ret3
  exact ⟨rfl, rfl⟩
end Go.Proofs.YtfpokkpklbkhiaaDoor
