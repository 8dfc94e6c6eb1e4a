/-
  The program's own digit, number, signed and nothing (package quote): contracts.
  The program's own escape (package quote): a contract.
  The program's own piece and kindOf (package quote): contracts.
  The program's own Write (package quote): a contract.
  What the program's own Read (package quote) looks at: the kind of the piece at a place, what reads it, and what it tells.
  The program's own Read (package quote): a contract.
-/
import Derived.Test.YtmnigdcgdebgoaaDoorQuoM
import Derived.Test.YtmnigdcgdebgoaaDoorBaseS
import Derived.Test.YtmnigdcgdebgoaaDoorUtfN
import Derived.Test.YtmnigdcgdebgoaaDoorPlainM
import Derived.BigRegion
import Derived.Laws.EntriesVeiled
import Derived.BigQuiet
import Derived.Deep.RegionHeld3
namespace Go.Proofs.YtmnigdcgdebgoaaDoor
open Go.RowKit
set_option linter.unusedVariables false

/-- A number, or that there is none. -/
def digV (o : Option Nat) : Value := match o with
  | some v => .tuple #[.int .i64 (v : Int), .bool true]
  | none => .tuple #[.int .i64 0, .bool false]

set_option maxRecDepth 100000 in
set_option maxHeartbeats 800000 in
theorem pdigit_any (n : Nat) (C : Int) (w : World) (hC : C = (n : Int)) :
    Calls Tryd.prog 130 #[.int .u8 C] w fun e w' => e = .returned (digV (valQ n)) ∧ w = w' := by
  have h0 : 0 ≤ C := by omega
  rcases (show (48 ≤ n ∧ n ≤ 57) ∨ (¬ (48 ≤ n ∧ n ≤ 57) ∧ 97 ≤ n ∧ n ≤ 102) ∨ (¬ (48 ≤ n ∧ n ≤ 57) ∧ ¬ (97 ≤ n ∧ n ≤ 102) ∧ 65 ≤ n ∧ n ≤ 70) ∨ (¬ (48 ≤ n ∧ n ≤ 57) ∧ ¬ (97 ≤ n ∧ n ≤ 102) ∧ ¬ (65 ≤ n ∧ n ≤ 70)) from by omega) with h | ⟨h1, h⟩ | ⟨h1, h2, h⟩ | ⟨h1, h2, h3⟩
  · have HV : Hid (digV (valQ n) = .tuple #[.int .i64 (C - 48), .bool true]) := by
      show _ = _
      unfold valQ
      rw [if_pos h]
      unfold digV
      simp only
      rw [show ((n - 48 : Nat) : Int) = C - 48 by omega]
    have d1 : 48 ≤ C := by omega
    have d2 : C ≤ 57 := by omega
    clear hC h
    go_enter Tryd.func130, Tryd.ntmps130
    go_wp2
    go_ret2
    rw [HV.out]
    exact ⟨rfl, rfl⟩
  · have HV : Hid (digV (valQ n) = .tuple #[.int .i64 (C - 97 + 10), .bool true]) := by
      show _ = _
      unfold valQ
      rw [if_neg h1, if_pos h]
      unfold digV
      simp only
      rw [show ((n - 87 : Nat) : Int) = C - 97 + 10 by omega]
    have d1 : 97 ≤ C := by omega
    have d2 : C ≤ 102 := by omega
    clear hC h h1
    go_enter Tryd.func130, Tryd.ntmps130
    go_wp2
    go_ret2
    rw [HV.out]
    exact ⟨rfl, rfl⟩
  · have HV : Hid (digV (valQ n) = .tuple #[.int .i64 (C - 65 + 10), .bool true]) := by
      show _ = _
      unfold valQ
      rw [if_neg h1, if_neg h2, if_pos h]
      unfold digV
      simp only
      rw [show ((n - 55 : Nat) : Int) = C - 65 + 10 by omega]
    have d1 : 65 ≤ C := by omega
    have d2 : C ≤ 70 := by omega
    clear hC h h1 h2
    go_enter Tryd.func130, Tryd.ntmps130
    go_wp2
    go_ret2
    rw [HV.out]
    exact ⟨rfl, rfl⟩
  · have HV : Hid (digV (valQ n) = .tuple #[.int .i64 0, .bool false]) := by
      show _ = _
      unfold valQ
      rw [if_neg h1, if_neg h2, if_neg h3]
      rfl
    have d1 : ¬ (48 ≤ C ∧ C ≤ 57) := by omega
    have d2 : ¬ (97 ≤ C ∧ C ≤ 102) := by omega
    have d3 : ¬ (65 ≤ C ∧ C ≤ 70) := by omega
    have HD := Lib.hid (And.intro d1 (And.intro d2 d3))
    clear hC h1 h2 h3 d1 d2 d3
    go_enter Tryd.func130, Tryd.ntmps130
    go_wp2
    all_goals first
      | (exfalso; have := HD.out; omega)
      | (go_ret2; rw [HV.out]; exact ⟨rfl, rfl⟩)

/-- A backslash, a u, and four digits. -/
def bsNum (l : List UInt8) : Option Nat := match l with
  | c :: t => if c.toNat = 92 then numQ t else none
  | [] => none

theorem bsNum_cons (s : ByteArray) (k : Nat) (h : k < s.size) : bsNum (s.data.toList.drop k) = if s[k].toNat = 92 then numQ (s.data.toList.drop (k + 1)) else none := by
  rw [drop_cons s k h]
  rfl
theorem bsNum_zero (s : ByteArray) (h : 0 < s.size) : bsNum s.data.toList = if s[0].toNat = 92 then numQ (s.data.toList.drop 1) else none := by
  have := bsNum_cons s 0 h
  rw [List.drop_zero] at this
  exact this
theorem bsNum_short (s : ByteArray) (h : s.size < 6) : bsNum s.data.toList = none := by
  by_cases h0 : 0 < s.size
  · rw [bsNum_zero s h0, numQ_short s 1 (by omega), ite_self]
  · have e : s.data.toList = [] := List.eq_nil_of_length_eq_zero (by rw [list_len]; omega)
    rw [e]
    rfl
theorem pair_bs (n : Nat) (l : List UInt8) : pairQ n l = match bsNum l with | some m => if 56320 ≤ m ∧ m ≤ 57343 then some (65536 + 1024 * (n - 55296) + (m - 56320)) else none | none => none := by
  cases l with
  | nil => rfl
  | cons c t =>
    show (if c.toNat = 92 then _ else none) = match (if c.toNat = 92 then numQ t else none) with | some m => if 56320 ≤ m ∧ m ≤ 57343 then some (65536 + 1024 * (n - 55296) + (m - 56320)) else none | none => none
    by_cases hc : c.toNat = 92
    · rw [if_pos hc, if_pos hc]
      cases numQ t <;> rfl
    · rw [if_neg hc, if_neg hc]

theorem two_first (s : ByteArray) (h : 1 < s.size) : s.data.toList = s[0] :: s[1] :: s.data.toList.drop 2 := by
  have h1 := drop_cons s 0 (by omega)
  rw [List.drop_zero] at h1
  exact h1.trans (congrArg (s[0] :: ·) (drop_cons s 1 h))

theorem prefix_u (s : ByteArray) (h : 1 < s.size) : Lib.hasPrefix s.data.toList (⟨#[92, 117]⟩ : ByteArray).data.toList = decide (s[0].toNat = 92 ∧ s[1].toNat = 117) := by
  rw [two_first s h]
  unfold Lib.hasPrefix
  rw [Bool.eq_iff_iff, List.isPrefixOf_iff_prefix, decide_eq_true_eq]
  show [92, 117] <+: _ ↔ _
  rw [List.cons_prefix_cons, List.cons_prefix_cons]
  constructor
  · rintro ⟨h1, h2, _⟩
    rw [← h1, ← h2]
    exact ⟨rfl, rfl⟩
  · rintro ⟨h1, h2⟩
    exact ⟨(UInt8.toNat.inj h1).symm, (UInt8.toNat.inj h2).symm, List.nil_prefix⟩

set_option maxRecDepth 100000 in
set_option maxHeartbeats 1600000 in
theorem pnumber_any (s : ByteArray) (w : World) :
    Calls Tryd.prog 126 #[.string s] w fun e w' => e = .returned (digV (bsNum s.data.toList)) ∧ w = w' := by
  by_cases h6 : 6 ≤ s.size
  · have k1 : ¬ (s.size : Int) < 6 := by omega
    have hp := prefix_u s (by omega)
    by_cases hu : s[0].toNat = 92 ∧ s[1].toNat = 117
    · rw [decide_eq_true hu] at hp
      have HP := Lib.hid hp
      have HF := Lib.hid (numQ_fold s 1 h6 hu.2)
      have HZ : Hid (bsNum s.data.toList = numQ (s.data.toList.drop 1)) := by show _ = _; rw [bsNum_zero s (by omega), if_pos hu.1]
      clear hu hp
      go_enter Tryd.func126, Tryd.ntmps126
      go_wp2_with fail
      refine (prefix_at s _ true _ HP.out).mono ?_
      rintro _ w1 ⟨rfl, rfl⟩
      clear HP
      go_wp2
      go_loop [4, 5] (fun n i => NumAt s 1 n i) (fun _ i => 6 - (intOf i).toNat)
      case atStart => exact ⟨0, 2, by omega, by omega, rfl, by go_num, by decide, HF.out⟩
      case round =>
        obtain ⟨acc, k, q1, q2, rfl, rfl, q3, q4⟩ := hrel
        have HQ := Lib.hid q4
        have q5 := pow16 (k - (1 + 1)) (by omega)
        have q6 : acc < 65536 := by omega
        have HPW := Lib.hid q3
        clear q3 q4 q5 HF
        by_cases hk : k < 6
        · have z1 : k < s.size := by omega
          have z2 : (k : Int) < 6 := by omega
          cases hv : valQ s[k].toNat with
          | none =>
            have HE := Lib.hid (num_stop s 1 acc k q1 hk h6 hv HQ.out)
            have HV : Hid (digV (valQ s[k].toNat) = .tuple #[.int .i64 0, .bool false]) := by show _ = _; rw [hv]; rfl
            have HN : Hid (digV (bsNum s.data.toList) = .tuple #[.int .i64 0, .bool false]) := by
              show _ = _
              rw [HZ.out]
              have e := HE.out
              unfold numI at e
              cases hq : numQ (s.data.toList.drop 1) with
              | none => rfl
              | some n => rw [hq] at e; simp only at e; omega
            clear hv HQ HPW HE HZ
            go_wp2_with fail
            refine (pdigit_any s[k].toNat _ _ rfl).mono ?_
            rintro _ w1 ⟨rfl, rfl⟩
            rw [HV.out]
            go_wp2
            go_ret2
            rw [HN.out]
            exact ⟨rfl, rfl⟩
          | some v =>
            have hv16 := valQ_lt _ _ hv
            obtain ⟨p1, p2⟩ := num_step s 1 acc k v q1 hk h6 HPW.out hv HQ.out
            have P1 := Lib.hid p1
            have P2 := Lib.hid p2
            have HV : Hid (digV (valQ s[k].toNat) = .tuple #[.int .i64 (v : Int), .bool true]) := by show _ = _; rw [hv]; rfl
            clear hv HQ HPW p1 p2
            go_wp2_with fail
            refine (pdigit_any s[k].toNat _ _ rfl).mono ?_
            rintro _ w1 ⟨rfl, rfl⟩
            rw [HV.out]
            go_wp2
            go_round
            case rel => exact ⟨16 * acc + v, k + 1, by omega, by omega, by go_num, by go_num, P1.out, P2.out⟩
            case measure => simp [intOf]; omega
        · have z2 : ¬ (k : Int) < 6 := by omega
          have HE : Hid (digV (bsNum s.data.toList) = .tuple #[.int .i64 (acc : Int), .bool true]) := by
            show _ = _
            rw [HZ.out, HQ.out, show 1 + 5 - k = 0 by omega, List.take_zero]
            rfl
          clear HQ HPW
          go_wp2
          go_ret2
          rw [HE.out]
          exact ⟨rfl, rfl⟩
    · have HN : Hid (digV (bsNum s.data.toList) = .tuple #[.int .i64 0, .bool false]) := by
        show _ = _
        rw [bsNum_zero s (by omega)]
        by_cases h0 : s[0].toNat = 92
        · rw [if_pos h0, numQ_other s 1 h6 (fun h => hu ⟨h0, h⟩)]
          rfl
        · rw [if_neg h0]
          rfl
      rw [decide_eq_false hu] at hp
      have HP := Lib.hid hp
      clear hu hp
      go_enter Tryd.func126, Tryd.ntmps126
      go_wp2_with fail
      refine (prefix_at s _ false _ HP.out).mono ?_
      rintro _ w1 ⟨rfl, rfl⟩
      go_wp2
      go_ret2
      rw [HN.out]
      exact ⟨rfl, rfl⟩
  · have k1 : (s.size : Int) < 6 := by omega
    have HN : Hid (digV (bsNum s.data.toList) = .tuple #[.int .i64 0, .bool false]) := by show _ = _; rw [bsNum_short s (by omega)]; rfl
    go_enter Tryd.func126, Tryd.ntmps126
    go_wp2
    go_ret2
    rw [HN.out]
    exact ⟨rfl, rfl⟩

/-- Which byte the first sign stands for. -/
def headBack (l : List UInt8) : Option Nat := match l with
  | [] => none
  | c :: _ => backN c.toNat

theorem headBack_some (s : ByteArray) (h : 0 < s.size) : headBack s.data.toList = backN s[0].toNat := by
  have := drop_cons s 0 h
  rw [List.drop_zero] at this
  rw [this]
  rfl

theorem sign_place (c : UInt8) (h47 : c.toNat ≠ 47) : ∃ i : Int, Lib.indexByte [34, 92, 98, 116, 110, 102, 114] c = i ∧ ((i = 0 ∧ backN c.toNat = some 34) ∨ (i = 1 ∧ backN c.toNat = some 92) ∨ (i = 2 ∧ backN c.toNat = some 8) ∨ (i = 3 ∧ backN c.toNat = some 9) ∨ (i = 4 ∧ backN c.toNat = some 10) ∨ (i = 5 ∧ backN c.toNat = some 12) ∨ (i = 6 ∧ backN c.toNat = some 13) ∨ (i = -1 ∧ backN c.toNat = none)) := by
  by_cases h1 : c = 34
  · subst h1; exact ⟨0, by decide, .inl ⟨rfl, by decide⟩⟩
  by_cases h2 : c = 92
  · subst h2; exact ⟨1, by decide, .inr (.inl ⟨rfl, by decide⟩)⟩
  by_cases h3 : c = 98
  · subst h3; exact ⟨2, by decide, .inr (.inr (.inl ⟨rfl, by decide⟩))⟩
  by_cases h4 : c = 116
  · subst h4; exact ⟨3, by decide, .inr (.inr (.inr (.inl ⟨rfl, by decide⟩)))⟩
  by_cases h5 : c = 110
  · subst h5; exact ⟨4, by decide, .inr (.inr (.inr (.inr (.inl ⟨rfl, by decide⟩))))⟩
  by_cases h6 : c = 102
  · subst h6; exact ⟨5, by decide, .inr (.inr (.inr (.inr (.inr (.inl ⟨rfl, by decide⟩)))))⟩
  by_cases h7 : c = 114
  · subst h7; exact ⟨6, by decide, .inr (.inr (.inr (.inr (.inr (.inr (.inl ⟨rfl, by decide⟩))))))⟩
  refine ⟨-1, indexByte_none _ _ (by simp [h1, h2, h3, h4, h5, h6, h7]), .inr (.inr (.inr (.inr (.inr (.inr (.inr ⟨rfl, ?_⟩))))))⟩
  have e : ∀ n : UInt8, c ≠ n → c.toNat ≠ n.toNat := fun n h k => h (UInt8.toNat.inj k)
  have e1 : c.toNat ≠ 34 := e 34 h1
  have e2 : c.toNat ≠ 92 := e 92 h2
  have e3 : c.toNat ≠ 98 := e 98 h3
  have e4 : c.toNat ≠ 116 := e 116 h4
  have e5 : c.toNat ≠ 110 := e 110 h5
  have e6 : c.toNat ≠ 102 := e 102 h6
  have e7 : c.toNat ≠ 114 := e 114 h7
  unfold backN
  rw [if_neg (by rintro (h | h | h); exact e1 h; exact e2 h; exact h47 h), if_neg e3, if_neg e4, if_neg e5, if_neg e6, if_neg e7]

set_option maxRecDepth 100000 in
set_option maxHeartbeats 1600000 in
theorem psigned_any (s : ByteArray) (w : World) :
    Calls Tryd.prog 125 #[.string s] w fun e w' => e = .returned (digV (headBack s.data.toList)) ∧ w = w' := by
  by_cases h0 : 0 < s.size
  · have n1 : s.toList.isEmpty = false := by rw [isEmpty_size, decide_eq_false_iff_not]; omega
    have n2 : s.toList ≠ [] := fun e => by rw [e] at n1; cases n1
    have hh := headBack_some s h0
    by_cases h47 : s[0].toNat = 47
    · have HE : Hid (digV (headBack s.data.toList) = .tuple #[.int .i64 47, .bool true]) := by show _ = _; rw [hh, h47]; rfl
      have d1 : (s[0].toNat : Int) = 47 := by omega
      clear h47 hh
      go_enter Tryd.func125, Tryd.ntmps125
      go_wp2
      go_ret2
      rw [HE.out]
      exact ⟨rfl, rfl⟩
    · obtain ⟨i, hi, hc⟩ := sign_place s[0] h47
      have d1 : ¬ (s[0].toNat : Int) = 47 := by omega
      have d2 : ((s[0].toNat : Int) == 47) = false := by rw [beq_eq_false_iff_ne]; exact d1
      have HI := Lib.hid (fun W => index_any ⟨#[34, 92, 98, 116, 110, 102, 114]⟩ s[0] (s[0].toNat : Int) i W rfl hi)
      clear hi h47
      rw [← hh] at hc
      clear hh
      rcases hc with ⟨rfl, e⟩ | ⟨rfl, e⟩ | ⟨rfl, e⟩ | ⟨rfl, e⟩ | ⟨rfl, e⟩ | ⟨rfl, e⟩ | ⟨rfl, e⟩ | ⟨rfl, e⟩
      all_goals
        have HE := Lib.hid e
        clear e
        go_enter Tryd.func125, Tryd.ntmps125
        go_wp2_with (go_at_call 82; refine (HI.out _).mono ?_; rintro _ w1 ⟨rfl, rfl⟩)
        go_ret2
        rw [HE.out]
        first | exact ⟨rfl, rfl⟩ | exact ⟨ret_i64b true (by decide +kernel), rfl⟩
  · have n1 : s.toList.isEmpty = true := by rw [isEmpty_size, decide_eq_true_eq]; omega
    have n2 : s.toList = [] := by simpa using n1
    have HE : Hid (digV (headBack s.data.toList) = .tuple #[.int .i64 0, .bool false]) := by
      show _ = _
      have e : s.data.toList = [] := List.eq_nil_of_length_eq_zero (by rw [list_len]; omega)
      rw [e]
      rfl
    go_enter Tryd.func125, Tryd.ntmps125
    go_wp2
    go_ret2
    rw [HE.out]
    exact ⟨rfl, rfl⟩

set_option maxRecDepth 100000 in
theorem pnothing_any (s : ByteArray) (w : World) :
    Calls Tryd.prog 120 #[.string s] w fun e w' => e = .returned (.tuple #[.int .i64 0, .int .i64 0, .bool false]) ∧ w = w' := by
  go_enter Tryd.func120, Tryd.ntmps120
  go_wp2
  go_ret3
  exact ⟨rfl, rfl⟩
end Go.Proofs.YtmnigdcgdebgoaaDoor
namespace Go.Proofs.YtmnigdcgdebgoaaDoor
open Go.RowKit
set_option linter.unusedVariables false

/-- What a piece is read as: the letter, how many bytes, and whether there is one. -/
def escP (o : Option (Nat × Nat)) : Value := match o with
  | some (r, n) => .tuple #[.int .i64 (r : Int), .int .i64 (n : Int), .bool true]
  | none => .tuple #[.int .i64 0, .int .i64 0, .bool false]

theorem esc_head (s : ByteArray) (r : Nat) (h : headBack (s.data.toList.drop 1) = some r) : escQ (s.data.toList.drop 1) = some (r, 2) := by
  by_cases h1 : 1 < s.size
  · have e := drop_cons s 1 h1
    refine esc_back s 1 r h1 ?_
    rw [e] at h
    exact h
  · rw [List.drop_eq_nil_of_le (by rw [list_len]; omega)] at h
    cases h

theorem esc_by (s : ByteArray) (h0 : 0 < s.size) (h92 : s[0].toNat = 92) (h : headBack (s.data.toList.drop 1) = none) :
    (bsNum s.data.toList = none → escQ (s.data.toList.drop 1) = none) ∧ ∀ n, bsNum s.data.toList = some n → 6 ≤ s.size ∧ n < 65536 ∧ (56320 ≤ n ∧ n ≤ 57343 → escQ (s.data.toList.drop 1) = none) ∧ (n < 55296 ∨ 57343 < n → escQ (s.data.toList.drop 1) = some (n, 6)) ∧ (55296 ≤ n ∧ n ≤ 56319 → escQ (s.data.toList.drop 1) = (pairQ n (s.data.toList.drop 6)).map fun r => (r, 12)) := by
  have hz := bsNum_zero s h0
  rw [if_pos h92] at hz
  by_cases h1 : 1 < s.size
  · have hb : backN s[1].toNat = none := by
      rw [drop_cons s 1 h1] at h
      exact h
    refine ⟨fun hn => esc_no s 1 h1 hb (hz.symm.trans hn), fun n hn => ?_⟩
    have hn' := hz.symm.trans hn
    obtain ⟨q1, q2, _⟩ := numQ_yes _ _ hn'
    rw [List.length_drop, list_len] at q2
    exact ⟨by omega, q1, fun hr => esc_low s 1 n h1 hb hn' hr, fun hr => esc_one s 1 n h1 hb hn' hr, fun hr => esc_two s 1 n h1 hb hn' hr⟩
  · refine ⟨fun _ => esc_nil s 1 h1, fun n hn => ?_⟩
    rw [bsNum_short s (by omega)] at hn
    cases hn

theorem at_pnum (s : ByteArray) (v : Value) (w : World) (h : digV (bsNum s.data.toList) = v) :
    Calls Tryd.prog 126 #[.string s] w fun e w' => e = .returned v ∧ w = w' := h ▸ pnumber_any s w
theorem at_psig (s : ByteArray) (v : Value) (w : World) (h : digV (headBack s.data.toList) = v) :
    Calls Tryd.prog 125 #[.string s] w fun e w' => e = .returned v ∧ w = w' := h ▸ psigned_any s w

set_option maxRecDepth 100000 in
set_option maxHeartbeats 1600000 in
theorem pescape_any (s : ByteArray) (w : World) (h0 : 0 < s.size) (h92 : s[0].toNat = 92) :
    Calls Tryd.prog 121 #[.string s] w fun e w' => e = .returned (escP (escQ (s.data.toList.drop 1))) ∧ w = w' := by
  have z0 : (1 : Int) ≤ (s.size : Int) := by omega
  have z1 : 1 ≤ s.size := by omega
  obtain ⟨X, hX⟩ : ∃ X, escP (escQ (s.data.toList.drop 1)) = X := ⟨_, rfl⟩
  rw [hX]
  have er := rest_of s 1
  have er6 := rest_of s 6
  cases hb : headBack (s.data.toList.drop 1) with
  | some r =>
    have HE : Hid (X = .tuple #[.int .i64 (r : Int), .int .i64 2, .bool true]) := by show _ = _; rw [← hX, esc_head s r hb]; rfl
    have HS : Hid (digV (headBack (s.extract 1 s.size).data.toList) = .tuple #[.int .i64 (r : Int), .bool true]) := by show _ = _; rw [er, hb]; rfl
    clear hb er er6 h92
    clear hX
    go_enter Tryd.func121, Tryd.ntmps121
    go_wp2_with fail
    refine (at_psig _ _ _ HS.out).mono ?_
    rintro _ w1 ⟨rfl, rfl⟩
    go_wp2
    go_ret3
    rw [HE.out]
    exact ⟨rfl, rfl⟩
  | none =>
    obtain ⟨f1, f2⟩ := esc_by s h0 h92 hb
    have HS : Hid (digV (headBack (s.extract 1 s.size).data.toList) = .tuple #[.int .i64 0, .bool false]) := by show _ = _; rw [er, hb]; rfl
    clear hb er h92
    cases hn : bsNum s.data.toList with
    | none =>
      have HE : Hid (X = .tuple #[.int .i64 0, .int .i64 0, .bool false]) := by show _ = _; rw [← hX, f1 hn]; rfl
      have HN : Hid (digV (bsNum s.data.toList) = .tuple #[.int .i64 0, .bool false]) := by show _ = _; rw [hn]; rfl
      clear f1 f2 hn er6
      clear hX
      go_enter Tryd.func121, Tryd.ntmps121
      go_wp2_with fail
      refine (at_psig _ _ _ HS.out).mono ?_
      rintro _ w1 ⟨rfl, rfl⟩
      go_wp2_with fail
      refine (at_pnum _ _ _ HN.out).mono ?_
      rintro _ w1 ⟨rfl, rfl⟩
      go_wp2
      go_ret3
      rw [HE.out]
      exact ⟨rfl, rfl⟩
    | some n =>
      obtain ⟨g1, g2, g3, g4, g5⟩ := f2 n hn
      have z6 : (6 : Int) ≤ (s.size : Int) := by omega
      obtain ⟨N, hN⟩ : ∃ N : Int, (n : Int) = N := ⟨_, rfl⟩
      have HN : Hid (digV (bsNum s.data.toList) = .tuple #[.int .i64 N, .bool true]) := by show _ = _; rw [hn, ← hN]; rfl
      have y0 : 0 ≤ N := by omega
      clear f1 f2 hn
      rcases (show (56320 ≤ n ∧ n ≤ 57343) ∨ n < 55296 ∨ 57343 < n ∨ (55296 ≤ n ∧ n ≤ 56319) from by omega) with hr | hr | hr | hr
      · have HE : Hid (X = .tuple #[.int .i64 0, .int .i64 0, .bool false]) := by show _ = _; rw [← hX, g3 hr]; rfl
        have y1 : 56320 ≤ N := by omega
        have y2 : N ≤ 57343 := by omega
        clear g2 g3 g4 g5 hr hN er6
        clear hX
        go_enter Tryd.func121, Tryd.ntmps121
        go_wp2_with fail
        refine (at_psig _ _ _ HS.out).mono ?_
        rintro _ w1 ⟨rfl, rfl⟩
        go_wp2_with fail
        refine (at_pnum _ _ _ HN.out).mono ?_
        rintro _ w1 ⟨rfl, rfl⟩
        go_wp2
        go_ret3
        rw [HE.out]
        exact ⟨rfl, rfl⟩
      · have HE : Hid (X = .tuple #[.int .i64 N, .int .i64 6, .bool true]) := by show _ = _; rw [← hX, g4 (.inl hr), ← hN]; rfl
        have y1 : ¬ 56320 ≤ N := by omega
        have y2 : N < 55296 := by omega
        clear g2 g3 g4 g5 hr hN er6
        clear hX
        go_enter Tryd.func121, Tryd.ntmps121
        go_wp2_with fail
        refine (at_psig _ _ _ HS.out).mono ?_
        rintro _ w1 ⟨rfl, rfl⟩
        go_wp2_with fail
        refine (at_pnum _ _ _ HN.out).mono ?_
        rintro _ w1 ⟨rfl, rfl⟩
        go_wp2
        go_ret3
        rw [HE.out]
        exact ⟨rfl, rfl⟩
      · have HE : Hid (X = .tuple #[.int .i64 N, .int .i64 6, .bool true]) := by show _ = _; rw [← hX, g4 (.inr hr), ← hN]; rfl
        have y1 : 56320 ≤ N := by omega
        have y2 : ¬ N ≤ 57343 := by omega
        have y3 : ¬ N < 55296 := by omega
        have y4 : 57343 < N := by omega
        clear g2 g3 g4 g5 hr hN er6
        clear hX
        go_enter Tryd.func121, Tryd.ntmps121
        go_wp2_with fail
        refine (at_psig _ _ _ HS.out).mono ?_
        rintro _ w1 ⟨rfl, rfl⟩
        go_wp2_with fail
        refine (at_pnum _ _ _ HN.out).mono ?_
        rintro _ w1 ⟨rfl, rfl⟩
        go_wp2
        go_ret3
        rw [HE.out]
        exact ⟨rfl, rfl⟩
      · have y1 : ¬ 56320 ≤ N := by omega
        have y3 : ¬ N < 55296 := by omega
        have y4 : ¬ 57343 < N := by omega
        have y5 : 55296 ≤ N := by omega
        have y6 : N ≤ 56319 := by omega
        have ge := g5 hr
        rw [pair_bs] at ge
        cases hm : bsNum (s.data.toList.drop 6) with
        | none =>
          rw [hm] at ge
          have HE : Hid (X = .tuple #[.int .i64 0, .int .i64 0, .bool false]) := by show _ = _; rw [← hX, ge]; rfl
          have HM : Hid (digV (bsNum (s.extract 6 s.size).data.toList) = .tuple #[.int .i64 0, .bool false]) := by show _ = _; rw [er6, hm]; rfl
          clear g2 g3 g4 g5 hr hN er6 ge hm
          clear hX
          go_enter Tryd.func121, Tryd.ntmps121
          go_wp2_with fail
          refine (at_psig _ _ _ HS.out).mono ?_
          rintro _ w1 ⟨rfl, rfl⟩
          go_wp2_with fail
          refine (at_pnum _ _ _ HN.out).mono ?_
          rintro _ w1 ⟨rfl, rfl⟩
          go_wp2_with fail
          refine (at_pnum _ _ _ HM.out).mono ?_
          rintro _ w1 ⟨rfl, rfl⟩
          go_wp2
          go_ret3
          rw [HE.out]
          exact ⟨rfl, rfl⟩
        | some m =>
          rw [hm] at ge
          simp only at ge
          obtain ⟨M, hM⟩ : ∃ M : Int, (m : Int) = M := ⟨_, rfl⟩
          have HM : Hid (digV (bsNum (s.extract 6 s.size).data.toList) = .tuple #[.int .i64 M, .bool true]) := by show _ = _; rw [er6, hm, ← hM]; rfl
          have x0 : 0 ≤ M := by omega
          rcases (show m < 56320 ∨ (56320 ≤ m ∧ 57343 < m) ∨ (56320 ≤ m ∧ m ≤ 57343) from by omega) with hq | hq | hq
          · rw [if_neg (by omega)] at ge
            have HE : Hid (X = .tuple #[.int .i64 0, .int .i64 0, .bool false]) := by show _ = _; rw [← hX, ge]; rfl
            have x1 : M < 56320 := by omega
            clear g2 g3 g4 g5 hr hN er6 ge hm hM hq
            clear hX
            go_enter Tryd.func121, Tryd.ntmps121
            go_wp2_with fail
            refine (at_psig _ _ _ HS.out).mono ?_
            rintro _ w1 ⟨rfl, rfl⟩
            go_wp2_with fail
            refine (at_pnum _ _ _ HN.out).mono ?_
            rintro _ w1 ⟨rfl, rfl⟩
            go_wp2_with fail
            refine (at_pnum _ _ _ HM.out).mono ?_
            rintro _ w1 ⟨rfl, rfl⟩
            go_wp2
            go_ret3
            rw [HE.out]
            exact ⟨rfl, rfl⟩
          · rw [if_neg (by omega)] at ge
            have HE : Hid (X = .tuple #[.int .i64 0, .int .i64 0, .bool false]) := by show _ = _; rw [← hX, ge]; rfl
            have x1 : ¬ M < 56320 := by omega
            have x2 : 57343 < M := by omega
            clear g2 g3 g4 g5 hr hN er6 ge hm hM hq
            clear hX
            go_enter Tryd.func121, Tryd.ntmps121
            go_wp2_with fail
            refine (at_psig _ _ _ HS.out).mono ?_
            rintro _ w1 ⟨rfl, rfl⟩
            go_wp2_with fail
            refine (at_pnum _ _ _ HN.out).mono ?_
            rintro _ w1 ⟨rfl, rfl⟩
            go_wp2_with fail
            refine (at_pnum _ _ _ HM.out).mono ?_
            rintro _ w1 ⟨rfl, rfl⟩
            go_wp2
            go_ret3
            rw [HE.out]
            exact ⟨rfl, rfl⟩
          · rw [if_pos hq] at ge
            have HE : Hid (X = .tuple #[.int .i64 (65536 + (N - 55296) * 1024 + (M - 56320)), .int .i64 12, .bool true]) := by
              show _ = _
              rw [← hX, ge]
              have e : ((65536 + 1024 * (n - 55296) + (m - 56320) : Nat) : Int) = 65536 + (N - 55296) * 1024 + (M - 56320) := by omega
              rw [← e]
              rfl
            have x1 : ¬ M < 56320 := by omega
            have x2 : ¬ 57343 < M := by omega
            have x3 : 56320 ≤ M := by omega
            have x4 : M ≤ 57343 := by omega
            clear g2 g3 g4 g5 hr hN er6 ge hm hM hq
            clear hX
            go_enter Tryd.func121, Tryd.ntmps121
            go_wp2_with fail
            refine (at_psig _ _ _ HS.out).mono ?_
            rintro _ w1 ⟨rfl, rfl⟩
            go_wp2_with fail
            refine (at_pnum _ _ _ HN.out).mono ?_
            rintro _ w1 ⟨rfl, rfl⟩
            go_wp2_with fail
            refine (at_pnum _ _ _ HM.out).mono ?_
            rintro _ w1 ⟨rfl, rfl⟩
            go_wp2
            go_ret3
            rw [HE.out]
            exact ⟨rfl, rfl⟩
end Go.Proofs.YtmnigdcgdebgoaaDoor
namespace Go.Proofs.YtmnigdcgdebgoaaDoor
open Go.RowKit
set_option linter.unusedVariables false

/-- string([]byte{..}), behind a draw. -/
theorem lit_backQ (l : List UInt8) (W : World) : Sem.run Tryd.prog (convert 58 9 (.slice (some ⟨W.heap.size, 0, none⟩) l.length l.length)) (W.alloc (.cells (u8s l).toArray 5)).drew = .ok (.string ⟨l.toArray⟩) (W.alloc (.cells (u8s l).toArray 5)).drew := by
  refine run_convert_bytes_back (P := Tryd.prog) _ 58 9 5 ⟨W.heap.size, 0, none⟩ l.length l Tryd.underlying58 Tryd.underlying5 Tryd.underlying9 (fun j hj => ?_)
  have e : (⟨W.heap.size, 0, none⟩ : Addr).add j = ⟨W.heap.size, j, none⟩ := by cases j <;> simp [Addr.add]
  rw [e]
  have := cell_of_row (W.alloc (.cells (u8s l).toArray 5)) W.heap.size j (u8s l).toArray 5 (0, 0) (heap_alloc_new W _)
  show (W.alloc (.cells (u8s l).toArray 5)).cell? _ = _
  rw [this]
  simp [u8s, List.getElem?_eq_getElem hj]
theorem six_backQ (v0 v1 v2 v3 v4 v5 : Int) (c0 c1 c2 c3 c4 c5 : UInt8) (h0 : v0 = (c0.toNat : Int)) (h1 : v1 = (c1.toNat : Int)) (h2 : v2 = (c2.toNat : Int)) (h3 : v3 = (c3.toNat : Int)) (h4 : v4 = (c4.toNat : Int)) (h5 : v5 = (c5.toNat : Int)) (W : World) :
    Sem.run Tryd.prog (convert 58 9 (.slice (some ⟨W.heap.size, 0, none⟩) 6 6)) (W.alloc (.cells #[.int .u8 v0, .int .u8 v1, .int .u8 v2, .int .u8 v3, .int .u8 v4, .int .u8 v5] 5)).drew = .ok (.string ⟨#[c0, c1, c2, c3, c4, c5]⟩) (W.alloc (.cells #[.int .u8 v0, .int .u8 v1, .int .u8 v2, .int .u8 v3, .int .u8 v4, .int .u8 v5] 5)).drew := by
  subst h0 h1 h2 h3 h4 h5
  exact lit_backQ [c0, c1, c2, c3, c4, c5] W

def hexB : ByteArray := ⟨#[48, 49, 50, 51, 52, 53, 54, 55, 56, 57, 97, 98, 99, 100, 101, 102]⟩
theorem hex_at : ∀ a : Fin 16, (hexB[a.1]'(by have := a.2; exact this)).toNat = signQ a.1 := by decide
theorem hex_is (a : Nat) (h : a < 16) : ((⟨#[48, 49, 50, 51, 52, 53, 54, 55, 56, 57, 97, 98, 99, 100, 101, 102]⟩ : ByteArray)[a]'h).toNat = (UInt8.ofNat (signQ a)).toNat := by
  rw [u8n _ (signQ_lt a h)]
  exact hex_at ⟨a, h⟩

/-- Where a byte that has a sign stands, and its sign. -/
theorem short_place (c : UInt8) : (shortN c.toNat = 0 ∧ Lib.indexByte [34, 92, 8, 9, 10, 12, 13] c = -1) ∨ ∃ (k : Nat) (hk : k < 7), Lib.indexByte [34, 92, 8, 9, 10, 12, 13] c = (k : Int) ∧ shortN c.toNat ≠ 0 ∧ ((⟨#[34, 92, 98, 116, 110, 102, 114]⟩ : ByteArray)[k]'hk) = UInt8.ofNat (shortN c.toNat) := by
  by_cases h1 : c = 34
  · subst h1; exact .inr ⟨0, by decide, by decide, by decide, by decide⟩
  by_cases h2 : c = 92
  · subst h2; exact .inr ⟨1, by decide, by decide, by decide, by decide⟩
  by_cases h3 : c = 8
  · subst h3; exact .inr ⟨2, by decide, by decide, by decide, by decide⟩
  by_cases h4 : c = 9
  · subst h4; exact .inr ⟨3, by decide, by decide, by decide, by decide⟩
  by_cases h5 : c = 10
  · subst h5; exact .inr ⟨4, by decide, by decide, by decide, by decide⟩
  by_cases h6 : c = 12
  · subst h6; exact .inr ⟨5, by decide, by decide, by decide, by decide⟩
  by_cases h7 : c = 13
  · subst h7; exact .inr ⟨6, by decide, by decide, by decide, by decide⟩
  refine .inl ⟨?_, indexByte_none _ _ (by simp [h1, h2, h3, h4, h5, h6, h7])⟩
  have e : ∀ n : UInt8, c ≠ n → c.toNat ≠ n.toNat := fun n h k => h (UInt8.toNat.inj k)
  have e1 : c.toNat ≠ 34 := e 34 h1
  have e2 : c.toNat ≠ 92 := e 92 h2
  have e3 : c.toNat ≠ 8 := e 8 h3
  have e4 : c.toNat ≠ 9 := e 9 h4
  have e5 : c.toNat ≠ 10 := e 10 h5
  have e6 : c.toNat ≠ 12 := e 12 h6
  have e7 : c.toNat ≠ 13 := e 13 h7
  unfold shortN
  rw [if_neg e1, if_neg e2, if_neg e3, if_neg e4, if_neg e5, if_neg e6, if_neg e7]

set_option maxRecDepth 100000 in
set_option maxHeartbeats 1600000 in
theorem ppiece_any (c : UInt8) (C : Int) (w : World) (hC : C = (c.toNat : Int)) :
    Calls Tryd.prog 74 #[.int .u8 C] w fun e w' => e = .returned (.string ⟨(pieceL c).toArray⟩) ∧ Below w.heap.size w w' := by
  subst hC
  have hc := c.toNat_lt
  rcases short_place c with ⟨hz, hi⟩ | ⟨k, hk, hi, hz, hq⟩
  · have HI := Lib.hid (fun W => index_any ⟨#[34, 92, 8, 9, 10, 12, 13]⟩ c (c.toNat : Int) (-1) W rfl hi)
    by_cases h32 : c.toNat < 32
    · have d1 : (c.toNat : Int) < 32 := by omega
      obtain ⟨a, ha⟩ : ∃ a, c.toNat / 16 = a := ⟨_, rfl⟩
      obtain ⟨b, hb⟩ : ∃ b, c.toNat % 16 = b := ⟨_, rfl⟩
      have q1 : a < 16 := by omega
      have q2 : b < 16 := by omega
      have q3 : (a : Int) < 16 := by omega
      have q4 : (b : Int) < 16 := by omega
      have r1 : ((c.toNat : Int) / 16) = (a : Int) := by omega
      have r2 : ((c.toNat : Int) % 16) = (b : Int) := by omega
      have r3 : IntKind.u8.wrap (a : Int) = (a : Int) := by
        show ((a : Int) % 256) = _
        omega
      have HE : Hid (pieceL c = [92, 117, 48, 48, UInt8.ofNat (signQ a), UInt8.ofNat (signQ b)]) := by
        show _ = _
        unfold pieceL
        rw [if_neg (by omega), if_pos h32, ha, hb]
      have h6 := fun W => six_backQ 92 117 48 48 (((⟨#[48, 49, 50, 51, 52, 53, 54, 55, 56, 57, 97, 98, 99, 100, 101, 102]⟩ : ByteArray)[a]'q1).toNat : Int) (((⟨#[48, 49, 50, 51, 52, 53, 54, 55, 56, 57, 97, 98, 99, 100, 101, 102]⟩ : ByteArray)[b]'q2).toNat : Int) 92 117 48 48 (UInt8.ofNat (signQ a)) (UInt8.ofNat (signQ b)) rfl rfl rfl rfl (by rw [hex_is a q1]) (by rw [hex_is b q2]) W
      clear ha hb hi hz h32
      go_enter Tryd.func74, Tryd.ntmps74
      go_wp2_with (go_at_call 82; refine (HI.out _).mono ?_; rintro _ w1 ⟨rfl, rfl⟩)
      go_region
      all_goals
        go_wp2
        go_ret
        exact ⟨ret_str (by rw [HE.out]), ((Below.refl _ _).alloc (Nat.le_refl _) _).drew⟩
    · have d1 : ¬ (c.toNat : Int) < 32 := by omega
      have HE : Hid (pieceL c = [c]) := by
        show _ = _
        unfold pieceL
        rw [if_neg (by omega), if_neg h32]
      have h5 := fun W => one_back (c.toNat : Int) c rfl W
      clear hi hz h32
      go_enter Tryd.func74, Tryd.ntmps74
      go_wp2_with (go_at_call 82; refine (HI.out _).mono ?_; rintro _ w1 ⟨rfl, rfl⟩)
      go_ret
      exact ⟨ret_str (by rw [HE.out]), (Below.refl _ _).alloc (Nat.le_refl _) _⟩
  · have HI := Lib.hid (fun W => index_any ⟨#[34, 92, 8, 9, 10, 12, 13]⟩ c (c.toNat : Int) (k : Int) W rfl hi)
    have HE : Hid (pieceL c = [92, UInt8.ofNat (shortN c.toNat)]) := by
      show _ = _
      unfold pieceL
      rw [if_pos hz]
    have hk' : (k : Int) < 7 := by omega
    have h2 := fun W => two_back 92 (((⟨#[34, 92, 98, 116, 110, 102, 114]⟩ : ByteArray)[k]'hk).toNat : Int) 92 (UInt8.ofNat (shortN c.toNat)) rfl (by rw [hq]) W
    clear hi hz hq
    go_enter Tryd.func74, Tryd.ntmps74
    go_wp2_with (go_at_call 82; refine (HI.out _).mono ?_; rintro _ w1 ⟨rfl, rfl⟩)
    go_ret
    exact ⟨ret_str (by rw [HE.out]), (Below.refl _ _).alloc (Nat.le_refl _) _⟩

/-- A kind of pieces, as the program has it: what reads them, and the error. -/
def kindV (f : Nat) (e : Int) : Value := .agg #[.func (.func f) #[] #[], .int .i64 e]

set_option maxRecDepth 100000 in
theorem pkind_low (C : Int) (w : World) (h0 : 0 ≤ C) (h : C < 32) :
    Calls Tryd.prog 114 #[.int .u8 C] w fun e w' => e = .returned (kindV 120 72) ∧ Below w.heap.size w w' := by
  go_enter Tryd.func114, Tryd.ntmps114
  go_wp2
  exact bodyPost_ret (v := kindV 120 72) (by simp [results, Tryd.results114, go_sem, kindV]) rfl ⟨rfl, (Below.refl _ _).alloc (Nat.le_refl _) _⟩

set_option maxRecDepth 100000 in
theorem pkind_esc (C : Int) (w : World) (h : C = 92) :
    Calls Tryd.prog 114 #[.int .u8 C] w fun e w' => e = .returned (kindV 121 73) ∧ Below w.heap.size w w' := by
  subst h
  go_enter Tryd.func114, Tryd.ntmps114
  go_wp2
  exact bodyPost_ret (v := kindV 121 73) (by simp [results, Tryd.results114, go_sem, kindV]) rfl ⟨rfl, (Below.refl _ _).alloc (Nat.le_refl _) _⟩

set_option maxRecDepth 100000 in
theorem pkind_utf (C : Int) (w : World) (h : ¬ C < 32) (h92 : C ≠ 92) :
    Calls Tryd.prog 114 #[.int .u8 C] w fun e w' => e = .returned (kindV 88 74) ∧ Below w.heap.size w w' := by
  have d3 : (C == 92) = false := by rw [beq_eq_false_iff_ne]; exact h92
  go_enter Tryd.func114, Tryd.ntmps114
  go_wp2
  exact bodyPost_ret (v := kindV 88 74) (by simp [results, Tryd.results114, go_sem, kindV]) rfl ⟨rfl, (Below.refl _ _).alloc (Nat.le_refl _) _⟩
end Go.Proofs.YtmnigdcgdebgoaaDoor
namespace Go.Proofs.YtmnigdcgdebgoaaDoor
open Go.RowKit
set_option linter.unusedVariables false

/-- What Write holds at place k: the builder is in block g. -/
def WritesPAt (s : ByteArray) (g : Nat) (w0 : World) (i : Value) (wr : World) : Prop :=
  ∃ k : Nat, k ≤ s.size ∧ i = .int .i64 (k : Int) ∧ Bld wr g (34 :: innerL (s.data.toList.take k)) ∧ Below g w0 wr

set_option maxRecDepth 100000 in
set_option maxHeartbeats 1600000 in
theorem qwrite_any (s : ByteArray) (w : World) (hT : Tabs w) (hs : s.size ≤ 1000000000000) :
    Calls Tryd.prog 54 #[.string s] w fun e w' => e = .returned (quoteV s) ∧ Below w.heap.size w w' := by
  cases hv : validB s with
  | false =>
    have HE : Hid (quoteV s = .tuple #[.string ByteArray.empty, .bool false]) := by show _ = _; unfold quoteV; rw [hv]; rfl
    have HV := Lib.hid hv
    clear hv
    go_enter Tryd.func54, Tryd.ntmps54
    go_wp2_with fail
    refine (valid_any s _ hT hs).mono ?_
    rintro _ w1 ⟨rfl, hb1⟩
    rw [HV.out]
    go_wp2
    go_ret2
    rw [HE.out]
    exact ⟨rfl, hb1⟩
  | true =>
    have HE : Hid (quoteV s = .tuple #[.string ⟨(quoteL s.data.toList).toArray⟩, .bool true]) := by show _ = _; unfold quoteV; rw [hv]; rfl
    have HV := Lib.hid hv
    have HL := Lib.hid (list_len s)
    clear hv
    go_enter Tryd.func54, Tryd.ntmps54
    go_wp2_with fail
    refine (valid_any s _ hT hs).mono ?_
    rintro _ w1 ⟨rfl, hb1⟩
    rw [HV.out]
    have HB0 := Lib.hid (Bld.fresh w1)
    have hbe0 := (Below.refl w1.heap.size w1).alloc (Nat.le_refl _) (.cells #[.pointer none, .slice none 0 0] 60)
    go_wp2_with fail
    refine (wbyte_any w1.heap.size [] 34 _ _ rfl HB0.out (by simp)).mono ?_
    rintro _ w2 ⟨rfl, hB2, hb2⟩
    have hbe2 := hbe0.trans hb2
    have HB2 := Lib.hid hB2
    clear hb2 hB2 HB0 hbe0
    go_wp2
    go_loopw [12] (fun i wr => WritesPAt s w1.heap.size w1 i wr) (fun i _ => s.size - (intOf i).toNat)
    case atStart => exact ⟨0, by omega, rfl, HB2.out, hbe2⟩
    case round =>
      obtain ⟨k, hk, rfl, hbl, hbe⟩ := hrel
      have HB := Lib.hid hbl
      have hlt0 := hbl.lt
      have hil := innerL_len (s.data.toList.take k)
      have hil2 : (s.data.toList.take k).length ≤ k := List.length_take_le _ _
      have hlen : (34 :: innerL (s.data.toList.take k)).length ≤ 6 * k + 1 := by rw [List.length_cons]; omega
      have HLN := Lib.hid hlen
      clear hbl hil hil2 hlen HB2 hbe2
      by_cases hlt : k < s.size
      · have HN : Hid ((34 :: innerL (s.data.toList.take k)) ++ (⟨(pieceL s[k]).toArray⟩ : ByteArray).data.toList = 34 :: innerL (s.data.toList.take (k + 1))) := by
          show _ = _
          rw [take_snoc s k hlt, innerL_snoc]
          rfl
        have HQ : Hid ((34 :: innerL (s.data.toList.take k)).length + (⟨(pieceL s[k]).toArray⟩ : ByteArray).size ≤ 140737488355328) := by
          show _ ≤ _
          have e : (⟨(pieceL s[k]).toArray⟩ : ByteArray).size = (pieceL s[k]).length := by
            show (pieceL s[k]).toArray.size = _
            rw [List.size_toArray]
          have := pieceL_len s[k]
          have := HLN.out
          omega
        go_wp2_with fail
        refine (ppiece_any s[k] _ _ rfl).mono ?_
        rintro _ w3 ⟨rfl, hb3⟩
        have HB3 := Lib.hid (HB.out.keep hb3)
        have hbe3 := hbe.trans (hb3.mono (Nat.le_of_lt hlt0))
        clear HB hb3 hbe
        go_wp2_with fail
        refine (wstr_any w1.heap.size _ _ _ HB3.out HQ.out).mono ?_
        rintro _ w4 ⟨rfl, hB4, hb4⟩
        rw [HN.out] at hB4
        have hbe4 := hbe3.trans hb4
        have HB4 := Lib.hid hB4
        clear hB4 hb4 HB3 hbe3
        go_wp2
        go_roundw
        case rel => exact ⟨k + 1, by omega, by go_num, HB4.out, hbe4⟩
        case measure => simp [intOf]; omega
      · have e : s.data.toList.take k = s.data.toList := List.take_of_length_le (by rw [HL.out]; omega)
        have HF : Hid ((34 :: innerL (s.data.toList.take k)) ++ [34] = quoteL s.data.toList) := by show _ = _; rw [e]; rfl
        have HQ : Hid ((34 :: innerL (s.data.toList.take k)).length + 1 ≤ 140737488355328) := by
          show _ ≤ _
          have := HLN.out
          omega
        clear e
        go_wp2_with fail
        refine (wbyte_any w1.heap.size _ 34 _ _ rfl HB.out HQ.out).mono ?_
        rintro _ w3 ⟨rfl, hB3, hb3⟩
        rw [HF.out] at hB3
        have HB3 := Lib.hid hB3
        have hbe3 := hbe.trans hb3
        clear hB3 hb3 HB hbe
        go_wp2_with fail
        refine (bstring_any w1.heap.size _ _ HB3.out).mono ?_
        rintro _ w4 ⟨rfl, hb4⟩
        have hbe4 := hbe3.trans hb4
        go_wp2
        go_ret2
        rw [HE.out]
        exact ⟨rfl, chain hb1 hbe4⟩
end Go.Proofs.YtmnigdcgdebgoaaDoor
namespace Go.Proofs.YtmnigdcgdebgoaaDoor
open Go.RowKit
set_option linter.unusedVariables false

theorem callN (args : Array Value) (w : World) : Sem.run Tryd.prog (callFunc 120 args) w = .ok (.enter 120 args) w := by go_simp
theorem callE (args : Array Value) (w : World) : Sem.run Tryd.prog (callFunc 121 args) w = .ok (.enter 121 args) w := by go_simp
theorem callU (args : Array Value) (w : World) : Sem.run Tryd.prog (callFunc 88 args) w = .ok (.enter 88 args) w := by go_simp

/-- The kind of the piece at place k of s: f reads it, and tells L, N and b; E is its error. -/
structure KindAt (s : ByteArray) (k : Nat) (hk : k < s.size) (f : Nat) (E L N : Int) (b : Bool) : Prop where
  kind : ∀ w, Calls Tryd.prog 114 #[.int .u8 (s[k].toNat : Int)] w fun e w' => e = .returned (kindV f E) ∧ Below w.heap.size w w'
  enter : ∀ args w, Sem.run Tryd.prog (callFunc f args) w = .ok (.enter f args) w
  tells : ∀ w, Tabs w → Calls Tryd.prog f #[.string (s.extract k s.size)] w fun e w' => e = .returned (.tuple #[.int .i64 L, .int .i64 N, .bool b]) ∧ Below w.heap.size w w'

/-- What that is by the document. -/
def PieceAt (s : ByteArray) (k : Nat) (E L N : Int) (b : Bool) : Prop :=
  (b = true ∧ ∃ r n : Nat, L = (r : Int) ∧ N = (n : Int) ∧ letter r ∧ pieceQ (s.data.toList.drop k) = (0, putU r, n)) ∨ (b = false ∧ ∃ e : Nat, E = (e : Int) ∧ e ≠ 0 ∧ pieceQ (s.data.toList.drop k) = (e, [], 0))

theorem kind_at (s : ByteArray) (k : Nat) (hk : k < s.size) : ∃ f E L N b, KindAt s k hk f E L N b ∧ PieceAt s k E L N b := by
  have hp := piece_cons s k hk
  have hc := s[k].toNat_lt
  have hr := rest_of s k
  have hz : 0 < (s.extract k s.size).size := by rw [ByteArray.size_extract]; omega
  by_cases h32 : s[k].toNat < 32
  · rw [if_pos h32] at hp
    refine ⟨_, 72, 0, 0, false, ⟨fun w => pkind_low _ w (by omega) (by omega), callN, fun w hT => (pnothing_any _ w).mono ?_⟩, .inr ⟨rfl, 72, rfl, by decide, hp⟩⟩
    rintro e w' ⟨rfl, rfl⟩
    exact ⟨rfl, Below.refl _ _⟩
  · rw [if_neg h32] at hp
    by_cases h92 : s[k].toNat = 92
    · rw [if_pos h92] at hp
      have h0 : (s.extract k s.size)[0].toNat = 92 := by
        rw [ByteArray.getElem_extract]
        exact h92
      have hd : (s.extract k s.size).data.toList.drop 1 = s.data.toList.drop (k + 1) := by rw [hr, List.drop_drop]
      have hE := fun w => pescape_any (s.extract k s.size) w hz h0
      rw [hd] at hE
      cases he : escQ (s.data.toList.drop (k + 1)) with
      | none =>
        rw [he] at hp hE
        refine ⟨_, 73, 0, 0, false, ⟨fun w => pkind_esc _ w (by omega), callE, fun w hT => (hE w).mono ?_⟩, .inr ⟨rfl, 73, rfl, by decide, hp⟩⟩
        rintro e w' ⟨rfl, rfl⟩
        exact ⟨rfl, Below.refl _ _⟩
      | some p =>
        obtain ⟨r, n⟩ := p
        obtain ⟨e1, _⟩ := escQ_yes _ _ _ he
        rw [he] at hp hE
        refine ⟨_, 73, (r : Int), (n : Int), true, ⟨fun w => pkind_esc _ w (by omega), callE, fun w hT => (hE w).mono ?_⟩, .inl ⟨rfl, r, n, rfl, rfl, e1, hp⟩⟩
        rintro e w' ⟨rfl, rfl⟩
        exact ⟨rfl, Below.refl _ _⟩
    · rw [if_neg h92] at hp
      obtain ⟨r, n, b, ht⟩ : ∃ r n b, takeU (s.data.toList.drop k) = (r, n, b) := ⟨_, _, _, rfl⟩
      have ht' : takeU (s.extract k s.size).data.toList = (r, n, b) := by rw [hr]; exact ht
      rw [ht] at hp
      refine ⟨_, 74, (r : Int), (n : Int), b, ⟨fun w => pkind_utf _ w (by omega) (by omega), callU, fun w hT => takeu_any _ r n b w hT ht'⟩, ?_⟩
      cases b with
      | true =>
        obtain ⟨y1, y2, _⟩ := takeU_yes _ _ _ ht
        refine .inl ⟨rfl, r, n, rfl, rfl, y1, ?_⟩
        rw [y2]
        exact hp
      | false => exact .inr ⟨rfl, 74, rfl, by decide, hp⟩

/-- Reading goes on: no fewer bytes are read in the end. -/
theorem readR_more (l out : List UInt8) (k : Nat) (u : List UInt8) (n : Nat) (h : readR l out k = (0, u, n)) : k ≤ n := by
  generalize hm : l.length = m
  induction m using Nat.strongRecOn generalizing l out k with
  | _ m ih =>
    by_cases h34 : l.head? = some 34
    · rw [readR_end _ _ _ h34] at h
      simp only [Prod.mk.injEq] at h
      omega
    · by_cases h0 : (pieceQ l).1 = 0
      · obtain ⟨_, p2, p3, _⟩ := pieceQ_yes l h0
        rw [readR_step _ _ _ h34 h0] at h
        have := ih (l.drop (pieceQ l).2.2).length (by rw [List.length_drop]; omega) _ _ _ h rfl
        omega
      · rw [readR_err _ _ _ h34 h0] at h
        simp only [Prod.mk.injEq] at h
        exact absurd h.1 h0

/-- How far Read comes at most. -/
def Room (s : ByteArray) : Prop := ∀ (k : Nat) (o : List UInt8), k ≤ s.size → readQ s.data.toList = readR (s.data.toList.drop k) o k → o.length ≤ k → k ≤ 140737488351232
theorem room_of (s : ByteArray) (hn : s.size ≤ 140737488351232 ∨ ∃ u n, readQ s.data.toList = (0, u, n) ∧ n ≤ 1000000) : Room s := by
  intro k o hk h _
  rcases hn with hn | ⟨u, n, h1, h2⟩
  · omega
  · have := readR_more _ _ _ _ _ (h.symm.trans h1)
    omega
end Go.Proofs.YtmnigdcgdebgoaaDoor
namespace Go.Proofs.YtmnigdcgdebgoaaDoor
open Go.RowKit
set_option linter.unusedVariables false

/-- What Read holds: the builder in block g has o, k bytes are read. -/
def ReadsPAt (s : ByteArray) (g : Nat) (w0 : World) (at_ : Value) (wr : World) : Prop :=
  ∃ (o : List UInt8) (k : Nat), at_ = .int .i64 (k : Int) ∧ 1 ≤ k ∧ k ≤ s.size ∧ o.length ≤ k ∧ readQ s.data.toList = readR (s.data.toList.drop k) o k ∧ Bld wr g o ∧ Below g w0 wr

theorem prefix_q (s : ByteArray) : Lib.hasPrefix s.data.toList (⟨#[34]⟩ : ByteArray).data.toList = decide (s.data.toList.head? = some 34) := by
  unfold Lib.hasPrefix
  rw [Bool.eq_iff_iff, List.isPrefixOf_iff_prefix, decide_eq_true_eq]
  show [34] <+: _ ↔ _
  cases s.data.toList with
  | nil => simp
  | cons c t =>
    rw [List.cons_prefix_cons]
    simp [eq_comm]

set_option maxRecDepth 100000 in
set_option maxHeartbeats 1600000 in
theorem qread_any (s : ByteArray) (w : World) (hT : Tabs w) (hs : s.size ≤ 150000000000000) (hn : s.size ≤ 140737488351232 ∨ ∃ u n, readQ s.data.toList = (0, u, n) ∧ n ≤ 1000000) :
    Calls Tryd.prog 103 #[.string s] w fun e w' => e = .returned (pieceW (readQ s.data.toList)) ∧ Below w.heap.size w w' := by
  have HRM := Lib.hid (room_of s hn)
  have hp := prefix_q s
  have HT := Lib.hid hT
  clear hn hT
  obtain ⟨X, hX⟩ : ∃ X, pieceW (readQ s.data.toList) = X := ⟨_, rfl⟩
  rw [hX]
  by_cases h34 : s.data.toList.head? = some 34
  · rw [decide_eq_true h34] at hp
    have HP := Lib.hid hp
    have HX := Lib.hid hX
    have h1 : 1 ≤ s.size := by
      rcases Nat.lt_or_ge 0 s.size with h | h
      · exact h
      · have := head_end s 0 (by omega)
        rw [List.drop_zero, h34] at this
        cases this
    have HQ : Hid (readQ s.data.toList = readR (s.data.toList.drop 1) [] 1) := by
      show _ = _
      unfold readQ
      rw [if_pos h34, List.drop_one]
    clear hX hp h34
    have HB0 := Lib.hid (Bld.fresh w)
    have hbe0 := (Below.refl w.heap.size w).alloc (Nat.le_refl _) (.cells #[.pointer none, .slice none 0 0] 60)
    go_enter Tryd.func103, Tryd.ntmps103
    go_wp2
    go_step3
    go_wp2_with fail
    refine (prefix_at s ⟨#[34]⟩ true _ HP.out).mono ?_
    rintro _ w1 ⟨rfl, rfl⟩
    clear HP
    go_wp2
    go_step3
    go_wp2
    go_loopw [6] (fun i wr => ReadsPAt s w.heap.size w i wr) (fun i _ => s.size - (intOf i).toNat)
    case atStart => exact ⟨[], 1, rfl, by omega, h1, by simp, HQ.out, HB0.out, hbe0⟩
    case round =>
      obtain ⟨o, k, rfl, q1, q2, q3, q4, hbl, hbe⟩ := hrel
      have H4 := Lib.hid q4
      have HB := Lib.hid hbl
      have hlt0 := hbl.lt
      clear q4 hbl HQ HB0 hbe0
      by_cases hk : k < s.size
      · have z0 : ((k : Int) == (s.size : Int)) = false := by rw [beq_eq_false_iff_ne]; omega
        have z9 : ¬ (k : Int) = (s.size : Int) := by omega
        by_cases he : s[k].toNat = 34
        · have HE : Hid (X = .tuple #[.string ⟨o.toArray⟩, .int .i64 ((k : Int) + 1), .int .i64 0]) := by
            show _ = _
            rw [← HX.out, H4.out, readR_end]
            · rfl
            · rw [head_drop s k hk]
              congr 1
              exact UInt8.toNat.inj he
          have z1 : (s[k].toNat : Int) = 34 := by omega
          clear he H4 HX
          go_wp2_with fail
          refine (bstring_any w.heap.size _ _ HB.out).mono ?_
          rintro _ w2 ⟨rfl, hb2⟩
          have hbe2 := hbe.trans hb2
          go_wp2
          rw [Exit.noGoto_ret]
          go_ret3
          rw [HE.out]
          exact ⟨rfl, hbe2⟩
        · have z1 : ((s[k].toNat : Int) == 34) = false := by rw [beq_eq_false_iff_ne]; omega
          have z2 : ¬ (s[k].toNat : Int) = 34 := by omega
          have hne : (s.data.toList.drop k).head? ≠ some 34 := by
            rw [head_drop s k hk]
            intro e
            have e2 := Option.some.inj e
            exact he (by rw [e2]; rfl)
          obtain ⟨f, E, L, N, b, hK, hP⟩ := kind_at s k hk
          have HK := Lib.hid hK
          have HPP := Lib.hid hP
          have HNE := Lib.hid hne
          have hen := hK.enter
          clear he hne hK hP
          rcases HPP.out with ⟨rfl, r, n, hL, hN, hr, hp⟩ | ⟨rfl, e, hE, he, hp⟩
          · have h0' : (pieceQ (s.data.toList.drop k)).1 = 0 := by rw [hp]
            obtain ⟨_, p2, p3, _⟩ := pieceQ_yes _ h0'
            have p4 := pieceQ_long _ h0'
            have hst := readR_step _ o k HNE.out h0'
            rw [hp] at p2 p3 p4 hst
            rw [List.length_drop, list_len] at p3
            simp only at p2 p3 p4 hst
            have g1 : readQ s.data.toList = readR (s.data.toList.drop (k + n)) (o ++ putU r) (k + n) := by rw [H4.out, hst, List.drop_drop]
            have g3 : k + n ≤ s.size := by omega
            have groom := HRM.out (k + n) (o ++ putU r) g3 g1 (by rw [List.length_append]; omega)
            have hro : o.length + (putUB r).size ≤ 140737488355328 := by
              have e : (putUB r).size = (putU r).length := bytes_size _
              omega
            have HRO := Lib.hid hro
            have G1 := Lib.hid g1
            have HLO := Lib.hid p4
            have HL := Lib.hid hL
            have HR := Lib.hid hr
            have n1 := p2
            subst hN
            clear hp h0' p3 p4 hst g1 hro hL hr HPP HNE H4 groom
            go_wp2_with fail
            refine (HK.out.kind _).mono ?_
            rintro _ w2 ⟨rfl, hb2⟩
            unfold kindV
            have z3 : (k : Int) ≤ (s.size : Int) := by omega
            go_wp2_with fail
            have hsz2 := hb2.size
            have HB2 := Lib.hid (HB.out.keep hb2)
            have hbe2 := hbe.trans (hb2.mono (Nat.le_of_lt hlt0))
            have HB3 := Lib.hid (HB2.out.keep ((Below.refl w2.heap.size w2).alloc (Nat.le_refl _) (.cells #[.func (.func f) #[] #[], .int .i64 E] 144)))
            have hbe3 := hbe2.alloc (show w.heap.size ≤ w2.heap.size by omega) (.cells #[.func (.func f) #[] #[], .int .i64 E] 144)
            have c0 : (w2.alloc (.cells #[.func (.func f) #[] #[], .int .i64 E] 144)).cell? ⟨w2.heap.size, 0, none⟩ = some (.func (.func f) #[] #[]) := by simp
            have c1 : (w2.alloc (.cells #[.func (.func f) #[] #[], .int .i64 E] 144)).cell? ⟨w2.heap.size, 1, none⟩ = some (.int .i64 E) := by simp
            have hz3 : (w2.alloc (.cells #[.func (.func f) #[] #[], .int .i64 E] 144)).heap.size = w2.heap.size + 1 := by simp
            obtain ⟨W3, hW⟩ : ∃ W3, w2.alloc (.cells #[.func (.func f) #[] #[], .int .i64 E] 144) = W3 := ⟨_, rfl⟩
            obtain ⟨B, hB⟩ : ∃ B, w2.heap.size = B := ⟨_, rfl⟩
            rw [hW] at HB3 hbe3 c0 c1 hz3
            rw [hW]
            rw [hB] at c0 c1 hz3 hsz2
            rw [hB]
            have hBl : B < W3.drew.heap.size := by
              show B < W3.heap.size
              omega
            have hbl3 : w.heap.size < W3.heap.size := by omega
            clear HB HB2 hbe hbe2 hb2 hW hB
            go_region_held3 (fun W => W.cell? ⟨B, 0, none⟩ = some (.func (.func f) #[] #[]) ∧ W.cell? ⟨B, 1, none⟩ = some (.int .i64 E)) (first | exact ⟨by assumption, by assumption⟩) (first
              | (refine (HK.out.tells _ (HT.out.keep hbe3.drew)).mono ?_; rintro _ w4 ⟨rfl, hb4⟩; have d0 := (hb4.cell (p := ⟨B, 0, none⟩) hBl).trans c0; have d1 := (hb4.cell (p := ⟨B, 1, none⟩) hBl).trans c1))
            all_goals
              have hbe4 := hbe3.drew.trans (hb4.mono (Nat.le_of_lt hbl3))
              have HB4 := Lib.hid (Bld.keep (w := W3.drew) HB3.out hb4)
              clear hb4 HB3 hbe3 c0 c1 d0 d1
              go_wp2_with fail
              refine (at_putu r L _ HL.out HR.out).mono ?_
              rintro _ w5 ⟨rfl, hb5⟩
              have HB5 := Lib.hid (HB4.out.keep hb5)
              have hbe5 := hbe4.trans (hb5.mono hbe4.size)
              clear HB4 hbe4 hb5
              go_wp2_with fail
              refine (wstr_any w.heap.size _ _ _ HB5.out HRO.out).mono ?_
              rintro _ w6 ⟨rfl, hB6, hb6⟩
              have HB6 := Lib.hid hB6
              have hbe6 := hbe5.trans hb6
              clear HB5 hbe5 hb6 hB6
              go_wp2
              go_roundw
              case rel => exact ⟨o ++ putU r, k + n, by go_num, by omega, g3, by rw [List.length_append]; have := HLO.out; omega, G1.out, HB6.out, hbe6⟩
              case measure => simp [intOf]; omega
          · have HE : Hid (X = .tuple #[.string ByteArray.empty, .int .i64 0, .int .i64 E]) := by
              show _ = _
              rw [← HX.out, H4.out, readR_err _ _ _ HNE.out (by rw [hp]; exact he), hp, hE]
              rfl
            clear hp hE he HPP HNE H4 HX
            go_wp2_with fail
            refine (HK.out.kind _).mono ?_
            rintro _ w2 ⟨rfl, hb2⟩
            unfold kindV
            have z3 : (k : Int) ≤ (s.size : Int) := by omega
            go_wp2_with fail
            have hsz2 := hb2.size
            have HB2 := Lib.hid (HB.out.keep hb2)
            have hbe2 := hbe.trans (hb2.mono (Nat.le_of_lt hlt0))
            have HB3 := Lib.hid (HB2.out.keep ((Below.refl w2.heap.size w2).alloc (Nat.le_refl _) (.cells #[.func (.func f) #[] #[], .int .i64 E] 144)))
            have hbe3 := hbe2.alloc (show w.heap.size ≤ w2.heap.size by omega) (.cells #[.func (.func f) #[] #[], .int .i64 E] 144)
            have c0 : (w2.alloc (.cells #[.func (.func f) #[] #[], .int .i64 E] 144)).cell? ⟨w2.heap.size, 0, none⟩ = some (.func (.func f) #[] #[]) := by simp
            have c1 : (w2.alloc (.cells #[.func (.func f) #[] #[], .int .i64 E] 144)).cell? ⟨w2.heap.size, 1, none⟩ = some (.int .i64 E) := by simp
            have hz3 : (w2.alloc (.cells #[.func (.func f) #[] #[], .int .i64 E] 144)).heap.size = w2.heap.size + 1 := by simp
            obtain ⟨W3, hW⟩ : ∃ W3, w2.alloc (.cells #[.func (.func f) #[] #[], .int .i64 E] 144) = W3 := ⟨_, rfl⟩
            obtain ⟨B, hB⟩ : ∃ B, w2.heap.size = B := ⟨_, rfl⟩
            rw [hW] at HB3 hbe3 c0 c1 hz3
            rw [hW]
            rw [hB] at c0 c1 hz3 hsz2
            rw [hB]
            have hBl : B < W3.drew.heap.size := by
              show B < W3.heap.size
              omega
            have hbl3 : w.heap.size < W3.heap.size := by omega
            clear HB HB2 hbe hbe2 hb2 hW hB
            go_region_held3 (fun W => W.cell? ⟨B, 0, none⟩ = some (.func (.func f) #[] #[]) ∧ W.cell? ⟨B, 1, none⟩ = some (.int .i64 E)) (first | exact ⟨by assumption, by assumption⟩) (first
              | (refine (HK.out.tells _ (HT.out.keep hbe3.drew)).mono ?_; rintro _ w4 ⟨rfl, hb4⟩; have d0 := (hb4.cell (p := ⟨B, 0, none⟩) hBl).trans c0; have d1 := (hb4.cell (p := ⟨B, 1, none⟩) hBl).trans c1))
            all_goals
              have hbe4 := hbe3.drew.trans (hb4.mono (Nat.le_of_lt hbl3))
              clear hb4 HB3 hbe3 c0 c1
              go_wp2_with fail
              go_quiet (fail)
              go_wp2
              rw [Exit.noGoto_ret]
              go_ret3
              rw [HE.out]
              exact ⟨rfl, hbe4.trans ⟨rfl, rfl, rfl, Nat.le_refl _, fun _ _ => rfl⟩⟩
      · have e : k = s.size := by omega
        subst e
        have HE : Hid (X = .tuple #[.string ByteArray.empty, .int .i64 0, .int .i64 71]) := by
          show _ = _
          rw [← HX.out, H4.out, readR_err]
          · rw [piece_nil s _ (by omega)]
            rfl
          · rw [head_end s _ (by omega)]
            simp
          · rw [piece_nil s _ (by omega)]
            simp
        clear H4 HX
        go_wp2
        rw [Exit.noGoto_ret]
        go_ret3
        rw [HE.out]
        exact ⟨rfl, hbe⟩
  · rw [decide_eq_false h34] at hp
    have HP := Lib.hid hp
    have HE : Hid (X = .tuple #[.string ByteArray.empty, .int .i64 0, .int .i64 70]) := by
      show _ = _
      rw [← hX]
      unfold readQ
      rw [if_neg h34]
      rfl
    clear hX hp h34
    go_enter Tryd.func103, Tryd.ntmps103
    go_wp2
    go_step3
    go_wp2_with fail
    refine (prefix_at s ⟨#[34]⟩ false _ HP.out).mono ?_
    rintro _ w1 ⟨rfl, rfl⟩
    go_wp2
    rw [Exit.noGoto_ret]
    go_ret3
    rw [HE.out]
    exact ⟨rfl, Below.refl _ _⟩
end Go.Proofs.YtmnigdcgdebgoaaDoor
