/-
  The program's own escape (package quote): a contract.
-/
import Derived.Test.YtfpokkpklbkhiaaDoorQuoteNumP
import Derived.Test.YtfpokkpklbkhiaaDoorQuotePiece
namespace Go.Proofs.YtfpokkpklbkhiaaDoor
open Go.RowKit
set_option linter.unusedVariables false

/-- What a piece is read as: the letter, how many bytes, and whether there is one. -/
def escP (o : Option (Nat × Nat)) : Value := match o with
  | some (r, n) => .tuple #[.int .i64 (r : Int), .int .i64 (n : Int), .bool true]
  | none => .tuple #[.int .i64 0, .int .i64 0, .bool false]

theorem esc_head (s : ByteArray) (r : Nat) (h : headBack (s.data.toList.drop 1) = some r) : escQ (s.data.toList.drop 1) = some (r, 2) := by
  by_cases h1 : 1 < s.size
  · have e := drop_cons s 1 h1
    refine esc_back s 1 r h1 ?_
    rw [e] at h
    exact h
  · rw [List.drop_eq_nil_of_le (by rw [list_len]; omega)] at h
    cases h

theorem esc_by (s : ByteArray) (h0 : 0 < s.size) (h92 : s[0].toNat = 92) (h : headBack (s.data.toList.drop 1) = none) :
    (bsNum s.data.toList = none → escQ (s.data.toList.drop 1) = none) ∧ ∀ n, bsNum s.data.toList = some n → 6 ≤ s.size ∧ n < 65536 ∧ (56320 ≤ n ∧ n ≤ 57343 → escQ (s.data.toList.drop 1) = none) ∧ (n < 55296 ∨ 57343 < n → escQ (s.data.toList.drop 1) = some (n, 6)) ∧ (55296 ≤ n ∧ n ≤ 56319 → escQ (s.data.toList.drop 1) = (pairQ n (s.data.toList.drop 6)).map fun r => (r, 12)) := by
  have hz := bsNum_zero s h0
  rw [if_pos h92] at hz
  by_cases h1 : 1 < s.size
  · have hb : backN s[1].toNat = none := by
      rw [drop_cons s 1 h1] at h
      exact h
    refine ⟨fun hn => esc_no s 1 h1 hb (hz.symm.trans hn), fun n hn => ?_⟩
    have hn' := hz.symm.trans hn
    obtain ⟨q1, q2, _⟩ := numQ_yes _ _ hn'
    rw [List.length_drop, list_len] at q2
    exact ⟨by omega, q1, fun hr => esc_low s 1 n h1 hb hn' hr, fun hr => esc_one s 1 n h1 hb hn' hr, fun hr => esc_two s 1 n h1 hb hn' hr⟩
  · refine ⟨fun _ => esc_nil s 1 h1, fun n hn => ?_⟩
    rw [bsNum_short s (by omega)] at hn
    cases hn

theorem at_pnum (s : ByteArray) (v : Value) (w : World) (h : digV (bsNum s.data.toList) = v) :
    Calls Tryd.prog 43 #[.string s] w fun e w' => e = .returned v ∧ w = w' := h ▸ pnumber_any s w
theorem at_psig (s : ByteArray) (v : Value) (w : World) (h : digV (headBack s.data.toList) = v) :
    Calls Tryd.prog 42 #[.string s] w fun e w' => e = .returned v ∧ w = w' := h ▸ psigned_any s w

set_option maxRecDepth 100000 in
set_option maxHeartbeats 1600000 in
theorem pescape_any (s : ByteArray) (w : World) (h0 : 0 < s.size) (h92 : s[0].toNat = 92) :
    Calls Tryd.prog 35 #[.string s] w fun e w' => e = .returned (escP (escQ (s.data.toList.drop 1))) ∧ w = w' := by
  have z0 : (1 : Int) ≤ (s.size : Int) := by omega
  have z1 : 1 ≤ s.size := by omega
  obtain ⟨X, hX⟩ : ∃ X, escP (escQ (s.data.toList.drop 1)) = X := ⟨_, rfl⟩
  rw [hX]
  have er := rest_of s 1
  have er6 := rest_of s 6
  cases hb : headBack (s.data.toList.drop 1) with
  | some r =>
    have HE : Hid (X = .tuple #[.int .i64 (r : Int), .int .i64 2, .bool true]) := by show _ = _; rw [← hX, esc_head s r hb]; rfl
    have HS : Hid (digV (headBack (s.extract 1 s.size).data.toList) = .tuple #[.int .i64 (r : Int), .bool true]) := by show _ = _; rw [er, hb]; rfl
    clear hb er er6 h92
    clear hX
    go_enter Tryd.func35, Tryd.ntmps35
    go_wp2_with fail
    refine (at_psig _ _ _ HS.out).mono ?_
    rintro _ w1 ⟨rfl, rfl⟩
    go_wp2
    go_ret3
    rw [HE.out]
    exact ⟨rfl, rfl⟩
  | none =>
    obtain ⟨f1, f2⟩ := esc_by s h0 h92 hb
    have HS : Hid (digV (headBack (s.extract 1 s.size).data.toList) = .tuple #[.int .i64 0, .bool false]) := by show _ = _; rw [er, hb]; rfl
    clear hb er h92
    cases hn : bsNum s.data.toList with
    | none =>
      have HE : Hid (X = .tuple #[.int .i64 0, .int .i64 0, .bool false]) := by show _ = _; rw [← hX, f1 hn]; rfl
      have HN : Hid (digV (bsNum s.data.toList) = .tuple #[.int .i64 0, .bool false]) := by show _ = _; rw [hn]; rfl
      clear f1 f2 hn er6
      clear hX
      go_enter Tryd.func35, Tryd.ntmps35
      go_wp2_with fail
      refine (at_psig _ _ _ HS.out).mono ?_
      rintro _ w1 ⟨rfl, rfl⟩
      go_wp2_with fail
      refine (at_pnum _ _ _ HN.out).mono ?_
      rintro _ w1 ⟨rfl, rfl⟩
      go_wp2
      go_ret3
      rw [HE.out]
      exact ⟨rfl, rfl⟩
    | some n =>
      obtain ⟨g1, g2, g3, g4, g5⟩ := f2 n hn
      have z6 : (6 : Int) ≤ (s.size : Int) := by omega
      obtain ⟨N, hN⟩ : ∃ N : Int, (n : Int) = N := ⟨_, rfl⟩
      have HN : Hid (digV (bsNum s.data.toList) = .tuple #[.int .i64 N, .bool true]) := by show _ = _; rw [hn, ← hN]; rfl
      have y0 : 0 ≤ N := by omega
      clear f1 f2 hn
      rcases (show (56320 ≤ n ∧ n ≤ 57343) ∨ n < 55296 ∨ 57343 < n ∨ (55296 ≤ n ∧ n ≤ 56319) from by omega) with hr | hr | hr | hr
      · have HE : Hid (X = .tuple #[.int .i64 0, .int .i64 0, .bool false]) := by show _ = _; rw [← hX, g3 hr]; rfl
        have y1 : 56320 ≤ N := by omega
        have y2 : N ≤ 57343 := by omega
        clear g2 g3 g4 g5 hr hN er6
        clear hX
        go_enter Tryd.func35, Tryd.ntmps35
        go_wp2_with fail
        refine (at_psig _ _ _ HS.out).mono ?_
        rintro _ w1 ⟨rfl, rfl⟩
        go_wp2_with fail
        refine (at_pnum _ _ _ HN.out).mono ?_
        rintro _ w1 ⟨rfl, rfl⟩
        go_wp2
        go_ret3
        rw [HE.out]
        exact ⟨rfl, rfl⟩
      · have HE : Hid (X = .tuple #[.int .i64 N, .int .i64 6, .bool true]) := by show _ = _; rw [← hX, g4 (.inl hr), ← hN]; rfl
        have y1 : ¬ 56320 ≤ N := by omega
        have y2 : N < 55296 := by omega
        clear g2 g3 g4 g5 hr hN er6
        clear hX
        go_enter Tryd.func35, Tryd.ntmps35
        go_wp2_with fail
        refine (at_psig _ _ _ HS.out).mono ?_
        rintro _ w1 ⟨rfl, rfl⟩
        go_wp2_with fail
        refine (at_pnum _ _ _ HN.out).mono ?_
        rintro _ w1 ⟨rfl, rfl⟩
        go_wp2
        go_ret3
        rw [HE.out]
        exact ⟨rfl, rfl⟩
      · have HE : Hid (X = .tuple #[.int .i64 N, .int .i64 6, .bool true]) := by show _ = _; rw [← hX, g4 (.inr hr), ← hN]; rfl
        have y1 : 56320 ≤ N := by omega
        have y2 : ¬ N ≤ 57343 := by omega
        have y3 : ¬ N < 55296 := by omega
        have y4 : 57343 < N := by omega
        clear g2 g3 g4 g5 hr hN er6
        clear hX
        go_enter Tryd.func35, Tryd.ntmps35
        go_wp2_with fail
        refine (at_psig _ _ _ HS.out).mono ?_
        rintro _ w1 ⟨rfl, rfl⟩
        go_wp2_with fail
        refine (at_pnum _ _ _ HN.out).mono ?_
        rintro _ w1 ⟨rfl, rfl⟩
        go_wp2
        go_ret3
        rw [HE.out]
        exact ⟨rfl, rfl⟩
      · have y1 : ¬ 56320 ≤ N := by omega
        have y3 : ¬ N < 55296 := by omega
        have y4 : ¬ 57343 < N := by omega
        have y5 : 55296 ≤ N := by omega
        have y6 : N ≤ 56319 := by omega
        have ge := g5 hr
        rw [pair_bs] at ge
        cases hm : bsNum (s.data.toList.drop 6) with
        | none =>
          rw [hm] at ge
          have HE : Hid (X = .tuple #[.int .i64 0, .int .i64 0, .bool false]) := by show _ = _; rw [← hX, ge]; rfl
          have HM : Hid (digV (bsNum (s.extract 6 s.size).data.toList) = .tuple #[.int .i64 0, .bool false]) := by show _ = _; rw [er6, hm]; rfl
          clear g2 g3 g4 g5 hr hN er6 ge hm
          clear hX
          go_enter Tryd.func35, Tryd.ntmps35
          go_wp2_with fail
          refine (at_psig _ _ _ HS.out).mono ?_
          rintro _ w1 ⟨rfl, rfl⟩
          go_wp2_with fail
          refine (at_pnum _ _ _ HN.out).mono ?_
          rintro _ w1 ⟨rfl, rfl⟩
          go_wp2_with fail
          refine (at_pnum _ _ _ HM.out).mono ?_
          rintro _ w1 ⟨rfl, rfl⟩
          go_wp2
          go_ret3
          rw [HE.out]
          exact ⟨rfl, rfl⟩
        | some m =>
          rw [hm] at ge
          simp only at ge
          obtain ⟨M, hM⟩ : ∃ M : Int, (m : Int) = M := ⟨_, rfl⟩
          have HM : Hid (digV (bsNum (s.extract 6 s.size).data.toList) = .tuple #[.int .i64 M, .bool true]) := by show _ = _; rw [er6, hm, ← hM]; rfl
          have x0 : 0 ≤ M := by omega
          rcases (show m < 56320 ∨ (56320 ≤ m ∧ 57343 < m) ∨ (56320 ≤ m ∧ m ≤ 57343) from by omega) with hq | hq | hq
          · rw [if_neg (by omega)] at ge
            have HE : Hid (X = .tuple #[.int .i64 0, .int .i64 0, .bool false]) := by show _ = _; rw [← hX, ge]; rfl
            have x1 : M < 56320 := by omega
            clear g2 g3 g4 g5 hr hN er6 ge hm hM hq
            clear hX
            go_enter Tryd.func35, Tryd.ntmps35
            go_wp2_with fail
            refine (at_psig _ _ _ HS.out).mono ?_
            rintro _ w1 ⟨rfl, rfl⟩
            go_wp2_with fail
            refine (at_pnum _ _ _ HN.out).mono ?_
            rintro _ w1 ⟨rfl, rfl⟩
            go_wp2_with fail
            refine (at_pnum _ _ _ HM.out).mono ?_
            rintro _ w1 ⟨rfl, rfl⟩
            go_wp2
            go_ret3
            rw [HE.out]
            exact ⟨rfl, rfl⟩
          · rw [if_neg (by omega)] at ge
            have HE : Hid (X = .tuple #[.int .i64 0, .int .i64 0, .bool false]) := by show _ = _; rw [← hX, ge]; rfl
            have x1 : ¬ M < 56320 := by omega
            have x2 : 57343 < M := by omega
            clear g2 g3 g4 g5 hr hN er6 ge hm hM hq
            clear hX
            go_enter Tryd.func35, Tryd.ntmps35
            go_wp2_with fail
            refine (at_psig _ _ _ HS.out).mono ?_
            rintro _ w1 ⟨rfl, rfl⟩
            go_wp2_with fail
            refine (at_pnum _ _ _ HN.out).mono ?_
            rintro _ w1 ⟨rfl, rfl⟩
            go_wp2_with fail
            refine (at_pnum _ _ _ HM.out).mono ?_
            rintro _ w1 ⟨rfl, rfl⟩
            go_wp2
            go_ret3
            rw [HE.out]
            exact ⟨rfl, rfl⟩
          · rw [if_pos hq] at ge
            have HE : Hid (X = .tuple #[.int .i64 (65536 + (N - 55296) * 1024 + (M - 56320)), .int .i64 12, .bool true]) := by
              show _ = _
              rw [← hX, ge]
              have e : ((65536 + 1024 * (n - 55296) + (m - 56320) : Nat) : Int) = 65536 + (N - 55296) * 1024 + (M - 56320) := by omega
              rw [← e]
              rfl
            have x1 : ¬ M < 56320 := by omega
            have x2 : ¬ 57343 < M := by omega
            have x3 : 56320 ≤ M := by omega
            have x4 : M ≤ 57343 := by omega
            clear g2 g3 g4 g5 hr hN er6 ge hm hM hq
            clear hX
            go_enter Tryd.func35, Tryd.ntmps35
            go_wp2_with fail
            refine (at_psig _ _ _ HS.out).mono ?_
            rintro _ w1 ⟨rfl, rfl⟩
            go_wp2_with fail
            refine (at_pnum _ _ _ HN.out).mono ?_
            rintro _ w1 ⟨rfl, rfl⟩
            go_wp2_with fail
            refine (at_pnum _ _ _ HM.out).mono ?_
            rintro _ w1 ⟨rfl, rfl⟩
            go_wp2
            go_ret3
            rw [HE.out]
            exact ⟨rfl, rfl⟩
end Go.Proofs.YtfpokkpklbkhiaaDoor
