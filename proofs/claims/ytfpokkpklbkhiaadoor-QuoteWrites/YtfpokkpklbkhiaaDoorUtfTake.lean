/-
  The document's own Take (package cracknelref05): a contract.
-/
import Derived.Test.YtfpokkpklbkhiaaDoorUtfRef
namespace Go.Proofs.YtfpokkpklbkhiaaDoor
open Go.RowKit
set_option linter.unusedVariables false

/-- What the loop holds at place k. -/
def FoldAt (s : ByteArray) (long N : Nat) (n i : Value) : Prop :=
  ∃ k x : Nat, 1 ≤ k ∧ k ≤ long ∧ n = .int .i64 (x : Int) ∧ i = .int .i64 (k : Int) ∧ x < 128 * 64 ^ (k - 1) ∧ foldU x ((s.data.toList.drop k).take (long - k)) = N

theorem pow64 (k : Nat) (h : k ≤ 4) : 128 * 64 ^ (k - 1) ≤ 33554432 := by
  have : 64 ^ (k - 1) ≤ 64 ^ 3 := Nat.pow_le_pow_right (by decide) (by omega)
  have e : (64 : Nat) ^ 3 = 262144 := by decide
  omega

theorem fold_step (s : ByteArray) (long N k x : Nat) (hk1 : 1 ≤ k) (hk : k < long) (hl : long ≤ s.size) (hx : x < 128 * 64 ^ (k - 1)) (h : foldU x ((s.data.toList.drop k).take (long - k)) = N) :
    64 * x + s[k].toNat % 64 < 128 * 64 ^ (k + 1 - 1) ∧ foldU (64 * x + s[k].toNat % 64) ((s.data.toList.drop (k + 1)).take (long - (k + 1))) = N := by
  refine ⟨?_, ?_⟩
  · rw [show k + 1 - 1 = (k - 1) + 1 by omega, Nat.pow_succ]
    generalize 64 ^ (k - 1) = P at *
    omega
  · rw [drop_cons s k (by omega), show long - k = (long - (k + 1)) + 1 by omega, List.take_succ_cons] at h
    exact h

theorem first_range (c long n : Nat) (h : firstU c = (long, n)) : long ≤ 4 ∧ n < 128 := by
  unfold firstU at h
  repeat' split at h
  all_goals
    cases h
    omega

theorem ret_tk {a b : Nat} {x : Bool} {c d : Nat} {y : Bool} (h : (c, d, y) = (a, b, x)) : Ending.returned (.tuple #[.int .i64 (a : Int), .int .i64 (b : Int), .bool x]) = .returned (.tuple #[.int .i64 (c : Int), .int .i64 (d : Int), .bool y]) := by
  cases h
  rfl

/-- takeU, of a text that is not empty. -/
theorem takeU_cases (s : ByteArray) (h0 : 0 < s.size) (long n N : Nat) (hf : firstU s[0].toNat = (long, n)) (hN : foldU n ((s.data.toList.drop 1).take (long - 1)) = N) :
    takeU s.data.toList = if long = 0 ∨ s.size < long then (0, 0, false) else if letter N ∧ putU N = s.data.toList.take long then (N, long, true) else (0, 0, false) := by
  have e := drop_cons s 0 h0
  rw [List.drop_zero, Nat.zero_add] at e
  have hl : (s.data.toList.drop 1).length + 1 = s.size := by rw [List.length_drop, list_len]; omega
  rw [e]
  unfold takeU
  simp only [hf]
  rw [hN, hl]

set_option maxRecDepth 100000 in
set_option maxHeartbeats 1600000 in
theorem rtakeu_any (s : ByteArray) (r n : Nat) (b : Bool) (w : World) (hs : s.size ≤ maxLen) (h : takeU s.data.toList = (r, n, b)) :
    Calls Tryd.prog 39 #[.string s] w fun e w' => e = .returned (.tuple #[.int .i64 (r : Int), .int .i64 (n : Int), .bool b]) ∧ Below w.heap.size w w' := by
  have HT := Lib.hid h
  unfold maxLen at hs
  clear h
  by_cases h0 : 0 < s.size
  · obtain ⟨long, n0, hf⟩ : ∃ long n0, firstU s[0].toNat = (long, n0) := ⟨_, _, rfl⟩
    obtain ⟨N, hN⟩ : ∃ N, foldU n0 ((s.data.toList.drop 1).take (long - 1)) = N := ⟨_, rfl⟩
    have hc := takeU_cases s h0 long n0 N hf hN
    rw [HT.out] at hc
    obtain ⟨f1, f2⟩ := first_range _ _ _ hf
    have hcl : s[0].toNat < 256 := s[0].toNat_lt
    have HF := Lib.hid hf
    have HN := Lib.hid hN
    have HC := Lib.hid hc
    clear hf hN hc HT
    by_cases hl0 : long = 0
    · subst hl0
      have HE := Lib.hid (HC.out.trans (if_pos (.inl rfl)))
      clear HC HN
      go_enter Tryd.func39, Tryd.ntmps39
      go_wp2_with fail
      refine (rfirst_any s[0].toNat 0 n0 _ hcl HF.out).mono ?_
      rintro _ w1 ⟨rfl, rfl⟩
      clear HF
      go_wp2
      go_ret3
      exact ⟨ret_tk HE.out, Below.refl _ _⟩
    · by_cases hl1 : s.size < long
      · have HE := Lib.hid (HC.out.trans (if_pos (.inr hl1)))
        clear HC HN
        go_enter Tryd.func39, Tryd.ntmps39
        go_wp2_with fail
        refine (rfirst_any s[0].toNat long n0 _ hcl HF.out).mono ?_
        rintro _ w1 ⟨rfl, rfl⟩
        clear HF
        go_wp2
        go_ret3
        exact ⟨ret_tk HE.out, Below.refl _ _⟩
      · have HE := Lib.hid (HC.out.trans (if_neg (by omega)))
        have q1 : 1 ≤ long := by omega
        have q2 : long ≤ s.size := by omega
        have d0 : ((long : Int) == 0) = false := by rw [beq_eq_false_iff_ne]; omega
        clear HC hl0
        go_enter Tryd.func39, Tryd.ntmps39
        go_wp2_with fail
        refine (rfirst_any s[0].toNat long n0 _ hcl HF.out).mono ?_
        rintro _ w1 ⟨rfl, rfl⟩
        clear HF
        go_wp2
        go_loop [6, 7] (fun n i => FoldAt s long N n i) (fun _ i => long - (intOf i).toNat)
        case atStart => exact ⟨1, n0, by omega, q1, rfl, rfl, by omega, HN.out⟩
        case round =>
          obtain ⟨k, x, k1, k2, rfl, rfl, hx, hN⟩ := hrel
          have hp := pow64 k (by omega)
          have hx25 : x < 33554432 := by omega
          have HX := Lib.hid hx
          have HN2 := Lib.hid hN
          clear hx hN hp HN
          by_cases hlt : k < long
          · have hck : s[k].toNat < 256 := s[k].toNat_lt
            have HS := Lib.hid (fold_step s long N k x k1 hlt q2 HX.out HN2.out)
            clear HX HN2
            go_wp2
            go_round
            case rel => exact ⟨k + 1, _, by omega, by omega, by go_num, by go_num, HS.out.1, HS.out.2⟩
            case measure => simp [intOf]; omega
          · have ek : k = long := by omega
            subst ek
            have hxN : x = N := by
              have h := HN2.out
              rw [Nat.sub_self, List.take_zero] at h
              exact h
            subst hxN
            clear HX HN2
            by_cases hl : letter x
            · have heq := eq_toList (putUB x) (s.extract 0 k)
              go_wp2_with fail
              refine (rputu_yes x _ hl).mono ?_
              rintro _ w1 ⟨rfl, hb⟩
              by_cases hp : putU x = s.data.toList.take k
              · have HE2 := Lib.hid (HE.out.trans (if_pos ⟨hl, hp⟩))
                have hb2 : putUB x = s.extract 0 k := ba_ext (by rw [extract_list, List.drop_zero, Nat.sub_zero, ← hp]; simp [putUB])
                rw [hb2]
                clear HE hp heq hb2 hl
                go_wp2
                go_ret3
                exact ⟨ret_tk HE2.out, hb⟩
              · have HE2 := Lib.hid (HE.out.trans (if_neg (fun h => hp h.2)))
                have hne : putUB x ≠ s.extract 0 k := by
                  intro h
                  apply hp
                  have := congrArg (·.data.toList) h
                  simp only [extract_list, List.drop_zero, Nat.sub_zero] at this
                  rw [← this]
                  simp [putUB]
                have hne2 : ((putUB x).toList == (s.extract 0 k).toList) = false := by rw [heq]; simpa using hne
                have hne3 : (putUB x).toList ≠ (s.extract 0 k).toList := by
                  intro h
                  rw [h] at hne2
                  simp at hne2
                clear HE hp heq hne hl
                go_wp2
                go_ret3
                exact ⟨ret_tk HE2.out, hb⟩
            · have HE2 := Lib.hid (HE.out.trans (if_neg (fun h => hl h.1)))
              have hlb : letB (x : Int) = false := by rw [letB_nat]; simpa using hl
              clear HE hl
              go_wp2_with fail
              refine (rputu_no x _ hlb).mono ?_
              rintro _ w1 ⟨rfl, hb⟩
              clear hlb
              go_wp2
              go_ret3
              exact ⟨ret_tk HE2.out, hb⟩
  · have hz : s.size = 0 := by omega
    have HE : Hid ((r, n, b) = (0, 0, false)) := by
      show _ = _
      rw [← HT.out]
      have : s.data.toList = [] := List.length_eq_zero_iff.1 (by rw [list_len]; exact hz)
      rw [this]
      rfl
    clear HT h0
    go_enter Tryd.func39, Tryd.ntmps39
    go_wp2
    go_ret3
    exact ⟨ret_tk HE.out, Below.refl _ _⟩
end Go.Proofs.YtfpokkpklbkhiaaDoor
