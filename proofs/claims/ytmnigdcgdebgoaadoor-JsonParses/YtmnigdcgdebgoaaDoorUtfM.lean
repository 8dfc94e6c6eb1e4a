/-
  The document's own answers (package cracknelref05): Letter, Put, first, Take: contracts.
  The document's own Take (package cracknelref05): a contract.
  The document's own Runes (package cracknelref05): a contract.
  The document's own Valid (package cracknelref05): a contract, for a seat whose program has it.
-/
import Derived.Test.YtmnigdcgdebgoaaDoorPlainM
import Derived.Test.YtmnigdcgdebgoaaDoorBaseM
import Derived.Deep.QuietTactic
namespace Go.Proofs.YtmnigdcgdebgoaaDoor
open Go.RowKit
set_option linter.unusedVariables false

def letB (r : Int) : Bool := decide (0 ≤ r) && decide (letter r.toNat)

theorem letB_nat (r : Nat) : letB (r : Int) = decide (letter r) := by simp [letB]

theorem letB_iff (r : Int) : letB r = true ↔ 0 ≤ r ∧ r ≤ 1114111 ∧ (r < 55296 ∨ 57343 < r) := by
  unfold letB
  rw [Bool.and_eq_true, decide_eq_true_eq, decide_eq_true_eq]
  unfold letter
  omega

theorem ret_yes {a b : ByteArray} (h : a = b) : Ending.returned (.tuple #[.string a, .bool true]) = .returned (.tuple #[.string b, .bool true]) := by rw [h]

set_option maxRecDepth 100000 in
set_option maxHeartbeats 400000 in
theorem rletter_any (r : Int) (w : World) : Calls Tryd.prog 112 #[.int .i64 r] w fun e w' => e = .returned (.bool (letB r)) ∧ w = w' := by
  have HL := Lib.hid (letB_iff r)
  rcases (show r < 0 ∨ (0 ≤ r ∧ 1114111 < r) ∨ (0 ≤ r ∧ r ≤ 1114111 ∧ r < 55296) ∨ (0 ≤ r ∧ r ≤ 1114111 ∧ 55296 ≤ r ∧ 57343 < r) ∨ (0 ≤ r ∧ r ≤ 1114111 ∧ 55296 ≤ r ∧ r ≤ 57343) from by omega) with h | ⟨h, h'⟩ | ⟨h, h', h''⟩ | ⟨h, h', h'', h3⟩ | ⟨h, h', h'', h3⟩
  all_goals
    go_enter Tryd.func112, Tryd.ntmps112
    go_wp2
    go_ret
    refine ⟨ret_bool ?_, rfl⟩
    rw [Bool.eq_iff_iff, HL.out]
    simp
    try omega

def putUB (r : Nat) : ByteArray := ⟨(putU r).toArray⟩

theorem putUB_1 (r : Nat) (h : r < 128) : putUB r = ⟨#[UInt8.ofNat r]⟩ := by unfold putUB putU; rw [if_pos h]
theorem putUB_2 (r : Nat) (h1 : ¬ r < 128) (h : r < 2048) : putUB r = ⟨#[UInt8.ofNat (192 + r / 64), UInt8.ofNat (128 + r % 64)]⟩ := by unfold putUB putU; rw [if_neg h1, if_pos h]
theorem putUB_3 (r : Nat) (h1 : ¬ r < 128) (h2 : ¬ r < 2048) (h : r < 65536) : putUB r = ⟨#[UInt8.ofNat (224 + r / 4096), UInt8.ofNat (128 + r / 64 % 64), UInt8.ofNat (128 + r % 64)]⟩ := by unfold putUB putU; rw [if_neg h1, if_neg h2, if_pos h]
theorem putUB_4 (r : Nat) (h1 : ¬ r < 128) (h2 : ¬ r < 2048) (h3 : ¬ r < 65536) : putUB r = ⟨#[UInt8.ofNat (240 + r / 262144), UInt8.ofNat (128 + r / 4096 % 64), UInt8.ofNat (128 + r / 64 % 64), UInt8.ofNat (128 + r % 64)]⟩ := by unfold putUB putU; rw [if_neg h1, if_neg h2, if_neg h3]

theorem nat_u8 (n : Nat) (v : Int) (h : n < 256) (hv : v = (n : Int)) : v = ((UInt8.ofNat n).toNat : Int) := by
  rw [u8n n h]
  exact hv

set_option maxRecDepth 100000 in
set_option maxHeartbeats 800000 in
theorem at_rputu (r : Nat) (R : Int) (w : World) (hR : R = (r : Int)) (hr : letter r) :
    Calls Tryd.prog 101 #[.int .i64 R] w fun e w' => e = .returned (.tuple #[.string (putUB r), .bool true]) ∧ Below w.heap.size w w' := by
  have h0 := hr.1
  have HL : Hid (letB R = true) := by show _ = _; rw [hR, letB_nat]; simpa using hr
  have g0 : 0 ≤ R := by omega
  have g1 : R ≤ 1114111 := by omega
  clear hr
  by_cases h1 : r < 128
  · have hcv := one_back R (UInt8.ofNat r) (nat_u8 r _ (by omega) hR)
    rw [← putUB_1 r h1] at hcv
    have k1 : R < 128 := by omega
    clear hR h0 h1
    go_enter Tryd.func101, Tryd.ntmps101
    go_wp2_with fail
    refine (rletter_any _ _).mono ?_
    rintro _ w1 ⟨rfl, rfl⟩
    rw [HL.out]
    clear HL
    go_wp2
    go_ret2
    exact ⟨rfl, (Below.refl _ _).alloc (Nat.le_refl _) _⟩
  · by_cases h2 : r < 2048
    · have hcv := two_back (192 + R / 64) (128 + R % 64) _ _ (nat_u8 (192 + r / 64) _ (by omega) (by omega)) (nat_u8 (128 + r % 64) _ (by omega) (by omega))
      rw [← putUB_2 r h1 h2] at hcv
      have k1 : 128 ≤ R := by omega
      have k2 : R < 2048 := by omega
      clear hR h0 h1 h2
      go_enter Tryd.func101, Tryd.ntmps101
      go_wp2_with fail
      refine (rletter_any _ _).mono ?_
      rintro _ w1 ⟨rfl, rfl⟩
      rw [HL.out]
      clear HL
      go_wp2
      go_ret2
      exact ⟨rfl, (Below.refl _ _).alloc (Nat.le_refl _) _⟩
    · by_cases h3 : r < 65536
      · have hcv := three_back (224 + R / 4096) (128 + R / 64 % 64) (128 + R % 64) _ _ _ (nat_u8 (224 + r / 4096) _ (by omega) (by omega)) (nat_u8 (128 + r / 64 % 64) _ (by omega) (by omega)) (nat_u8 (128 + r % 64) _ (by omega) (by omega))
        rw [← putUB_3 r h1 h2 h3] at hcv
        have k2 : 2048 ≤ R := by omega
        have k3 : R < 65536 := by omega
        clear hR h0 h1 h2 h3
        go_enter Tryd.func101, Tryd.ntmps101
        go_wp2_with fail
        refine (rletter_any _ _).mono ?_
        rintro _ w1 ⟨rfl, rfl⟩
        rw [HL.out]
        clear HL
        go_wp2
        go_ret2
        exact ⟨rfl, (Below.refl _ _).alloc (Nat.le_refl _) _⟩
      · have hcv := four_back (240 + R / 262144) (128 + R / 4096 % 64) (128 + R / 64 % 64) (128 + R % 64) _ _ _ _ (nat_u8 (240 + r / 262144) _ (by omega) (by omega)) (nat_u8 (128 + r / 4096 % 64) _ (by omega) (by omega)) (nat_u8 (128 + r / 64 % 64) _ (by omega) (by omega)) (nat_u8 (128 + r % 64) _ (by omega) (by omega))
        rw [← putUB_4 r h1 h2 h3] at hcv
        have k3 : 65536 ≤ R := by omega
        clear hR h0 h1 h2 h3
        go_enter Tryd.func101, Tryd.ntmps101
        go_wp2_with fail
        refine (rletter_any _ _).mono ?_
        rintro _ w1 ⟨rfl, rfl⟩
        rw [HL.out]
        clear HL
        go_wp2
        go_ret2
        exact ⟨rfl, (Below.refl _ _).alloc (Nat.le_refl _) _⟩

theorem rputu_yes (r : Nat) (w : World) (hr : letter r) :
    Calls Tryd.prog 101 #[.int .i64 (r : Int)] w fun e w' => e = .returned (.tuple #[.string (putUB r), .bool true]) ∧ Below w.heap.size w w' := at_rputu r _ w rfl hr

set_option maxRecDepth 100000 in
set_option maxHeartbeats 400000 in
theorem rputu_no (r : Int) (w : World) (hr : letB r = false) :
    Calls Tryd.prog 101 #[.int .i64 r] w fun e w' => e = .returned (.tuple #[.string ByteArray.empty, .bool false]) ∧ Below w.heap.size w w' := by
  have HL := Lib.hid hr
  clear hr
  go_enter Tryd.func101, Tryd.ntmps101
  go_wp2_with fail
  refine (rletter_any _ _).mono ?_
  rintro _ w1 ⟨rfl, rfl⟩
  rw [HL.out]
  go_wp2
  go_ret2
  exact ⟨rfl, Below.refl _ _⟩

theorem ret_two {a b c d : Int} (h1 : a = c) (h2 : b = d) : Ending.returned (.tuple #[.int .i64 a, .int .i64 b]) = .returned (.tuple #[.int .i64 c, .int .i64 d]) := by rw [h1, h2]

set_option maxRecDepth 100000 in
set_option maxHeartbeats 400000 in
theorem rfirst_any (c long n : Nat) (w : World) (hc : c < 256) (h : firstU c = (long, n)) :
    Calls Tryd.prog 100 #[.int .i64 (c : Int)] w fun e w' => e = .returned (.tuple #[.int .i64 (long : Int), .int .i64 (n : Int)]) ∧ w = w' := by
  have HF := Lib.hid h
  clear h
  rcases (show c < 128 ∨ (128 ≤ c ∧ c < 192) ∨ (192 ≤ c ∧ c < 224) ∨ (224 ≤ c ∧ c < 240) ∨ (240 ≤ c ∧ c < 248) ∨ 248 ≤ c from by omega) with h | ⟨h, h'⟩ | ⟨h, h'⟩ | ⟨h, h'⟩ | ⟨h, h'⟩ | h
  all_goals
    go_enter Tryd.func100, Tryd.ntmps100
    go_wp2
    go_ret2
    have hf := HF.out
    unfold firstU at hf
    refine ⟨?_, rfl⟩
    (first
      | (rw [if_pos (by omega)] at hf; cases hf; exact ret_two (by rfl) (by omega))
      | (rw [if_neg (by omega), if_pos (by omega)] at hf; cases hf; exact ret_two (by rfl) (by omega))
      | (rw [if_neg (by omega), if_neg (by omega), if_pos (by omega)] at hf; cases hf; exact ret_two (by rfl) (by omega))
      | (rw [if_neg (by omega), if_neg (by omega), if_neg (by omega), if_pos (by omega)] at hf; cases hf; exact ret_two (by rfl) (by omega))
      | (rw [if_neg (by omega), if_neg (by omega), if_neg (by omega), if_neg (by omega)] at hf; cases hf; exact ret_two (by rfl) (by rfl)))
end Go.Proofs.YtmnigdcgdebgoaaDoor
namespace Go.Proofs.YtmnigdcgdebgoaaDoor
open Go.RowKit
set_option linter.unusedVariables false

/-- What the loop holds at place k. -/
def FoldAt (s : ByteArray) (long N : Nat) (n i : Value) : Prop :=
  ∃ k x : Nat, 1 ≤ k ∧ k ≤ long ∧ n = .int .i64 (x : Int) ∧ i = .int .i64 (k : Int) ∧ x < 128 * 64 ^ (k - 1) ∧ foldU x ((s.data.toList.drop k).take (long - k)) = N

theorem pow64 (k : Nat) (h : k ≤ 4) : 128 * 64 ^ (k - 1) ≤ 33554432 := by
  have : 64 ^ (k - 1) ≤ 64 ^ 3 := Nat.pow_le_pow_right (by decide) (by omega)
  have e : (64 : Nat) ^ 3 = 262144 := by decide
  omega

theorem fold_step (s : ByteArray) (long N k x : Nat) (hk1 : 1 ≤ k) (hk : k < long) (hl : long ≤ s.size) (hx : x < 128 * 64 ^ (k - 1)) (h : foldU x ((s.data.toList.drop k).take (long - k)) = N) :
    64 * x + s[k].toNat % 64 < 128 * 64 ^ (k + 1 - 1) ∧ foldU (64 * x + s[k].toNat % 64) ((s.data.toList.drop (k + 1)).take (long - (k + 1))) = N := by
  refine ⟨?_, ?_⟩
  · rw [show k + 1 - 1 = (k - 1) + 1 by omega, Nat.pow_succ]
    generalize 64 ^ (k - 1) = P at *
    omega
  · rw [drop_cons s k (by omega), show long - k = (long - (k + 1)) + 1 by omega, List.take_succ_cons] at h
    exact h

theorem first_range (c long n : Nat) (h : firstU c = (long, n)) : long ≤ 4 ∧ n < 128 := by
  unfold firstU at h
  repeat' split at h
  all_goals
    cases h
    omega

theorem ret_tk {a b : Nat} {x : Bool} {c d : Nat} {y : Bool} (h : (c, d, y) = (a, b, x)) : Ending.returned (.tuple #[.int .i64 (a : Int), .int .i64 (b : Int), .bool x]) = .returned (.tuple #[.int .i64 (c : Int), .int .i64 (d : Int), .bool y]) := by
  cases h
  rfl

/-- takeU, of a text that is not empty. -/
theorem takeU_cases (s : ByteArray) (h0 : 0 < s.size) (long n N : Nat) (hf : firstU s[0].toNat = (long, n)) (hN : foldU n ((s.data.toList.drop 1).take (long - 1)) = N) :
    takeU s.data.toList = if long = 0 ∨ s.size < long then (0, 0, false) else if letter N ∧ putU N = s.data.toList.take long then (N, long, true) else (0, 0, false) := by
  have e := drop_cons s 0 h0
  rw [List.drop_zero, Nat.zero_add] at e
  have hl : (s.data.toList.drop 1).length + 1 = s.size := by rw [List.length_drop, list_len]; omega
  rw [e]
  unfold takeU
  simp only [hf]
  rw [hN, hl]

set_option maxRecDepth 100000 in
set_option maxHeartbeats 1600000 in
theorem rtakeu_any (s : ByteArray) (r n : Nat) (b : Bool) (w : World) (hs : s.size ≤ maxLen) (h : takeU s.data.toList = (r, n, b)) :
    Calls Tryd.prog 87 #[.string s] w fun e w' => e = .returned (.tuple #[.int .i64 (r : Int), .int .i64 (n : Int), .bool b]) ∧ Below w.heap.size w w' := by
  have HT := Lib.hid h
  unfold maxLen at hs
  clear h
  by_cases h0 : 0 < s.size
  · obtain ⟨long, n0, hf⟩ : ∃ long n0, firstU s[0].toNat = (long, n0) := ⟨_, _, rfl⟩
    obtain ⟨N, hN⟩ : ∃ N, foldU n0 ((s.data.toList.drop 1).take (long - 1)) = N := ⟨_, rfl⟩
    have hc := takeU_cases s h0 long n0 N hf hN
    rw [HT.out] at hc
    obtain ⟨f1, f2⟩ := first_range _ _ _ hf
    have hcl : s[0].toNat < 256 := s[0].toNat_lt
    have HF := Lib.hid hf
    have HN := Lib.hid hN
    have HC := Lib.hid hc
    clear hf hN hc HT
    by_cases hl0 : long = 0
    · subst hl0
      have HE := Lib.hid (HC.out.trans (if_pos (.inl rfl)))
      clear HC HN
      go_enter Tryd.func87, Tryd.ntmps87
      go_wp2_with fail
      refine (rfirst_any s[0].toNat 0 n0 _ hcl HF.out).mono ?_
      rintro _ w1 ⟨rfl, rfl⟩
      clear HF
      go_wp2
      go_ret3
      exact ⟨ret_tk HE.out, Below.refl _ _⟩
    · by_cases hl1 : s.size < long
      · have HE := Lib.hid (HC.out.trans (if_pos (.inr hl1)))
        clear HC HN
        go_enter Tryd.func87, Tryd.ntmps87
        go_wp2_with fail
        refine (rfirst_any s[0].toNat long n0 _ hcl HF.out).mono ?_
        rintro _ w1 ⟨rfl, rfl⟩
        clear HF
        go_wp2
        go_ret3
        exact ⟨ret_tk HE.out, Below.refl _ _⟩
      · have HE := Lib.hid (HC.out.trans (if_neg (by omega)))
        have q1 : 1 ≤ long := by omega
        have q2 : long ≤ s.size := by omega
        have d0 : ((long : Int) == 0) = false := by rw [beq_eq_false_iff_ne]; omega
        clear HC hl0
        go_enter Tryd.func87, Tryd.ntmps87
        go_wp2_with fail
        refine (rfirst_any s[0].toNat long n0 _ hcl HF.out).mono ?_
        rintro _ w1 ⟨rfl, rfl⟩
        clear HF
        go_wp2
        go_loop [6, 7] (fun n i => FoldAt s long N n i) (fun _ i => long - (intOf i).toNat)
        case atStart => exact ⟨1, n0, by omega, q1, rfl, rfl, by omega, HN.out⟩
        case round =>
          obtain ⟨k, x, k1, k2, rfl, rfl, hx, hN⟩ := hrel
          have hp := pow64 k (by omega)
          have hx25 : x < 33554432 := by omega
          have HX := Lib.hid hx
          have HN2 := Lib.hid hN
          clear hx hN hp HN
          by_cases hlt : k < long
          · have hck : s[k].toNat < 256 := s[k].toNat_lt
            have HS := Lib.hid (fold_step s long N k x k1 hlt q2 HX.out HN2.out)
            clear HX HN2
            go_wp2
            go_round
            case rel => exact ⟨k + 1, _, by omega, by omega, by go_num, by go_num, HS.out.1, HS.out.2⟩
            case measure => simp [intOf]; omega
          · have ek : k = long := by omega
            subst ek
            have hxN : x = N := by
              have h := HN2.out
              rw [Nat.sub_self, List.take_zero] at h
              exact h
            subst hxN
            clear HX HN2
            by_cases hl : letter x
            · have heq := eq_toList (putUB x) (s.extract 0 k)
              go_wp2_with fail
              refine (rputu_yes x _ hl).mono ?_
              rintro _ w1 ⟨rfl, hb⟩
              by_cases hp : putU x = s.data.toList.take k
              · have HE2 := Lib.hid (HE.out.trans (if_pos ⟨hl, hp⟩))
                have hb2 : putUB x = s.extract 0 k := ba_ext (by rw [extract_list, List.drop_zero, Nat.sub_zero, ← hp]; simp [putUB])
                rw [hb2]
                clear HE hp heq hb2 hl
                go_wp2
                go_ret3
                exact ⟨ret_tk HE2.out, hb⟩
              · have HE2 := Lib.hid (HE.out.trans (if_neg (fun h => hp h.2)))
                have hne : putUB x ≠ s.extract 0 k := by
                  intro h
                  apply hp
                  have := congrArg (·.data.toList) h
                  simp only [extract_list, List.drop_zero, Nat.sub_zero] at this
                  rw [← this]
                  simp [putUB]
                have hne2 : ((putUB x).toList == (s.extract 0 k).toList) = false := by rw [heq]; simpa using hne
                have hne3 : (putUB x).toList ≠ (s.extract 0 k).toList := by
                  intro h
                  rw [h] at hne2
                  simp at hne2
                clear HE hp heq hne hl
                go_wp2
                go_ret3
                exact ⟨ret_tk HE2.out, hb⟩
            · have HE2 := Lib.hid (HE.out.trans (if_neg (fun h => hl h.1)))
              have hlb : letB (x : Int) = false := by rw [letB_nat]; simpa using hl
              clear HE hl
              go_wp2_with fail
              refine (rputu_no x _ hlb).mono ?_
              rintro _ w1 ⟨rfl, hb⟩
              clear hlb
              go_wp2
              go_ret3
              exact ⟨ret_tk HE2.out, hb⟩
  · have hz : s.size = 0 := by omega
    have HE : Hid ((r, n, b) = (0, 0, false)) := by
      show _ = _
      rw [← HT.out]
      have : s.data.toList = [] := List.length_eq_zero_iff.1 (by rw [list_len]; exact hz)
      rw [this]
      rfl
    clear HT h0
    go_enter Tryd.func87, Tryd.ntmps87
    go_wp2
    go_ret3
    exact ⟨ret_tk HE.out, Below.refl _ _⟩
end Go.Proofs.YtmnigdcgdebgoaaDoor
namespace Go.Proofs.YtmnigdcgdebgoaaDoor
open Go.RowKit
set_option linter.unusedVariables false

def natsI (l : List Int) : List Nat := l.map Int.toNat
def intsN (l : List Nat) : List Int := l.map (fun (n : Nat) => (n : Int))

/-- What Runes holds: rs are had, rest is left. -/
def RunesAt (s : ByteArray) (g : Nat) (w0 : World) (gk : Nat) (str out : Value) (wr : World) : Prop :=
  ∃ (rs : List Nat) (rest : ByteArray), str = .string rest ∧ rest.size = gk ∧ rs.length + gk ≤ s.size ∧ s.data.toList = textU rs ++ rest.data.toList ∧ letters rs ∧ RowI wr g out (intsN rs) ∧ Below g w0 wr ∧ g ≤ wr.heap.size

theorem runes_end (s rest : ByteArray) (rs : List Nat) (h : s.data.toList = textU rs ++ rest.data.toList) (hl : letters rs) (hz : rest.size = 0) : runesU s.data.toList = some rs := by
  have e : rest.data.toList = [] := List.length_eq_zero_iff.1 (by rw [list_len]; exact hz)
  rw [e, List.append_nil] at h
  exact (runesU_iff _ _).2 ⟨hl, h⟩

theorem runes_stop (s rest : ByteArray) (rs : List Nat) (r n : Nat) (h : s.data.toList = textU rs ++ rest.data.toList) (hl : letters rs) (hz : 0 < rest.size) (ht : takeU rest.data.toList = (r, n, false)) : runesU s.data.toList = none := by
  have hne : rest.data.toList ≠ [] := fun e => by
    have := list_len rest
    rw [e] at this
    simp at this
    omega
  rw [h, runesU_append rs _ hl, runesU_step _ hne, ht]
  rfl

theorem runes_step (s rest : ByteArray) (rs : List Nat) (r n : Nat) (h : s.data.toList = textU rs ++ rest.data.toList) (hl : letters rs) (ht : takeU rest.data.toList = (r, n, true)) :
    s.data.toList = textU (rs ++ [r]) ++ (rest.extract n rest.size).data.toList ∧ letters (rs ++ [r]) ∧ 1 ≤ n ∧ n ≤ rest.size ∧ (rest.extract n rest.size).size = rest.size - n ∧ r ≤ 1114111 := by
  have hy := takeU_yes _ _ _ ht
  have hs := takeU_split _ _ _ ht
  have hlen := list_len rest
  have hn : n ≤ rest.size := by omega
  refine ⟨?_, ?_, hy.2.2.2.1, hn, by rw [ByteArray.size_extract]; omega, hy.1.1⟩
  · have e : textU [r] = putU r := by simp [textU]
    rw [textU_append, e, List.append_assoc, extract_list, List.take_of_length_le (by rw [List.length_drop]; omega), ← hs]
    exact h
  · intro x hx
    rcases List.mem_append.1 hx with hx | hx
    · exact hl x hx
    · rw [List.mem_singleton.1 hx]
      exact hy.1

/-- What Runes answers, in the world w. -/
def RunesV (s : ByteArray) (w : World) (e : Ending) : Prop :=
  (∃ rs v, runesU s.data.toList = some rs ∧ e = .returned (.tuple #[v, .bool true]) ∧ IntsAt w v (intsN rs)) ∨ (runesU s.data.toList = none ∧ e = .returned (.tuple #[.slice none 0 0, .bool false]))

set_option maxRecDepth 100000 in
set_option maxHeartbeats 1600000 in
theorem rrunes_any (s : ByteArray) (w : World) (hs : s.size ≤ 1000000000000) :
    Calls Tryd.prog 71 #[.string s] w fun e w' => RunesV s w' e ∧ Below w.heap.size w w' := by
  go_enter Tryd.func71, Tryd.ntmps71
  go_wp2
  go_loopg [0, 4] s.size (fun gk str out wr => RunesAt s w.heap.size w gk str out wr)
  case atStart => exact ⟨[], s, rfl, rfl, by simp, rfl, fun r hr => absurd hr List.not_mem_nil, RowI.nil _ _, Below.refl _ _, Nat.le_refl _⟩
  case round =>
    obtain ⟨rs, rest, rfl, hgk, hlen, hsp, hlet, hrow, hbe, hsz⟩ := hrel
    have HSP := Lib.hid hsp
    have HLE := Lib.hid hlet
    have HRW := Lib.hid hrow
    clear hsp hlet hrow
    have z1 : rest.size ≤ gk := by omega
    have z2 : gk ≤ rest.size := by omega
    clear hgk
    by_cases h0 : 0 < rest.size
    · obtain ⟨r, n, b, ht⟩ : ∃ r n b, takeU rest.data.toList = (r, n, b) := ⟨_, _, _, rfl⟩
      have HT := Lib.hid ht
      cases b with
      | false =>
        have HE := Lib.hid (runes_stop s rest rs r n HSP.out HLE.out h0 ht)
        clear ht HSP HLE HRW
        go_wp2_with fail
        refine (rtakeu_any rest r n false _ (by unfold maxLen; omega) HT.out).mono ?_
        rintro _ w1 ⟨rfl, hb⟩
        have hb1 := hbe.trans (hb.mono hbe.size)
        clear hb HT
        go_wp2
        go_ret2
        exact ⟨.inr ⟨HE.out, rfl⟩, hb1⟩
      | true =>
        obtain ⟨q1, q2, q3, q4, q5, q6⟩ := runes_step s rest rs r n HSP.out HLE.out ht
        have Q1 := Lib.hid q1
        have Q2 := Lib.hid q2
        have Q5 := Lib.hid q5
        clear ht q1 q2 q5 HSP HLE
        go_wp2_with fail
        refine (rtakeu_any rest r n true _ (by unfold maxLen; omega) HT.out).mono ?_
        rintro _ w1 ⟨rfl, hb⟩
        have hb1 := hbe.trans (hb.mono hbe.size)
        have hrow1 := HRW.out.keep hb
        have hs1 : w.heap.size ≤ w1.heap.size := Nat.le_trans hsz hb.size
        have HR1 := Lib.hid hrow1
        have hrl : (intsN rs).length = rs.length := List.length_map _
        clear hb HT HRW hrow1 hbe
        go_wp2_with (at_builtin; refine wpList_pushI rfl _ _ rfl HR1.out rfl rfl (by omega) hs1 ?_; intro v' w2 hrow' hB' hsz')
        have hbe2 := hB' _ _ hb1 (Nat.le_refl _)
        have e : intsN rs ++ [(r : Int)] = intsN (rs ++ [r]) := by simp [intsN]
        rw [e] at hrow'
        have HR2 := Lib.hid hrow'
        clear hB' hrow' HR1 e
        go_wp2
        go_roundg (gk - n)
        case measure => omega
        case rel =>
          refine ⟨rs ++ [r], rest.extract n rest.size, rfl, by rw [Q5.out]; omega, by rw [List.length_append]; simp; omega, Q1.out, Q2.out, HR2.out, hbe2, hsz'⟩
    · have HE := Lib.hid (runes_end s rest rs HSP.out HLE.out (by omega))
      have hints := HRW.out.ints
      clear HSP HLE HRW
      go_wp2
      go_ret2
      exact ⟨.inl ⟨rs, _, HE.out, rfl, hints⟩, hbe⟩
def validB (s : ByteArray) : Bool := (runesU s.data.toList).isSome
end Go.Proofs.YtmnigdcgdebgoaaDoor
namespace Go.Proofs.YtmnigdcgdebgoaaDoor
open Go.RowKit
set_option linter.unusedVariables false

set_option maxRecDepth 100000 in
set_option maxHeartbeats 400000 in
theorem rvalid_any (s : ByteArray) (w : World) (hs : s.size ≤ 1000000000000) :
    Calls Tryd.prog 48 #[.string s] w fun e w' => e = .returned (.bool (validB s)) ∧ Below w.heap.size w w' := by
  go_enter Tryd.func48, Tryd.ntmps48
  go_wp2_with fail
  refine (rrunes_any s _ hs).mono ?_
  rintro _ w1 ⟨⟨rs, v, h, rfl, _⟩ | ⟨h, rfl⟩, hb⟩
  · have HE : Hid (validB s = true) := by show _ = _; unfold validB; rw [h]; rfl
    clear h
    go_wp2
    go_ret
    exact ⟨ret_bool HE.out.symm, hb⟩
  · have HE : Hid (validB s = false) := by show _ = _; unfold validB; rw [h]; rfl
    clear h
    go_wp2
    go_ret
    exact ⟨ret_bool HE.out.symm, hb⟩

end Go.Proofs.YtmnigdcgdebgoaaDoor
