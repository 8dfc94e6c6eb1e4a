/-
  Put and PutText of package wire and of the document: contracts.
-/
import Derived.Test.YtdgnjhnbldbnhaaWireMath
import Derived.Test.YtdgnjhnbldbnhaaBaseBytes
namespace Go.Proofs.Ytdgnjhnbldbnhaa
open Go.RowKit
set_option linter.unusedVariables false

/-- What the laying holds: l is laid, and gk + 1 bytes more may be. -/
def LayAt (k : IntKind) (n : Nat) (g : Nat) (w0 : World) (gk : Nat) (num row : Value) (wr : World) : Prop :=
  ∃ (q : Nat) (l : List UInt8), num = .int k (q : Int) ∧ q ≤ n ∧ l.length + gk = 9 ∧ l ++ putF gk q = putL n ∧ q < 2 * 128 ^ gk ∧ RowB wr g row l ∧ Below g w0 wr ∧ g ≤ wr.heap.size

set_option maxRecDepth 100000 in
theorem or128 (q : Nat) : bits .or .u8 ((q : Int) % 256) 128 = ((UInt8.ofNat (128 + q % 128)).toNat : Int) := by
  have key : ∀ x : Nat, x < 256 → x ||| 128 = 128 + x % 128 := by decide
  have h := (bits_nat .u8 8 (by decide) wraps_u8 (q % 256) 128 (by omega) (by decide)).2
  have e : ((q : Int) % 256) = ((q % 256 : Nat) : Int) := by omega
  rw [e]
  refine h.trans ?_
  rw [key _ (by omega), u8_nat _ (by omega)]
  omega

theorem sum128 (q : Nat) : (128 + (q : Int) % 128) = ((UInt8.ofNat (128 + q % 128)).toNat : Int) := by
  rw [u8_nat _ (by omega)]
  omega

theorem last128 (q : Nat) (h : q < 128) : (q : Int) = ((UInt8.ofNat q).toNat : Int) := by
  rw [u8_nat _ (by omega)]

theorem lay_more (k : IntKind) (n g gk : Nat) (w0 wr : World) (q : Nat) (l : List UInt8) (row : Value) (h128 : 128 ≤ q) (hqn : q ≤ n) (hlen : l.length + gk = 9) (hl : l ++ putF gk q = putL n) (hq : q < 2 * 128 ^ gk)
    (hrow : RowB wr g row (l ++ [UInt8.ofNat (128 + q % 128)])) (hbe : Below g w0 wr) (hsz : g ≤ wr.heap.size) :
    1 ≤ gk ∧ LayAt k n g w0 (gk - 1) (.int k ((q : Int) / 128)) row wr := by
  cases gk with
  | zero =>
    have : q < 2 := by simpa using hq
    omega
  | succ f =>
    refine ⟨by omega, q / 128, _, ?_, by omega, ?_, ?_, fits_down f q hq, hrow, hbe, hsz⟩
    · congr 1
    · simp; omega
    · rw [← hl, putF_more f q h128]
      simp

theorem lay_last (n gk : Nat) (q : Nat) (l : List UInt8) (h128 : q < 128) (hl : l ++ putF gk q = putL n) : l ++ [UInt8.ofNat q] = putL n := by
  rw [← hl, putF_last gk q h128]

set_option maxRecDepth 100000 in
set_option maxHeartbeats 1600000 in
theorem lay_u64 (n : Nat) (w : World) (hn : n < 18446744073709551616) :
    Calls Try.prog 23 #[.int .u64 (n : Int)] w fun e w' => ∃ v, e = .returned v ∧ RowB w' w.heap.size v (putL n) ∧ Below w.heap.size w w' := by
  obtain ⟨i0, hi, hz0, hz1, hz2⟩ := info_parts Try.infoU8
  go_enter Try.func23, Try.ntmps23
  go_wp2_with (at_make; refine wpList_make_own _ rfl _ _ 40 rfl w.heap.size 5 i0 (.int .u8 0) 1 Try.underlying40 hi hz0 hz1 .i64 .i64 10 10 rfl rfl rfl (by rw [hz2]; omega) (by unfold maxLen; omega) (Nat.le_refl _) ?_; intro w1 hown hgrow)
  have hb1 : RowB w1 w.heap.size (.slice (some ⟨w.heap.size, 0, none⟩) 0 10) [] := hown
  have hB1 : Below w.heap.size w w1 := (Below.refl _ _).grown hgrow (Nat.le_refl _) (fun j hj => by cases hj)
  have hS := hgrow.size
  clear hown hgrow hi hz0 hz1 hz2
  go_loopg [0, 3] 9 (fun gk num row wr => LayAt .u64 n w.heap.size w gk num row wr)
  case atStart => exact ⟨n, [], rfl, Nat.le_refl _, rfl, rfl, by omega, hb1, hB1, hS⟩
  case round =>
    obtain ⟨q, l, rfl, hqn, hlen, hl, hq, hrow, hbe, hsz⟩ := hrel
    clear hb1 hB1 hS
    have HL := Lib.hid hl
    have HQ := Lib.hid hq
    have HR := Lib.hid hrow
    clear hl hq hrow
    by_cases h128 : 128 ≤ q
    · have hO := Lib.hid (or128 q)
      go_wp2_with (at_builtin; refine wpList_push rfl _ _ rfl HR.out hO.out rfl rfl (by omega) hsz ?_; intro v' w2 hrow' hB' hsz')
      have hbe' := hB' _ _ hbe (Nat.le_refl _)
      obtain ⟨hg1, R⟩ := lay_more .u64 n w.heap.size gk w w2 q l v' h128 hqn hlen HL.out HQ.out hrow' hbe' hsz'
      have HR2 := Lib.hid R
      clear R hB' hrow' HL HQ HR hO
      go_wp2
      go_roundg (gk - 1)
      case measure => omega
      case rel => exact HR2.out
    · have hO := Lib.hid (last128 q (by omega))
      go_wp2_with (at_builtin; refine wpList_push rfl _ _ rfl HR.out hO.out rfl rfl (by omega) hsz ?_; intro v' w2 hrow' hB' hsz')
      have hbe' := hB' _ _ hbe (Nat.le_refl _)
      rw [lay_last n gk q l (by omega) HL.out] at hrow'
      have HR2 := Lib.hid hrow'
      clear hB' hrow' HL HQ HR hO
      go_wp2
      go_ret
      exact ⟨_, rfl, HR2.out, hbe'⟩
set_option maxRecDepth 100000 in
set_option maxHeartbeats 1600000 in
theorem lay_i64 (n : Nat) (w : World) (hn : n ≤ 9223372036854775807) :
    Calls Try.prog 24 #[.int .i64 (n : Int)] w fun e w' => ∃ v, e = .returned v ∧ RowB w' w.heap.size v (putL n) ∧ Below w.heap.size w w' := by
  obtain ⟨i0, hi, hz0, hz1, hz2⟩ := info_parts Try.infoU8
  go_enter Try.func24, Try.ntmps24
  go_wp2_with (at_make; refine wpList_make_own _ rfl _ _ 40 rfl w.heap.size 5 i0 (.int .u8 0) 1 Try.underlying40 hi hz0 hz1 .i64 .i64 10 10 rfl rfl rfl (by rw [hz2]; omega) (by unfold maxLen; omega) (Nat.le_refl _) ?_; intro w1 hown hgrow)
  have hb1 : RowB w1 w.heap.size (.slice (some ⟨w.heap.size, 0, none⟩) 0 10) [] := hown
  have hB1 : Below w.heap.size w w1 := (Below.refl _ _).grown hgrow (Nat.le_refl _) (fun j hj => by cases hj)
  have hS := hgrow.size
  clear hown hgrow hi hz0 hz1 hz2
  go_loopg [0, 3] 9 (fun gk num row wr => LayAt .i64 n w.heap.size w gk num row wr)
  case atStart => exact ⟨n, [], rfl, Nat.le_refl _, rfl, rfl, by omega, hb1, hB1, hS⟩
  case round =>
    obtain ⟨q, l, rfl, hqn, hlen, hl, hq, hrow, hbe, hsz⟩ := hrel
    clear hb1 hB1 hS
    have HL := Lib.hid hl
    have HQ := Lib.hid hq
    have HR := Lib.hid hrow
    clear hl hq hrow
    by_cases h128 : 128 ≤ q
    · have hO := Lib.hid (or128 q)
      go_wp2_with (at_builtin; refine wpList_push rfl _ _ rfl HR.out hO.out rfl rfl (by omega) hsz ?_; intro v' w2 hrow' hB' hsz')
      have hbe' := hB' _ _ hbe (Nat.le_refl _)
      obtain ⟨hg1, R⟩ := lay_more .i64 n w.heap.size gk w w2 q l v' h128 hqn hlen HL.out HQ.out hrow' hbe' hsz'
      have HR2 := Lib.hid R
      clear R hB' hrow' HL HQ HR hO
      go_wp2
      go_roundg (gk - 1)
      case measure => omega
      case rel => exact HR2.out
    · have hO := Lib.hid (last128 q (by omega))
      go_wp2_with (at_builtin; refine wpList_push rfl _ _ rfl HR.out hO.out rfl rfl (by omega) hsz ?_; intro v' w2 hrow' hB' hsz')
      have hbe' := hB' _ _ hbe (Nat.le_refl _)
      rw [lay_last n gk q l (by omega) HL.out] at hrow'
      have HR2 := Lib.hid hrow'
      clear hB' hrow' HL HQ HR hO
      go_wp2
      go_ret
      exact ⟨_, rfl, HR2.out, hbe'⟩
set_option maxRecDepth 100000 in
set_option maxHeartbeats 1600000 in
theorem rput_any (n : Nat) (w : World) (hn : n < 18446744073709551616) :
    Calls Try.prog 13 #[.int .u64 (n : Int)] w fun e w' => e = .returned (.string (putB n)) ∧ Below w.heap.size w w' := by
  go_enter Try.func13, Try.ntmps13
  go_wp2
  go_loopg [0, 3] 9 (fun gk num row wr => LayAt .u64 n w.heap.size w gk num row wr)
  case atStart => exact ⟨n, [], rfl, Nat.le_refl _, rfl, rfl, by omega, RowB.nil _ _, Below.refl _ _, Nat.le_refl _⟩
  case round =>
    obtain ⟨q, l, rfl, hqn, hlen, hl, hq, hrow, hbe, hsz⟩ := hrel
    have HL := Lib.hid hl
    have HQ := Lib.hid hq
    have HR := Lib.hid hrow
    clear hl hq hrow
    by_cases h128 : 128 ≤ q
    · have hO := Lib.hid (sum128 q)
      go_wp2_with (at_builtin; refine wpList_push rfl _ _ rfl HR.out hO.out rfl rfl (by omega) hsz ?_; intro v' w2 hrow' hB' hsz')
      have hbe' := hB' _ _ hbe (Nat.le_refl _)
      obtain ⟨hg1, R⟩ := lay_more .u64 n w.heap.size gk w w2 q l v' h128 hqn hlen HL.out HQ.out hrow' hbe' hsz'
      have HR2 := Lib.hid R
      clear R hB' hrow' HL HQ HR hO
      go_wp2
      go_roundg (gk - 1)
      case measure => omega
      case rel => exact HR2.out
    · have hO := Lib.hid (last128 q (by omega))
      go_wp2_with (at_builtin; refine wpList_push rfl _ _ rfl HR.out hO.out rfl rfl (by omega) hsz ?_; intro v' w2 hrow' hB' hsz'; rw [lay_last n gk q l (by omega) HL.out] at hrow'; have hcv := hrow'.back; have hbe' := hB' _ _ hbe (Nat.le_refl _); clear hB' hrow' HL HQ HR hO)
      go_ret
      exact ⟨rfl, hbe'⟩

set_option maxHeartbeats 400000 in
theorem put_any (n : Nat) (w : World) (hn : n < 18446744073709551616) :
    Calls Try.prog 10 #[.int .u64 (n : Int)] w fun e w' => e = .returned (.string (putB n)) ∧ Below w.heap.size w w' := by
  go_enter Try.func10, Try.ntmps10
  go_wp2_with fail
  refine (lay_u64 n _ hn).mono ?_
  rintro _ w1 ⟨v, rfl, hrow, hb⟩
  have hcv := hrow.back
  clear hrow
  go_wp2
  go_ret
  exact ⟨rfl, hb⟩

theorem putB_size (n : Nat) : 1 ≤ (putB n).size ∧ (putB n).size ≤ 10 := by
  have := putF_len 9 n
  show 1 ≤ (putL n).toArray.size ∧ (putL n).toArray.size ≤ 10
  rw [List.size_toArray]
  exact this

set_option maxHeartbeats 400000 in
theorem puttext_any (t : ByteArray) (w : World) (ht : t.size ≤ 140737488351232) :
    Calls Try.prog 19 #[.string t] w fun e w' => e = .returned (.string (putB t.size ++ t)) ∧ Below w.heap.size w w' := by
  have hsz := (putB_size t.size).2
  have hss : (putB t.size).size + t.size ≤ 9223372036854775807 := by omega
  go_enter Try.func19, Try.ntmps19
  go_wp2_with fail
  refine (lay_i64 t.size _ (by omega)).mono ?_
  rintro _ w1 ⟨v, rfl, hrow, hb⟩
  have hcv : Sem.run Try.prog (convert 40 9 v) w1 = .ok (.string (putB t.size)) w1 := hrow.back
  clear hrow
  go_wp2
  go_ret
  exact ⟨rfl, hb⟩

set_option maxHeartbeats 400000 in
theorem rputtext_any (t : ByteArray) (w : World) (ht : t.size ≤ 140737488351232) :
    Calls Try.prog 21 #[.string t] w fun e w' => e = .returned (.string (putB t.size ++ t)) ∧ Below w.heap.size w w' := by
  have hsz := (putB_size t.size).2
  have hss : (putB t.size).size + t.size ≤ 9223372036854775807 := by omega
  go_enter Try.func21, Try.ntmps21
  go_wp2_with fail
  refine (rput_any t.size _ (by omega)).mono ?_
  rintro _ w1 ⟨rfl, hb⟩
  go_wp2
  go_ret
  exact ⟨rfl, hb⟩
end Go.Proofs.Ytdgnjhnbldbnhaa
