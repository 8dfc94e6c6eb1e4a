/-
  Trim and Cut of package ascii: contracts.
-/
import Derived.Test.YtecgdibpfbnfgaaClos
import Derived.Deep.QuietTactic
import Derived.BigQuiet
import Derived.WalkSmall
namespace Go.Proofs.Ytecgdibpfbnfgaa
open Go.RowKit

set_option maxHeartbeats 400000 in
theorem cut_no (s : ByteArray) (d : Int) (w : World) (hs : s.size ≤ maxLen) (h : firstAt (fun c => c == d) s.data.toList = s.size) :
    Calls Try.prog 21 #[.string s, .int .u8 d] w fun e w' => e = .returned (.tuple #[.string s, .string ByteArray.empty, .bool false]) ∧ Below w.heap.size w w' := by
  have H := Lib.hid h
  clear h
  go_enter Try.func21, Try.ntmps21
  go_wp2_with fail
  refine (first_any 29 _ (fun c => c == d) s _ hs call29 (Lib.hid fun c => cut1_any c d _ _ (by go_simp))).mono ?_
  rintro e w' ⟨rfl, rfl⟩
  rw [H.out]
  go_wp2
  go_ret3
  exact ⟨rfl, ((Below.refl _ _).alloc (Nat.le_refl _) _)⟩

set_option maxHeartbeats 400000 in
theorem cut_yes (s : ByteArray) (d : Int) (k : Nat) (w : World) (hs : s.size ≤ maxLen) (h : firstAt (fun c => c == d) s.data.toList = k) (hk : k < s.size) :
    Calls Try.prog 21 #[.string s, .int .u8 d] w fun e w' => e = .returned (.tuple #[.string (s.extract 0 k), .string (s.extract (k + 1) s.size), .bool true]) ∧ Below w.heap.size w w' := by
  have H := Lib.hid h
  clear h
  unfold maxLen at hs
  have hne : ((k : Int) == (s.size : Int)) = false := by simp; omega
  go_enter Try.func21, Try.ntmps21
  go_wp2_with fail
  refine (first_any 29 _ (fun c => c == d) s _ hs call29 (Lib.hid fun c => cut1_any c d _ _ (by go_simp))).mono ?_
  rintro e w' ⟨rfl, rfl⟩
  rw [H.out]
  go_wp2
  go_quiet (fail)
  go_wp2
  go_ret3
  exact ⟨rfl, below_drewN ((Below.refl _ _).alloc (Nat.le_refl _) _) _⟩

/-- Where the kept bytes begin and end, of the first k bytes. -/
def trimSt (p : Int → Bool) (l : List UInt8) : Nat → Nat × Nat
  | 0 => (0, 0)
  | k + 1 => if p ((l.getD k 0).toNat : Int) then trimSt p l k else (if (trimSt p l k).2 = 0 then k else (trimSt p l k).1, k + 1)

theorem trimSt_le (p : Int → Bool) (l : List UInt8) : ∀ k, (trimSt p l k).1 ≤ (trimSt p l k).2 ∧ (trimSt p l k).2 ≤ k
  | 0 => by simp [trimSt]
  | k + 1 => by
    have ih := trimSt_le p l k
    unfold trimSt
    split
    · omega
    · simp only
      split <;> omega

theorem bgetD (s : ByteArray) (k : Nat) (h : k < s.size) : s.data.toList.getD k 0 = s[k] := by
  rw [← bget s k h, List.getD_eq_getElem?_getD, List.getElem?_eq_getElem (by simpa using h)]
  rfl

def trimB (s : ByteArray) : ByteArray := s.extract (trimSt (inSpans blankL) s.data.toList s.size).1 (trimSt (inSpans blankL) s.data.toList s.size).2

theorem ret_str {a b : ByteArray} (h : a = b) : Ending.returned (.string a) = .returned (.string b) := by rw [h]

set_option maxHeartbeats 800000 in
theorem trim_any (s : ByteArray) (w : World) (hs : s.size ≤ maxLen) :
    Calls Try.prog 19 #[.string s] w fun e w' => e = .returned (.string (trimB s)) ∧ Below w.heap.size w w' := by
  unfold maxLen at hs
  have HC : Hid (∀ c, Calls Try.prog 30 #[.int .u8 c, .pointer (some ⟨w.heap.size + 1, 0, none⟩)] ((w.alloc (.cells #[.int .u8 9, .int .u8 9, .int .u8 32, .int .u8 32] 35)).alloc (.cells #[.slice (some ⟨w.heap.size, 0, none⟩) 2 2] 38)) fun e w' => e = .returned (.bool (inSpans blankL c)) ∧ ((w.alloc (.cells #[.int .u8 9, .int .u8 9, .int .u8 32, .int .u8 32] 35)).alloc (.cells #[.slice (some ⟨w.heap.size, 0, none⟩) 2 2] 38)) = w') :=
    Lib.hid fun c => spans_calls blankL (cellsOf blankL) w (by decide) (has_cellsOf _) 2 rfl _ c (Below.refl _ _)
  have HB : Below w.heap.size w ((w.alloc (.cells #[.int .u8 9, .int .u8 9, .int .u8 32, .int .u8 32] 35)).alloc (.cells #[.slice (some ⟨w.heap.size, 0, none⟩) 2 2] 38)) := ((Below.refl _ _).alloc (Nat.le_refl _) _).alloc (by simp) _
  go_enter Try.func19, Try.ntmps19
  go_wp2_with fail
  refine (among_any _ _ _ _).mono ?_
  rintro e w' ⟨rfl, rfl⟩
  generalize ((w.alloc (.cells #[.int .u8 9, .int .u8 9, .int .u8 32, .int .u8 32] 35)).alloc (.cells #[.slice (some ⟨w.heap.size, 0, none⟩) 2 2] 38)) = W at HC HB ⊢
  go_wp2
  go_loop [4, 5, 13] (fun b e i => ∃ k : Nat, k ≤ s.size ∧ i = .int .i64 k ∧ b = .int .i64 (trimSt (inSpans blankL) s.data.toList k).1 ∧ e = .int .i64 (trimSt (inSpans blankL) s.data.toList k).2) (fun _ _ i => s.size - (intOf i).toNat)
  case atStart => exact ⟨0, Nat.zero_le _, rfl, rfl, rfl⟩
  case round =>
    obtain ⟨k, hk, rfl, rfl, rfl⟩ := hrel
    have hle := trimSt_le (inSpans blankL) s.data.toList k
    by_cases hlt : k < s.size
    · have hst : trimSt (inSpans blankL) s.data.toList (k + 1) = if inSpans blankL (s[k].toNat : Int) then trimSt (inSpans blankL) s.data.toList k else (if (trimSt (inSpans blankL) s.data.toList k).2 = 0 then k else (trimSt (inSpans blankL) s.data.toList k).1, k + 1) := by
        rw [← bgetD s k hlt]; rfl
      have Hst := Lib.hid hst
      clear hst
      generalize trimSt (inSpans blankL) s.data.toList k = st at *
      obtain ⟨b, e⟩ := st
      simp only at hle
      go_wp2_with fail
      refine (HC.out _).mono ?_
      rintro _ w' ⟨rfl, rfl⟩
      cases hb : inSpans blankL (s[k].toNat : Int)
      · have Hb := Lib.hid hb
        clear hb
        by_cases he : e = 0
        · subst he
          go_wp2
          go_round
          case rel => exact ⟨k + 1, by omega, by go_num, by rw [Hst.out, Hb.out]; rfl, by rw [Hst.out, Hb.out]; rfl⟩
          case measure => simp [intOf]; omega
        · have hen : ((e : Int) == 0) = false := by simp; omega
          go_wp2
          go_round
          case rel => exact ⟨k + 1, by omega, by go_num, by rw [Hst.out, Hb.out]; simp [he], by rw [Hst.out, Hb.out]; simp⟩
          case measure => simp [intOf]; omega
      · have Hb := Lib.hid hb
        clear hb
        go_wp2
        go_round
        case rel => exact ⟨k + 1, by omega, by go_num, by rw [Hst.out, Hb.out]; rfl, by rw [Hst.out, Hb.out]; rfl⟩
        case measure => simp [intOf]; omega
    · have e : k = s.size := by omega
      subst e
      go_wp2
      go_ret
      exact ⟨rfl, HB⟩
end Go.Proofs.Ytecgdibpfbnfgaa
