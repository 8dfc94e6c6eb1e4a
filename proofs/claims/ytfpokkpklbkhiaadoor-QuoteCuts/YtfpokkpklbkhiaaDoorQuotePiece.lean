/-
  The document's own Piece and Read (package cracknelref07): contracts.
-/
import Derived.Test.YtfpokkpklbkhiaaDoorQuoteEscP
import Derived.Test.YtfpokkpklbkhiaaDoorUtfTake
namespace Go.Proofs.YtfpokkpklbkhiaaDoor
open Go.RowKit
set_option linter.unusedVariables false

/-- What Piece, and Read, answer. -/
def pieceW (p : Nat × List UInt8 × Nat) : Value := .tuple #[.string ⟨p.2.1.toArray⟩, .int .i64 (p.2.2 : Int), .int .i64 (p.1 : Int)]

theorem ret_piece {p : Nat × List UInt8 × Nat} {v : Value} (h : pieceW p = v) : Ending.returned v = .returned (pieceW p) := by rw [h]

theorem piece_nil (s : ByteArray) (k : Nat) (h : ¬ k < s.size) : pieceQ (s.data.toList.drop k) = (71, [], 0) := by
  rw [List.drop_eq_nil_of_le (by rw [list_len]; omega)]
  rfl
theorem piece_cons (s : ByteArray) (k : Nat) (h : k < s.size) : pieceQ (s.data.toList.drop k) =
    if s[k].toNat < 32 then (72, [], 0)
    else if s[k].toNat = 92 then (match escQ (s.data.toList.drop (k + 1)) with | some (r, n) => (0, putU r, n) | none => (73, [], 0))
    else if (takeU (s.data.toList.drop k)).2.2 = true then (0, (s.data.toList.drop k).take (takeU (s.data.toList.drop k)).2.1, (takeU (s.data.toList.drop k)).2.1) else (74, [], 0) := by
  have e := drop_cons s k h
  rw [e]
  rfl

theorem rest_of (s : ByteArray) (p : Nat) : (s.extract p s.size).data.toList = s.data.toList.drop p := by
  rw [extract_list, List.take_of_length_le]
  rw [List.length_drop, list_len]
  omega

set_option maxRecDepth 100000 in
set_option maxHeartbeats 1600000 in
theorem rpiece_any (s : ByteArray) (at_ : Nat) (A : Int) (w : World) (hA : A = (at_ : Int)) (hs : s.size ≤ 150000000000000) (ha : at_ ≤ s.size) :
    Calls Tryd.prog 27 #[.string s, .int .i64 A] w fun e w' => e = .returned (pieceW (pieceQ (s.data.toList.drop at_))) ∧ Below w.heap.size w w' := by
  subst hA
  by_cases h1 : at_ < s.size
  · have k1 : ¬ (s.size : Int) ≤ (at_ : Int) := by omega
    have k2 : (at_ : Int) < (s.size : Int) := by omega
    have hp := piece_cons s at_ h1
    by_cases h32 : s[at_].toNat < 32
    · have HE : Hid (pieceQ (s.data.toList.drop at_) = (72, [], 0)) := by show _ = _; rw [hp, if_pos h32]
      have d1 : (s[at_].toNat : Int) < 32 := by omega
      clear hp h32
      go_enter Tryd.func27, Tryd.ntmps27
      go_wp2
      go_ret3
      exact ⟨ret_piece (by rw [HE.out]; rfl), Below.refl _ _⟩
    · have d1 : ¬ (s[at_].toNat : Int) < 32 := by omega
      rw [if_neg h32] at hp
      by_cases h92 : s[at_].toNat = 92
      · rw [if_pos h92] at hp
        have d2 : (s[at_].toNat : Int) = 92 := by omega
        clear h32 h92 d1
        cases he : escQ (s.data.toList.drop (at_ + 1)) with
        | none =>
          have HE : Hid (pieceQ (s.data.toList.drop at_) = (73, [], 0)) := by show _ = _; rw [hp, he]
          have HS : Hid (escV (escQ (s.data.toList.drop (at_ + 1))) = .tuple #[.int .i64 0, .int .i64 0]) := by show _ = _; rw [he]; rfl
          clear hp he
          go_enter Tryd.func27, Tryd.ntmps27
          go_wp2_with fail
          refine (rescape_any s at_ _ _ rfl hs h1).mono ?_
          rintro _ w1 ⟨rfl, rfl⟩
          rw [HS.out]
          go_wp2
          go_ret3
          exact ⟨ret_piece (by rw [HE.out]; rfl), Below.refl _ _⟩
        | some p =>
          obtain ⟨r, n⟩ := p
          obtain ⟨e1, e2, e3, _⟩ := escQ_yes _ _ _ he
          have HE : Hid (pieceQ (s.data.toList.drop at_) = (0, putU r, n)) := by show _ = _; rw [hp, he]
          have HS : Hid (escV (escQ (s.data.toList.drop (at_ + 1))) = .tuple #[.int .i64 (r : Int), .int .i64 (n : Int)]) := by show _ = _; rw [he]; rfl
          have m1 : ¬ (n : Int) = 0 := by omega
          have m2 : ((n : Int) == 0) = false := by rw [beq_eq_false_iff_ne]; exact m1
          have m3 : ¬ n = 0 := by omega
          have HL := Lib.hid e1
          obtain ⟨R, hR⟩ : ∃ R : Int, R = (r : Int) := ⟨_, rfl⟩
          rw [← hR] at HS
          have HR := Lib.hid hR
          clear hp he e1 e2 e3 hR
          go_enter Tryd.func27, Tryd.ntmps27
          go_wp2_with fail
          refine (rescape_any s at_ _ _ rfl hs h1).mono ?_
          rintro _ w1 ⟨rfl, rfl⟩
          rw [HS.out]
          go_wp2_with fail
          refine (at_rputu r R _ HR.out HL.out).mono ?_
          rintro _ w1 ⟨rfl, hb1⟩
          go_wp2
          go_ret3
          exact ⟨ret_piece (by rw [HE.out]; rfl), hb1⟩
      · rw [if_neg h92] at hp
        have d2 : ¬ (s[at_].toNat : Int) = 92 := by omega
        have d3 : ((s[at_].toNat : Int) == 92) = false := by rw [beq_eq_false_iff_ne]; exact d2
        clear h32 h92
        obtain ⟨r, n, b, ht⟩ : ∃ r n b, takeU (s.data.toList.drop at_) = (r, n, b) := ⟨_, _, _, rfl⟩
        rw [ht] at hp
        have HT : Hid (takeU (s.extract at_ s.size).data.toList = (r, n, b)) := by show _ = _; rw [rest_of]; exact ht
        have hz : (s.extract at_ s.size).size ≤ maxLen := by
          rw [← list_len, rest_of, List.length_drop, list_len]
          unfold maxLen
          omega
        have HZ := Lib.hid hz
        cases b with
        | false =>
          have HE : Hid (pieceQ (s.data.toList.drop at_) = (74, [], 0)) := by show _ = _; rw [hp]; rfl
          clear hp ht hz
          go_enter Tryd.func27, Tryd.ntmps27
          go_wp2_with fail
          refine (rtakeu_any _ r n false _ HZ.out HT.out).mono ?_
          rintro _ w1 ⟨rfl, hb1⟩
          go_wp2
          go_ret3
          exact ⟨ret_piece (by rw [HE.out]; rfl), hb1⟩
        | true =>
          obtain ⟨y1, y2, y3, y4, y5, y6⟩ := takeU_yes _ _ _ ht
          rw [List.length_drop, list_len] at y6
          have HE : Hid (pieceQ (s.data.toList.drop at_) = (0, (s.data.toList.drop at_).take n, n)) := by show _ = _; rw [hp]; rfl
          have z1 : (at_ : Int) + (n : Int) ≤ (s.size : Int) := by omega
          have z2 : at_ + n ≤ s.size := by omega
          clear hp ht hz y1 y2 y3
          go_enter Tryd.func27, Tryd.ntmps27
          go_wp2_with fail
          refine (rtakeu_any _ r n true _ HZ.out HT.out).mono ?_
          rintro _ w1 ⟨rfl, hb1⟩
          go_wp2
          go_ret3
          refine ⟨ret_piece ?_, hb1⟩
          rw [HE.out]
          have e : (⟨((s.data.toList.drop at_).take n).toArray⟩ : ByteArray) = s.extract at_ (at_ + n) := by
            apply ba_ext
            rw [extract_list, show at_ + n - at_ = n by omega]
          show Value.tuple #[.string ⟨((s.data.toList.drop at_).take n).toArray⟩, .int .i64 (n : Int), .int .i64 ((0 : Nat) : Int)] = _
          rw [e]
          rfl
  · have k1 : (s.size : Int) ≤ (at_ : Int) := by omega
    have HE := Lib.hid (piece_nil s at_ h1)
    go_enter Tryd.func27, Tryd.ntmps27
    go_wp2
    go_ret3
    exact ⟨ret_piece (by rw [HE.out]; rfl), Below.refl _ _⟩
end Go.Proofs.YtfpokkpklbkhiaaDoor
