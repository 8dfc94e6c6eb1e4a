/-
  The program's own pieces (package lines): what its range over a function gives.
-/
import Derived.Test.YteoailanpmkcfaaLinesRows
import Derived.RangeFuncBox
import Derived.RangeFuncNested
import Derived.RangeFuncBound
import Derived.RangeFuncCalls
import Derived.RangeFuncLeaves
import Derived.Shelf.Abstract
import Derived.Shelf.RegionOpen
import Derived.OwnWalkIn
import Derived.TacticsInMore
import Derived.LoopNIn
import Derived.LoopIn
import Derived.Maps.AppendAt
namespace Go.Proofs.Yteoailanpmkcfaa
open Go.RowKit Go.Shelf
attribute [local go_sem] Oper.semAt_some
set_option linter.unusedVariables false

/-- A piece, and whether there is a parting byte behind it. -/
abbrev Piece := { x : ByteArray × Bool // x.1.size ≤ 1000000000000 }

def pieceV (x : Piece) : Array Value := #[.string x.1.1, .bool x.1.2]

/-- The pieces, when cur stands ahead. -/
def piecesL (part : UInt8) : List UInt8 → List UInt8 → List (List UInt8 × Bool)
  | cur, [] => [(cur, false)]
  | cur, c :: t => if c = part then (cur, true) :: piecesL part [] t else piecesL part (cur ++ [c]) t

def plainP (l : List Piece) : List (List UInt8 × Bool) := l.map fun x => (x.1.1.data.toList, x.1.2)

theorem plainP_snoc (l : List Piece) (x : Piece) : plainP (l ++ [x]) = plainP l ++ [(x.1.1.data.toList, x.1.2)] := by
  unfold plainP
  rw [List.map_append]
  rfl

/-- What the range holds: the pieces before b are given, the one in hand reaches from b to k. -/
def PieceInv (s : ByteArray) (part : UInt8) (pre : List Piece) (b k : Nat) : Prop :=
  b ≤ k ∧ k ≤ s.size ∧ pre.length ≤ b ∧ plainP pre ++ piecesL part (s.extract b k).data.toList (s.data.toList.drop k) = piecesL part [] s.data.toList

theorem pieceInv_start (s : ByteArray) (part : UInt8) : PieceInv s part [] 0 0 := by
  refine ⟨Nat.le_refl _, Nat.zero_le _, Nat.le_refl _, ?_⟩
  rw [ext_none]
  rfl

theorem ext_le (s : ByteArray) (b k : Nat) : (s.extract b k).size ≤ s.size := by
  rw [← list_len, ← list_len, extract_list]
  exact Nat.le_trans (List.length_take_le' _ _) (by rw [List.length_drop]; omega)

theorem pieceInv_part (s : ByteArray) (part : UInt8) (pre : List Piece) (b k : Nat) (hk : k < s.size) (hc : s[k] = part) (h : PieceInv s part pre b k) (hz : (s.extract b k).size ≤ 1000000000000) :
    PieceInv s part (pre ++ [⟨(s.extract b k, true), hz⟩]) (k + 1) (k + 1) := by
  obtain ⟨h1, h2, h3, h4⟩ := h
  refine ⟨Nat.le_refl _, by omega, by rw [List.length_append]; simp; omega, ?_⟩
  rw [← h4, plainP_snoc, drop_cons s k hk, hc, ext_none, List.append_assoc]
  congr 1
  show _ = if part = part then _ else _
  rw [if_pos rfl]
  rfl
theorem pieceInv_else (s : ByteArray) (part : UInt8) (pre : List Piece) (b k : Nat) (hk : k < s.size) (hc : s[k] ≠ part) (h : PieceInv s part pre b k) : PieceInv s part pre b (k + 1) := by
  obtain ⟨h1, h2, h3, h4⟩ := h
  refine ⟨by omega, by omega, h3, ?_⟩
  rw [← h4, drop_cons s k hk, ext_snoc s b k h1 hk]
  congr 1
  show _ = if s[k] = part then _ else _
  rw [if_neg hc]
theorem pieceInv_last (s : ByteArray) (part : UInt8) (pre : List Piece) (b k : Nat) (hk : ¬ k < s.size) (h : PieceInv s part pre b k) (hz : (s.extract b s.size).size ≤ 1000000000000) :
    plainP (pre ++ [⟨(s.extract b s.size, false), hz⟩]) = piecesL part [] s.data.toList := by
  obtain ⟨h1, h2, h3, h4⟩ := h
  have e : k = s.size := by omega
  subst e
  rw [← h4, plainP_snoc, List.drop_eq_nil_of_le (by rw [list_len]; exact Nat.le_refl _)]
  rfl

/-- What a round keeps: the two boxes of the range. -/
def KeepTwo (bs bp : Nat) (A B : World) : Prop := B.cell? ⟨bs, 0, none⟩ = A.cell? ⟨bs, 0, none⟩ ∧ B.cell? ⟨bp, 0, none⟩ = A.cell? ⟨bp, 0, none⟩

theorem grown_drewN (W : World) (n : Nat) : W.grownBy (W.drewN n) none := ⟨rfl, rfl, rfl, Nat.le_refl _, fun _ _ _ => rfl⟩

set_option maxRecDepth 100000 in
set_option maxHeartbeats 1600000 in
theorem pieces1_in (n l bs bp : Nat) (s : ByteArray) (part : UInt8) (hs : s.size ≤ 1000000000000) (J Jx : List Piece → World → Prop) (B : Nat) (hJ : AbidesFrom B J) (hn : 1 ≤ n)
    (hY : ∀ pre x W1, J pre W1 → pre.length < s.size + 1 → YieldAt Fence.wide (n - 1) Try.prog l (pieceV x) W1 fun e W' => (e = .returned (.bool true) ∧ J (pre ++ [x]) W' ∧ KeepTwo bs bp W1 W') ∨ (e = .returned (.bool false) ∧ Jx (pre ++ [x]) W'))
    (W : World) (hbs : W.cell? ⟨bs, 0, none⟩ = some (.string s)) (hbp : W.cell? ⟨bp, 0, none⟩ = some (.int .u8 (part.toNat : Int))) (h0 : J [] W) :
    CallsIn Fence.wide n Try.prog 47 #[.func (.yield l) #[] #[], .pointer (some ⟨bs, 0, none⟩), .pointer (some ⟨bp, 0, none⟩)] W fun e W' => (∃ v, e = .returned v) ∧ ((∃ ys, plainP ys = piecesL part [] s.data.toList ∧ J ys W') ∨ (∃ pre, True ∧ Jx pre W')) := by
  have hro : Fence.wide.round = none := rfl
  refine callsIn_of_wp Try.func47 rfl trivial ?_ hro
  simp only [Try.ntmps47, List.size_toArray, List.length_cons, List.length_nil, Nat.reduceAdd, Nat.reduceSub, Array.replicate_succ, Array.replicate_zero, List.push_toArray, List.append_toArray, List.nil_append, List.cons_append]
  gi_wp2
  gi_loopw [4, 8] (fun b k wr => ∃ (pre : List Piece) (bn kn : Nat), b = .int .i64 (bn : Int) ∧ k = .int .i64 (kn : Int) ∧ PieceInv s part pre bn kn ∧ wr.cell? ⟨bs, 0, none⟩ = some (.string s) ∧ wr.cell? ⟨bp, 0, none⟩ = some (.int .u8 (part.toNat : Int)) ∧ J pre wr)
    (fun _ k _ => s.size - (intOf k).toNat)
  case atStart => exact ⟨[], 0, 0, rfl, rfl, pieceInv_start s part, hbs, hbp, h0⟩
  case round =>
    obtain ⟨pre, b, k, rfl, rfl, hinv, hc1, hc2, hJs⟩ := hrel
    have HI := Lib.hid hinv
    obtain ⟨q1, q2, q3, _⟩ := hinv
    by_cases hlt : k < s.size
    · by_cases hc : s[k] = part
      · have hz : (s.extract b k).size ≤ 1000000000000 := Nat.le_trans (ext_le s b k) hs
        have HN := Lib.hid (pieceInv_part s part pre b k hlt hc HI.out hz)
        have d1 : (s[k].toNat : Int) = (part.toNat : Int) := by rw [hc]
        have z1 : (b : Int) ≤ (k : Int) := by omega
        have z2 : (k : Int) ≤ (s.size : Int) := by omega
        clear HI
        gi_wp2
        refine wpIn_wide.2 ?_
        go_quiet (fail)
        have hJd : J pre (wr.drewN nq) := hJ pre wr _ none hJs (grown_drewN wr nq) (fun r e => by cases e)
        obtain ⟨fn, tmps, assign, body, hy, hR⟩ := hY pre ⟨(s.extract b k, true), hz⟩ (wr.drewN nq) hJd (by omega)
        dsimp only [pieceV] at hy
        gi_wp2
        refine hR.mono ?_
        rintro e W3 (⟨rfl, hJ3, hk3⟩ | ⟨rfl, hJx3⟩)
        · have hc1' : W3.cell? ⟨bs, 0, none⟩ = some (.string s) := hk3.1.trans hc1
          have hc2' : W3.cell? ⟨bp, 0, none⟩ = some (.int .u8 (part.toNat : Int)) := hk3.2.trans hc2
          gi_wp2
          go_roundw
          case rel => exact ⟨_, k + 1, k + 1, by go_num, by go_num, HN.out, hc1', hc2', hJ3⟩
          case measure => simp [intOf]; omega
        · gi_wp2
          refine bodyPost_ret (results_none rfl _ _ _) rfl ?_
          exact ⟨⟨_, rfl⟩, .inr ⟨_, trivial, hJx3⟩⟩
      · have HN := Lib.hid (pieceInv_else s part pre b k hlt hc HI.out)
        have d1 : ((s[k].toNat : Int) == (part.toNat : Int)) = false := by
          rw [beq_eq_false_iff_ne]
          intro h
          exact hc (UInt8.toNat.inj (by omega))
        have d2 : ¬ (s[k].toNat : Int) = (part.toNat : Int) := by simpa using d1
        clear HI
        gi_wp2
        refine wpIn_wide.2 ?_
        go_quiet (fail)
        have hJd : J pre (wr.drewN nq) := hJ pre wr _ none hJs (grown_drewN wr nq) (fun r e => by cases e)
        gi_wp2
        go_roundw
        case rel => exact ⟨pre, b, k + 1, rfl, by go_num, HN.out, hc1, hc2, hJd⟩
        case measure => simp [intOf]; omega
    · have hz : (s.extract b s.size).size ≤ 1000000000000 := Nat.le_trans (ext_le s b _) hs
      have HN := Lib.hid (pieceInv_last s part pre b k hlt HI.out hz)
      have z1 : (b : Int) ≤ (s.size : Int) := by omega
      obtain ⟨fn, tmps, assign, body, hy, hR⟩ := hY pre ⟨(s.extract b s.size, false), hz⟩ wr hJs (by omega)
      dsimp only [pieceV] at hy
      clear HI
      gi_wp2
      refine hR.mono ?_
      rintro e W3 (⟨rfl, hJ3, hk3⟩ | ⟨rfl, hJx3⟩)
      · gi_wp2
        go_end0
        exact ⟨⟨_, rfl⟩, .inl ⟨_, HN.out, hJ3⟩⟩
      · gi_wp2
        go_end0
        exact ⟨⟨_, rfl⟩, .inr ⟨_, trivial, hJx3⟩⟩
end Go.Proofs.Yteoailanpmkcfaa
