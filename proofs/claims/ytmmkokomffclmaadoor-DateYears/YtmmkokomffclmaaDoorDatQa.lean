/-
  Package date: parting, digits: contracts; a clock in memory that is written.
  Package date: what a word tells (readTime, readDay, readMonth, readYear): contracts.
  Package date: readTime: a contract.
  Package date: the closures over which words there were (once): contracts.
  Package date: words, as a range over a function: what it gives.
-/
import Derived.Test.YtmmkokomffclmaaDoorDatRefA
import Derived.Test.YtmmkokomffclmaaDoorDatRefT
import Derived.Test.YtmmkokomffclmaaDoorCivBox
import Derived.Test.YtmmkokomffclmaaDoorDecFxd
import Derived.Test.YtmmkokomffclmaaDoorDatTab
import Derived.Test.YtmmkokomffclmaaDoorDatRefM
import Derived.Test.YtmmkokomffclmaaDoorAscSameP
import Derived.Test.YtmmkokomffclmaaDoorAscLowP
import Derived.Test.YtmmkokomffclmaaDoorDatRefW
import Derived.BigQuiet
import Derived.BigRegion
import Derived.RangeFuncBox
import Derived.RangeFuncNested
import Derived.RangeFuncBound
import Derived.RangeFuncCalls
import Derived.RangeFuncLeaves
import Derived.Shelf.Abstract
import Derived.Shelf.RegionOpen
import Derived.OwnWalkIn
import Derived.TacticsInMore
import Derived.LoopNIn
import Derived.LoopIn
namespace Go.Proofs.YtmmkokomffclmaaDoor
open Go.RowKit
set_option linter.unusedVariables false

/-! What a call leaves as it was -/

/-- But for block g, all that was there is as it was. -/
structure Save (g : Nat) (w w' : World) : Prop where
  os : w'.os = w.os
  tape : w'.tape = w.tape
  output : w'.output = w.output
  size : w.heap.size ≤ w'.heap.size
  block : ∀ k, k < w.heap.size → k ≠ g → w'.heap[k]? = w.heap[k]?

theorem Save.refl (g : Nat) (w : World) : Save g w w := ⟨rfl, rfl, rfl, Nat.le_refl _, fun _ _ _ => rfl⟩
theorem Save.trans {g : Nat} {a b c : World} (h : Save g a b) (k : Save g b c) : Save g a c :=
  ⟨k.os.trans h.os, k.tape.trans h.tape, k.output.trans h.output, Nat.le_trans h.size k.size, fun i hi hg => (k.block i (Nat.lt_of_lt_of_le hi h.size) hg).trans (h.block i hi hg)⟩
theorem Save.of_below {g : Nat} {w w' : World} (h : Below w.heap.size w w') : Save g w w' := ⟨h.os, h.tape, h.output, h.size, fun k hk _ => h.block k hk⟩
theorem Save.set (g j : Nat) (w : World) (v : Value) : Save g w (w.setCell ⟨g, j, none⟩ v) := by
  have h : Below 0 w (w.setCell ⟨g, j, none⟩ v) := (Below.refl 0 w).setCell (p := ⟨g, j, none⟩) (Nat.zero_le _) v
  exact ⟨h.os, h.tape, h.output, h.size, fun k _ hg => Below.heap_setCell w ⟨g, j, none⟩ v k hg⟩
theorem Save.below {g B : Nat} {a w w' : World} (h : Save g w w') (hb : Below B a w) (hg : B ≤ g) (hB : B ≤ w.heap.size) : Below B a w' :=
  hb.trans ⟨h.os, h.tape, h.output, h.size, fun k hk => h.block k (Nat.lt_of_lt_of_le hk hB) (by omega)⟩
theorem Save.cell {g : Nat} {w w' : World} {p : Addr} {v : Value} (h : Save g w w') (hc : w.cell? p = some v) (hg : p.block ≠ g) : w'.cell? p = some v := by
  rw [World.cell?_of_block (w := w) (h.block p.block (World.block_lt_of_cell? w p hc) hg)]
  exact hc
theorem Save.frozen {g : Nat} {w w' : World} {p : Addr} (h : Save g w w') (hp : p.block < w.heap.size) (hg : p.block ≠ g) : w'.frozen? p = w.frozen? p :=
  World.frozen?_of_block (w := w) (h.block p.block hp hg)
theorem Save.drew {g : Nat} {a w : World} (h : Save g a w) : Save g a w.drew := ⟨h.os, h.tape, h.output, h.size, h.block⟩

/-- A clock's parts. -/
structure Clk where
  y : Int
  m : Int
  d : Int
  h : Int
  i : Int
  s : Int

/-- A clock lies in block g, and may be written. -/
def ClkW (w : World) (g : Nat) (c : Clk) : Prop := ClkAt w g c.y c.m c.d c.h c.i c.s ∧ ∀ j, j < 6 → w.frozen? ⟨g, j, none⟩ = false

theorem ClkW.lt {w : World} {g : Nat} {c : Clk} (h : ClkW w g c) : g < w.heap.size := World.block_lt_of_cell? w ⟨g, 0, none⟩ h.1.1
theorem ClkW.keep {w w' : World} {g : Nat} {c : Clk} (h : ClkW w g c) (hb : Below w.heap.size w w') : ClkW w' g c := by
  have hg : g < w.heap.size := h.lt
  exact ⟨h.1.keep hb, fun j hj => by rw [hb.frozen (p := ⟨g, j, none⟩) hg]; exact h.2 j hj⟩
theorem ClkW.save {w w' : World} {g b : Nat} {c : Clk} (h : ClkW w g c) (hb : Save b w w') (hne : g ≠ b) : ClkW w' g c := by
  have hg : g < w.heap.size := h.lt
  obtain ⟨⟨c0, c1, c2, c3, c4, c5⟩, hf⟩ := h
  exact ⟨⟨hb.cell c0 hne, hb.cell c1 hne, hb.cell c2 hne, hb.cell c3 hne, hb.cell c4 hne, hb.cell c5 hne⟩, fun j hj => by rw [hb.frozen (p := ⟨g, j, none⟩) hg hne]; exact hf j hj⟩
theorem ClkW.drew {w : World} {g : Nat} {c : Clk} (h : ClkW w g c) : ClkW w.drew g c := h.keep (Below.refl _ _).drew

theorem ClkW.setY {w : World} {g : Nat} {c : Clk} (h : ClkW w g c) (x : Int) : ClkW (w.setCell ⟨g, 0, none⟩ (.int .i64 x)) g { c with y := x } := by
  obtain ⟨⟨c0, c1, c2, c3, c4, c5⟩, hf⟩ := h
  refine ⟨⟨World.cell?_setCell_same w _ _ c0, ?_, ?_, ?_, ?_, ?_⟩, fun j hj => by rw [World.frozen?_setCell]; exact hf j hj⟩ <;>
    (rw [World.cell?_setCell_other w _ _ _ (fun h => by injection h with _ h2 _; cases h2)]; assumption)
theorem ClkW.setM {w : World} {g : Nat} {c : Clk} (h : ClkW w g c) (x : Int) : ClkW (w.setCell ⟨g, 1, none⟩ (.int .i64 x)) g { c with m := x } := by
  obtain ⟨⟨c0, c1, c2, c3, c4, c5⟩, hf⟩ := h
  refine ⟨⟨?_, World.cell?_setCell_same w _ _ c1, ?_, ?_, ?_, ?_⟩, fun j hj => by rw [World.frozen?_setCell]; exact hf j hj⟩ <;>
    (rw [World.cell?_setCell_other w _ _ _ (fun h => by injection h with _ h2 _; cases h2)]; assumption)
theorem ClkW.setD {w : World} {g : Nat} {c : Clk} (h : ClkW w g c) (x : Int) : ClkW (w.setCell ⟨g, 2, none⟩ (.int .i64 x)) g { c with d := x } := by
  obtain ⟨⟨c0, c1, c2, c3, c4, c5⟩, hf⟩ := h
  refine ⟨⟨?_, ?_, World.cell?_setCell_same w _ _ c2, ?_, ?_, ?_⟩, fun j hj => by rw [World.frozen?_setCell]; exact hf j hj⟩ <;>
    (rw [World.cell?_setCell_other w _ _ _ (fun h => by injection h with _ h2 _; cases h2)]; assumption)
theorem ClkW.setH {w : World} {g : Nat} {c : Clk} (h : ClkW w g c) (x : Int) : ClkW (w.setCell ⟨g, 3, none⟩ (.int .i64 x)) g { c with h := x } := by
  obtain ⟨⟨c0, c1, c2, c3, c4, c5⟩, hf⟩ := h
  refine ⟨⟨?_, ?_, ?_, World.cell?_setCell_same w _ _ c3, ?_, ?_⟩, fun j hj => by rw [World.frozen?_setCell]; exact hf j hj⟩ <;>
    (rw [World.cell?_setCell_other w _ _ _ (fun h => by injection h with _ h2 _; cases h2)]; assumption)
theorem ClkW.setI {w : World} {g : Nat} {c : Clk} (h : ClkW w g c) (x : Int) : ClkW (w.setCell ⟨g, 4, none⟩ (.int .i64 x)) g { c with i := x } := by
  obtain ⟨⟨c0, c1, c2, c3, c4, c5⟩, hf⟩ := h
  refine ⟨⟨?_, ?_, ?_, ?_, World.cell?_setCell_same w _ _ c4, ?_⟩, fun j hj => by rw [World.frozen?_setCell]; exact hf j hj⟩ <;>
    (rw [World.cell?_setCell_other w _ _ _ (fun h => by injection h with _ h2 _; cases h2)]; assumption)
theorem ClkW.setS {w : World} {g : Nat} {c : Clk} (h : ClkW w g c) (x : Int) : ClkW (w.setCell ⟨g, 5, none⟩ (.int .i64 x)) g { c with s := x } := by
  obtain ⟨⟨c0, c1, c2, c3, c4, c5⟩, hf⟩ := h
  refine ⟨⟨?_, ?_, ?_, ?_, ?_, World.cell?_setCell_same w _ _ c5⟩, fun j hj => by rw [World.frozen?_setCell]; exact hf j hj⟩ <;>
    (rw [World.cell?_setCell_other w _ _ _ (fun h => by injection h with _ h2 _; cases h2)]; assumption)

/-! parting, digits -/

set_option maxRecDepth 100000 in
set_option maxHeartbeats 1600000 in
theorem parting_any (c : UInt8) (w : World) :
    Calls Tryd.prog 48 #[.int .u8 (c.toNat : Int)] w fun e w' => e = .returned (.bool (partC c)) ∧ w' = w := by
  rcases (show (c.toNat : Int) = 9 ∨ ¬ (c.toNat : Int) = 9 from by omega) with h9 | h9
  · have d9 : ((c.toNat : Int) == 9) = true := by simpa using h9
    go_enter Tryd.func48, Tryd.ntmps48
    go_wp2
    go_ret
    refine ⟨ret_bool ?_, rfl⟩
    rw [Bool.eq_iff_iff]
    simp [partC] <;> omega
  · have d9 : ((c.toNat : Int) == 9) = false := by simpa using h9
    go_enter Tryd.func48, Tryd.ntmps48
    go_wp2
    all_goals
      go_ret
      refine ⟨ret_bool ?_, rfl⟩
      rw [Bool.eq_iff_iff]
      simp [partC] <;> omega

theorem ret_isb {i j : Int} {s t : ByteArray} (b : Bool) (h : i = j) (h2 : s = t) : Ending.returned (.tuple #[.int .i64 i, .string s, .bool b]) = .returned (.tuple #[.int .i64 j, .string t, .bool b]) := by rw [h, h2]

/-- How far digits go: the loop's own. -/
def DigSt (s : ByteArray) (w0 : World) (gk : Nat) (n : Value) (wr : World) : Prop :=
  ∃ k : Nat, n = .int .i64 k ∧ k + gk = s.size + 1 ∧ 1 ≤ gk ∧ digN s.data.toList = k + digN (s.data.toList.drop k) ∧ wr = w0

set_option maxRecDepth 100000 in
set_option maxHeartbeats 1600000 in
theorem pdigits_yes (s : ByteArray) (a b n v : Nat) (w : World) (hs : s.size ≤ 1000000000) (hn : digN s.data.toList = n) (h0 : 1 ≤ a) (h1 : a ≤ n) (h2 : n ≤ b) (h3 : b ≤ 18) (hv : valN (s.data.toList.take n) = v) :
    Calls Tryd.prog 45 #[.string s, .int .i64 (a : Int), .int .i64 (b : Int)] w fun e w' => e = .returned (.tuple #[.int .i64 (v : Int), .string (s.extract n s.size), .bool true]) ∧ Below w.heap.size w w' := by
  have hle := digN_le s.data.toList
  rw [list_len, hn] at hle
  have hes : (s.extract 0 n).size = n := by rw [ByteArray.size_extract]; omega
  have HU := Lib.hid (unfixed_yes (s.extract 0 n) v · (by omega) (by omega) (by rw [pref_list, ← hn]; exact digN_all _) (by rw [pref_list]; exact hv))
  have HN := Lib.hid hn
  clear hn hv
  go_enter Tryd.func45, Tryd.ntmps45
  go_wp2
  go_loopg [9] (s.size + 1) (fun gk n wr => DigSt s w gk n wr)
  case atStart => exact ⟨0, rfl, by omega, by omega, by simp, rfl⟩
  case round =>
    obtain ⟨k, rfl, hk, hg, hd, rfl⟩ := hrel
    by_cases hlt : k < s.size
    · have HD := Lib.hid (digN_drop s k hlt)
      have HE := Lib.hid hd
      clear hd
      by_cases hdig : 48 ≤ s[k].toNat ∧ s[k].toNat ≤ 57
      · obtain ⟨g1, g2⟩ := hdig
        have hI : Hid (isD s[k] = true) := (isD_iff _).2 ⟨g1, g2⟩
        go_wp2
        go_roundg (gk - 1)
        case measure => omega
        case rel => exact ⟨k + 1, by go_num, by omega, by omega, by rw [HE.out, HD.out, if_pos hI.out]; omega, rfl⟩
      · have hI : Hid (¬ isD s[k] = true) := fun h => hdig ((isD_iff _).1 h)
        have hkn : n = k := by have := HE.out; rw [HD.out, if_neg hI.out, HN.out] at this; omega
        subst hkn
        rcases (show ¬ 48 ≤ s[n].toNat ∨ (48 ≤ s[n].toNat ∧ ¬ s[n].toNat ≤ 57) from by omega) with g1 | ⟨g1, g2⟩
        all_goals
          clear hdig HE HD
          go_wp2_with fail
          refine (HU.out _).mono ?_
          rintro _ w1 ⟨rfl, hb1⟩
          go_wp2_with fail
          go_quiet (fail)
          go_wp2
          go_ret3
          exact ⟨rfl, below_drewN hb1 _⟩
    · have hk' : k = s.size := by omega
      have hkn : n = k := by rw [HN.out, hk', List.drop_eq_nil_of_le (by simp)] at hd; simp [digN] at hd; omega
      subst hkn
      clear hd hk'
      go_wp2_with fail
      refine (HU.out _).mono ?_
      rintro _ w1 ⟨rfl, hb1⟩
      go_wp2_with fail
      go_quiet (fail)
      go_wp2
      go_ret3
      exact ⟨rfl, below_drewN hb1 _⟩

set_option maxRecDepth 100000 in
set_option maxHeartbeats 1600000 in
theorem pdigits_no (s : ByteArray) (a b n : Nat) (w : World) (hs : s.size ≤ 1000000000) (hn : digN s.data.toList = n) (hb : b ≤ 18) (ha : a ≤ 18) (h : n < a ∨ b < n) :
    Calls Tryd.prog 45 #[.string s, .int .i64 (a : Int), .int .i64 (b : Int)] w fun e w' => e = .returned (.tuple #[.int .i64 0, .string ByteArray.empty, .bool false]) ∧ Below w.heap.size w w' := by
  have hle := digN_le s.data.toList
  rw [list_len, hn] at hle
  have HN := Lib.hid hn
  have HX := Lib.hid h
  clear hn h
  go_enter Tryd.func45, Tryd.ntmps45
  go_wp2
  go_loopg [9] (s.size + 1) (fun gk n wr => DigSt s w gk n wr)
  case atStart => exact ⟨0, rfl, by omega, by omega, by simp, rfl⟩
  case round =>
    obtain ⟨k, rfl, hk, hg, hd, rfl⟩ := hrel
    by_cases hlt : k < s.size
    · have HD := Lib.hid (digN_drop s k hlt)
      have HE := Lib.hid hd
      clear hd
      by_cases hdig : 48 ≤ s[k].toNat ∧ s[k].toNat ≤ 57
      · obtain ⟨g1, g2⟩ := hdig
        have hI : Hid (isD s[k] = true) := (isD_iff _).2 ⟨g1, g2⟩
        go_wp2
        go_roundg (gk - 1)
        case measure => omega
        case rel => exact ⟨k + 1, by go_num, by omega, by omega, by rw [HE.out, HD.out, if_pos hI.out]; omega, rfl⟩
      · have hI : Hid (¬ isD s[k] = true) := fun h => hdig ((isD_iff _).1 h)
        have hkn : n = k := by have := HE.out; rw [HD.out, if_neg hI.out, HN.out] at this; omega
        subst hkn
        rcases (show ¬ 48 ≤ s[n].toNat ∨ (48 ≤ s[n].toNat ∧ ¬ s[n].toNat ≤ 57) from by omega) with g1 | ⟨g1, g2⟩
        all_goals
          clear hdig HE HD
          rcases (show n < a ∨ (¬ n < a ∧ b < n) from by have := HX.out; omega) with q1 | ⟨q1, q2⟩
          all_goals
            go_wp2
            go_ret3
            exact ⟨rfl, Below.refl _ _⟩
    · have hk' : k = s.size := by omega
      have hkn : n = k := by rw [HN.out, hk', List.drop_eq_nil_of_le (by simp)] at hd; simp [digN] at hd; omega
      subst hkn
      clear hd hk'
      rcases (show n < a ∨ (¬ n < a ∧ b < n) from by have := HX.out; omega) with q1 | ⟨q1, q2⟩
      all_goals
        go_wp2
        go_ret3
        exact ⟨rfl, Below.refl _ _⟩
end Go.Proofs.YtmmkokomffclmaaDoor
namespace Go.Proofs.YtmmkokomffclmaaDoor
open Go.RowKit
set_option linter.unusedVariables false

/-! The table of months -/

def monA : Array Value := #[.string (monHB 0), .string (monHB 1), .string (monHB 2), .string (monHB 3), .string (monHB 4), .string (monHB 5), .string (monHB 6), .string (monHB 7), .string (monHB 8), .string (monHB 9), .string (monHB 10), .string (monHB 11)]

theorem mon_index (k : Nat) (hk : k < 12) (w : World) : Sem.run Tryd.prog (Instr.index 56 (.agg monA) (.int .i64 (k : Int))) w = .ok (.string (monHB k)) w := by
  unfold monA
  rcases (show k = 0 ∨ k = 1 ∨ k = 2 ∨ k = 3 ∨ k = 4 ∨ k = 5 ∨ k = 6 ∨ k = 7 ∨ k = 8 ∨ k = 9 ∨ k = 10 ∨ k = 11 from by omega) with rfl | rfl | rfl | rfl | rfl | rfl | rfl | rfl | rfl | rfl | rfl | rfl <;> first | rfl | go_simp

theorem mon_agg : (#[.string (monHB 0), .string (monHB 1), .string (monHB 2), .string (monHB 3), .string (monHB 4), .string (monHB 5), .string (monHB 6), .string (monHB 7), .string (monHB 8), .string (monHB 9), .string (monHB 10), .string (monHB 11)] : Array Value) = monA := rfl

/-- What a word that tells something leaves. -/
def ReadPost (g : Nat) (w : World) (r : Option Clk) (e : Ending) (w' : World) : Prop :=
  match r with
  | none => e = .returned (.bool false) ∧ Below w.heap.size w w'
  | some c => e = .returned (.bool true) ∧ Save g w w' ∧ ClkW w' g c

def rdTime (c : Clk) (l : List UInt8) : Option Clk := (timeL l).map fun p => { c with h := p.1, i := p.2.1, s := p.2.2 }
def rdDay (c : Clk) (l : List UInt8) : Option Clk := if 1 ≤ digN l ∧ digN l ≤ 2 then some { c with d := valN (l.take (digN l)) } else none
def rdMonth (c : Clk) (l : List UInt8) : Option Clk := if 0 < monthL l then some { c with m := monthL l } else none
def rdYear (c : Clk) (l : List UInt8) : Option Clk := if 2 ≤ digN l ∧ digN l ≤ 4 then some { c with y := yearOf (valN (l.take (digN l))) } else none

set_option maxRecDepth 100000 in
set_option maxHeartbeats 1600000 in
theorem pday_any (g : Nat) (s : ByteArray) (c : Clk) (w : World) (hs : s.size ≤ 1000000000) (hc : ClkW w g c) :
    Calls Tryd.prog 23 #[.pointer (some ⟨g, 0, none⟩), .string s] w fun e w' => ReadPost g w (rdDay c s.data.toList) e w' := by
  by_cases h : 1 ≤ digN s.data.toList ∧ digN s.data.toList ≤ 2
  · obtain ⟨v, hv⟩ : ∃ v, v = valN (s.data.toList.take (digN s.data.toList)) := ⟨_, rfl⟩
    have HR : Hid (rdDay c s.data.toList = some { c with d := v }) := by show _ = _; unfold rdDay; rw [if_pos h, hv]
    have HD : Hid (Calls Tryd.prog 45 #[.string s, .int .i64 1, .int .i64 2] w fun e w' => e = .returned (.tuple #[.int .i64 (v : Int), .string (s.extract (digN s.data.toList) s.size), .bool true]) ∧ Below w.heap.size w w') :=
      pdigits_yes s 1 2 _ v w hs rfl (by decide) h.1 h.2 (by decide) hv.symm
    clear hv
    have HC := Lib.hid hc
    clear hc h
    go_enter Tryd.func23, Tryd.ntmps23
    go_wp2_with fail
    refine HD.out.mono ?_
    rintro _ w1 ⟨rfl, hb1⟩
    have hc1 := HC.out.keep hb1
    have HC1 := Lib.hid hc1
    have c2 := hc1.1.2.2.1
    have f2 := hc1.2 2 (by decide)
    clear hc1
    go_wp2
    go_ret
    rw [HR.out]
    exact ⟨rfl, (Save.of_below hb1).trans (Save.set _ _ _ _), HC1.out.setD _⟩
  · have HR : Hid (rdDay c s.data.toList = none) := by show _ = _; unfold rdDay; rw [if_neg h]
    have HD : Hid (Calls Tryd.prog 45 #[.string s, .int .i64 1, .int .i64 2] w fun e w' => e = .returned (.tuple #[.int .i64 0, .string ByteArray.empty, .bool false]) ∧ Below w.heap.size w w') :=
      pdigits_no s 1 2 _ w hs rfl (by decide) (by decide) (by omega)
    clear h hc
    go_enter Tryd.func23, Tryd.ntmps23
    go_wp2_with fail
    refine HD.out.mono ?_
    rintro _ w1 ⟨rfl, hb1⟩
    go_wp2
    go_ret
    rw [HR.out]
    exact ⟨rfl, hb1⟩

set_option maxRecDepth 100000 in
set_option maxHeartbeats 1600000 in
theorem pyear_any (g : Nat) (s : ByteArray) (c : Clk) (w : World) (hs : s.size ≤ 1000000000) (hc : ClkW w g c) :
    Calls Tryd.prog 25 #[.pointer (some ⟨g, 0, none⟩), .string s] w fun e w' => ReadPost g w (rdYear c s.data.toList) e w' := by
  by_cases h : 2 ≤ digN s.data.toList ∧ digN s.data.toList ≤ 4
  · obtain ⟨v, hv⟩ : ∃ v, v = valN (s.data.toList.take (digN s.data.toList)) := ⟨_, rfl⟩
    have hl : (s.data.toList.take (digN s.data.toList)).length ≤ 4 := by rw [List.length_take]; omega
    have h4 := Nat.lt_of_lt_of_le (valN_lt _ (digN_all s.data.toList)) (Nat.pow_le_pow_right (n := 10) (by decide) hl)
    rw [← hv] at h4
    have h5 : v < 10000 := h4
    have HR : Hid (rdYear c s.data.toList = some { c with y := yearOf v }) := by show _ = _; unfold rdYear; rw [if_pos h, hv]
    have HD : Hid (Calls Tryd.prog 45 #[.string s, .int .i64 2, .int .i64 4] w fun e w' => e = .returned (.tuple #[.int .i64 (v : Int), .string (s.extract (digN s.data.toList) s.size), .bool true]) ∧ Below w.heap.size w w') :=
      pdigits_yes s 2 4 _ v w hs rfl (by decide) h.1 h.2 (by decide) hv.symm
    have HC := Lib.hid hc
    clear hc h hv hl h4
    rcases (show v < 70 ∨ (¬ v < 70 ∧ v < 100) ∨ (¬ v < 70 ∧ ¬ v < 100) from by omega) with q1 | ⟨q1, q2⟩ | ⟨q1, q2⟩
    · have HY : Hid (yearOf v = (v : Int) + 2000) := by show _ = _; unfold yearOf; rw [if_neg (by omega), if_pos (by omega)]
      go_enter Tryd.func25, Tryd.ntmps25
      go_wp2_with fail
      refine HD.out.mono ?_
      rintro _ w1 ⟨rfl, hb1⟩
      have hc1 := HC.out.keep hb1
      have HC1 := Lib.hid hc1
      have c2 := hc1.1.1
      have f2 := hc1.2 0 (by decide)
      clear hc1
      go_wp2
      go_ret
      rw [HR.out, HY.out]
      exact ⟨rfl, (Save.of_below hb1).trans (Save.set _ _ _ _), HC1.out.setY _⟩
    · have HY : Hid (yearOf v = (v : Int) + 1900) := by show _ = _; unfold yearOf; rw [if_pos (by omega)]
      go_enter Tryd.func25, Tryd.ntmps25
      go_wp2_with fail
      refine HD.out.mono ?_
      rintro _ w1 ⟨rfl, hb1⟩
      have hc1 := HC.out.keep hb1
      have HC1 := Lib.hid hc1
      have c2 := hc1.1.1
      have f2 := hc1.2 0 (by decide)
      clear hc1
      go_wp2
      go_ret
      rw [HR.out, HY.out]
      exact ⟨rfl, (Save.of_below hb1).trans (Save.set _ _ _ _), HC1.out.setY _⟩
    · have HY : Hid (yearOf v = (v : Int)) := by show _ = _; unfold yearOf; rw [if_neg (by omega), if_neg (by omega)]
      go_enter Tryd.func25, Tryd.ntmps25
      go_wp2_with fail
      refine HD.out.mono ?_
      rintro _ w1 ⟨rfl, hb1⟩
      have hc1 := HC.out.keep hb1
      have HC1 := Lib.hid hc1
      have c2 := hc1.1.1
      have f2 := hc1.2 0 (by decide)
      clear hc1
      go_wp2
      go_ret
      rw [HR.out, HY.out]
      exact ⟨rfl, (Save.of_below hb1).trans (Save.set _ _ _ _), HC1.out.setY _⟩
  · have HR : Hid (rdYear c s.data.toList = none) := by show _ = _; unfold rdYear; rw [if_neg h]
    have HD : Hid (Calls Tryd.prog 45 #[.string s, .int .i64 2, .int .i64 4] w fun e w' => e = .returned (.tuple #[.int .i64 0, .string ByteArray.empty, .bool false]) ∧ Below w.heap.size w w') :=
      pdigits_no s 2 4 _ w hs rfl (by decide) (by decide) (by omega)
    clear h hc
    go_enter Tryd.func25, Tryd.ntmps25
    go_wp2_with fail
    refine HD.out.mono ?_
    rintro _ w1 ⟨rfl, hb1⟩
    go_wp2
    go_ret
    rw [HR.out]
    exact ⟨rfl, hb1⟩

/-! readMonth -/

theorem low_monHB (k : Nat) (hk : k < 12) : lowB (monHB k) = monB k := by
  rcases (show k = 0 ∨ k = 1 ∨ k = 2 ∨ k = 3 ∨ k = 4 ∨ k = 5 ∨ k = 6 ∨ k = 7 ∨ k = 8 ∨ k = 9 ∨ k = 10 ∨ k = 11 from by omega) with rfl | rfl | rfl | rfl | rfl | rfl | rfl | rfl | rfl | rfl | rfl | rfl <;> rfl

def MonSt (key : List UInt8) (w0 : World) (gk : Nat) (i : Value) (wr : World) : Prop :=
  ∃ k : Nat, i = .int .i64 (k : Int) ∧ k + gk = 13 ∧ 1 ≤ gk ∧ placeOf key monthsL 0 = placeOf key (monthsL.drop k) k ∧ Below w0.heap.size w0 wr

set_option maxRecDepth 100000 in
set_option maxHeartbeats 1600000 in
theorem pmonth_long (g : Nat) (s : ByteArray) (c : Clk) (w : World) (hs : s.size ≤ 1000000000) (h3 : 3 ≤ s.size) (hc : ClkW w g c) (hT : MTabs w) :
    Calls Tryd.prog 24 #[.pointer (some ⟨g, 0, none⟩), .string s] w fun e w' => ReadPost g w (rdMonth c s.data.toList) e w' := by
  have hk0 : Hid (monthL s.data.toList = placeOf ((s.data.toList.take 3).map lowD) monthsL 0) := by
    show _ = _
    unfold monthL
    rw [if_pos (by rw [list_len]; exact h3)]
  have hkey : (lowB (s.extract 0 3)).data.toList = (s.data.toList.take 3).map lowD := by
    rw [lowD_lowC, ← pref_list]
    simp [lowB]
  obtain ⟨key, hkk⟩ : ∃ key, key = (s.data.toList.take 3).map lowD := ⟨_, rfl⟩
  rw [← hkk] at hk0 hkey
  have HK := Lib.hid hkey
  have hes : (s.extract 0 3).size = 3 := by rw [ByteArray.size_extract]; omega
  clear hkk hkey
  have HC := Lib.hid hc
  have c0 := hT 0 (by decide)
  have c1 := hT 1 (by decide)
  have c2 := hT 2 (by decide)
  have c3 := hT 3 (by decide)
  have c4 := hT 4 (by decide)
  have c5 := hT 5 (by decide)
  have c6 := hT 6 (by decide)
  have c7 := hT 7 (by decide)
  have c8 := hT 8 (by decide)
  have c9 := hT 9 (by decide)
  have c10 := hT 10 (by decide)
  have c11 := hT 11 (by decide)
  have hindex := mon_index
  have HX := Lib.hid hindex
  clear hc hindex hT
  go_enter Tryd.func24, Tryd.ntmps24
  go_wp2
  rw [mon_agg]
  clear c0 c1 c2 c3 c4 c5 c6 c7 c8 c9 c10 c11
  go_loopg [8] 13 (fun gk i wr => MonSt key w gk i wr)
  case atStart => exact ⟨0, rfl, by omega, by omega, rfl, Below.refl _ _⟩
  case round =>
    obtain ⟨k, rfl, hk, hg1, hinv, hbe⟩ := hrel
    have HI := Lib.hid hinv
    clear hinv
    by_cases hlt : k < 12
    · have hx := HX.out k hlt
      have HP := Lib.hid (placeOf_at key monthsL k hlt)
      obtain ⟨nm, hnm⟩ : ∃ nm, nm = monHB k := ⟨_, rfl⟩
      have hnz : nm.size = 3 := by rw [hnm]; exact monHB_size k hlt
      have HL : Hid (lowB nm = monB k) := by show _ = _; rw [hnm]; exact low_monHB k hlt
      rw [← hnm] at hx
      clear hnm
      have HS := Lib.hid (same_any (s.extract 0 3) nm · (by omega) (by omega))
      obtain ⟨q, hq⟩ : ∃ q, q = ((lowB (s.extract 0 3)).toList == (lowB nm).toList) := ⟨_, rfl⟩
      have HE : Hid (q = decide (key = monthsL.getD k [])) := by
        show _ = _
        rw [hq, eq_toList, Bool.eq_iff_iff, decide_eq_true_eq, decide_eq_true_eq, HL.out, ← HK.out]
        constructor
        · intro h; rw [h]; simp [monB]
        · intro h; exact ba_ext (by rw [h]; simp [monB])
      rw [← hq] at HS
      clear hq
      cases q
      · have HF : Hid (placeOf key monthsL 0 = placeOf key (monthsL.drop (k + 1)) (k + 1)) := by
          show _ = _
          rw [HI.out, HP.out, if_neg (of_decide_eq_false HE.out.symm)]
        clear HI HP HE HL
        go_wp2_with fail
        refine (HS.out _).mono ?_
        rintro _ w1 ⟨rfl, hb⟩
        have hb1 := chain hbe hb
        clear hb hbe
        go_wp2
        go_roundg (gk - 1)
        case measure => omega
        case rel => exact ⟨k + 1, by go_num, by omega, by omega, HF.out, hb1⟩
      · have HF : Hid (monthL s.data.toList = k + 1) := by
          show _ = _
          rw [hk0.out, HI.out, HP.out, if_pos (of_decide_eq_true HE.out.symm)]
        have HR : Hid (rdMonth c s.data.toList = some { c with m := (k : Int) + 1 }) := by
          show _ = _
          unfold rdMonth
          rw [HF.out, if_pos (by omega)]
          simp
        clear HI HP HE HL HF
        go_wp2_with fail
        refine (HS.out _).mono ?_
        rintro _ w1 ⟨rfl, hb⟩
        have hb1 := chain hbe hb
        have hc1 := HC.out.keep hb1
        have HC1 := Lib.hid hc1
        have c2 := hc1.1.2.1
        have f2 := hc1.2 1 (by decide)
        clear hc1 hb hbe
        go_wp2
        go_ret
        rw [HR.out]
        exact ⟨rfl, (Save.of_below hb1).trans (Save.set _ _ _ _), HC1.out.setM _⟩
    · have HR : Hid (rdMonth c s.data.toList = none) := by
        show _ = _
        have e : k = 12 := by omega
        subst e
        unfold rdMonth
        rw [hk0.out, HI.out, if_neg (by simp [monthsL, placeOf])]
      clear HI
      go_wp2
      go_ret
      rw [HR.out]
      exact ⟨rfl, hbe⟩

set_option maxRecDepth 100000 in
set_option maxHeartbeats 1600000 in
theorem pmonth_short (g : Nat) (s : ByteArray) (c : Clk) (w : World) (h3 : s.size < 3) (hT : MTabs w) :
    Calls Tryd.prog 24 #[.pointer (some ⟨g, 0, none⟩), .string s] w fun e w' => ReadPost g w (rdMonth c s.data.toList) e w' := by
  have HR : Hid (rdMonth c s.data.toList = none) := by
    show _ = _
    unfold rdMonth monthL
    rw [if_neg (show ¬ 3 ≤ s.data.toList.length by rw [list_len]; omega)]
    rfl
  have c0 := hT 0 (by decide)
  have c1 := hT 1 (by decide)
  have c2 := hT 2 (by decide)
  have c3 := hT 3 (by decide)
  have c4 := hT 4 (by decide)
  have c5 := hT 5 (by decide)
  have c6 := hT 6 (by decide)
  have c7 := hT 7 (by decide)
  have c8 := hT 8 (by decide)
  have c9 := hT 9 (by decide)
  have c10 := hT 10 (by decide)
  have c11 := hT 11 (by decide)
  have HX := Lib.hid mon_index
  clear hT
  go_enter Tryd.func24, Tryd.ntmps24
  go_wp2
  rw [mon_agg]
  clear c0 c1 c2 c3 c4 c5 c6 c7 c8 c9 c10 c11
  go_loopg [8] 13 (fun gk i wr => ∃ k : Nat, i = .int .i64 (k : Int) ∧ k + gk = 13 ∧ 1 ≤ gk ∧ wr = w)
  case atStart => exact ⟨0, rfl, by omega, by omega, rfl⟩
  case round =>
    obtain ⟨k, rfl, hk, hg1, rfl⟩ := hrel
    by_cases hlt : k < 12
    · have hx := HX.out k hlt
      obtain ⟨nm, hnm⟩ : ∃ nm, nm = monHB k := ⟨_, rfl⟩
      have hnz : nm.size = 3 := by rw [hnm]; exact monHB_size k hlt
      rw [← hnm] at hx
      clear hnm
      go_wp2
      go_roundg (gk - 1)
      case measure => omega
      case rel => exact ⟨k + 1, by go_num, by omega, by omega, rfl⟩
    · go_wp2
      go_ret
      rw [HR.out]
      exact ⟨rfl, Below.refl _ _⟩

theorem pmonth_any (g : Nat) (s : ByteArray) (c : Clk) (w : World) (hs : s.size ≤ 1000000000) (hc : ClkW w g c) (hT : MTabs w) :
    Calls Tryd.prog 24 #[.pointer (some ⟨g, 0, none⟩), .string s] w fun e w' => ReadPost g w (rdMonth c s.data.toList) e w' := by
  by_cases h3 : 3 ≤ s.size
  · exact pmonth_long g s c w hs h3 hc hT
  · exact pmonth_short g s c w (by omega) hT
end Go.Proofs.YtmmkokomffclmaaDoor
namespace Go.Proofs.YtmmkokomffclmaaDoor
open Go.RowKit
set_option linter.unusedVariables false

/-- k numbers to come; a colon ahead of each but the first. -/
def timeK : Nat → List Nat → List UInt8 → Option (List Nat)
  | 0, had, _ => some had
  | k + 1, had, l => match (if had = [] then some l else colon l) with
    | none => none
    | some t => match two12 t with
      | none => none
      | some (a, r) => timeK k (had ++ [a]) r

theorem timeK_none (k : Nat) (had : List Nat) (l : List UInt8) (h : (if had = [] then some l else colon l) = none) : timeK (k + 1) had l = none := by rw [timeK, h]
theorem timeK_bad (k : Nat) (had : List Nat) (l t : List UInt8) (h : (if had = [] then some l else colon l) = some t) (h2 : two12 t = none) : timeK (k + 1) had l = none := by rw [timeK, h]; show (match two12 t with | none => none | some (a, r) => timeK k (had ++ [a]) r) = none; rw [h2]
theorem timeK_good (k : Nat) (had : List Nat) (l t r : List UInt8) (a : Nat) (h : (if had = [] then some l else colon l) = some t) (h2 : two12 t = some (a, r)) : timeK (k + 1) had l = timeK k (had ++ [a]) r := by rw [timeK, h]; show (match two12 t with | none => none | some (a, r) => timeK k (had ++ [a]) r) = _; rw [h2]

theorem timeK_timeL (l : List UInt8) : timeK 3 [] l = (timeL l).map fun p => [p.1, p.2.1, p.2.2] := by
  unfold timeL
  cases h1 : two12 l with
  | none => rw [timeK_bad 2 [] l l (if_pos rfl) h1]; rfl
  | some p =>
    obtain ⟨a, l1⟩ := p
    rw [timeK_good 2 [] l l l1 a (if_pos rfl) h1]
    cases h2 : colon l1 with
    | none => rw [List.nil_append, timeK_none 1 [a] l1 (by simpa using h2)]; simp [h2]
    | some l2 =>
      cases h3 : two12 l2 with
      | none => rw [List.nil_append, timeK_bad 1 [a] l1 l2 (by simpa using h2) h3]; simp [h2, h3]
      | some p =>
        obtain ⟨b, l3⟩ := p
        rw [List.nil_append, timeK_good 1 [a] l1 l2 l3 b (by simpa using h2) h3]
        cases h4 : colon l3 with
        | none => rw [List.cons_append, List.nil_append, timeK_none 0 [a, b] l3 (by simpa using h4)]; simp [h2, h3, h4]
        | some l4 =>
          cases h5 : two12 l4 with
          | none => rw [List.cons_append, List.nil_append, timeK_bad 0 [a, b] l3 l4 (by simpa using h4) h5]; simp [h2, h3, h4, h5]
          | some p =>
            obtain ⟨c, l5⟩ := p
            rw [List.cons_append, List.nil_append, timeK_good 0 [a, b] l3 l4 l5 c (by simpa using h4) h5]
            simp [h2, h3, h4, h5, timeK]

theorem colon_pref (b : ByteArray) : (prefB b ⟨#[58]⟩ = true → colon b.data.toList = some (b.extract 1 b.size).data.toList) ∧ (prefB b ⟨#[58]⟩ = false → colon b.data.toList = none) := by
  have e1 : (ByteArray.mk #[58]).size = 1 := rfl
  have e2 : (ByteArray.mk #[58]).toList = [58] := by rw [ByteArray.toList_eq]
  unfold prefB
  rw [e1, e2, ByteArray.toList_eq, pref_list]
  have hl := list_len b
  by_cases h : 0 < b.size
  · have e := drop_cons b 0 h
    rw [List.drop_zero] at e
    have e3 : b.data.toList.take 1 = [b[0]] := by rw [e]; rfl
    rw [e3]
    by_cases hc : b[0] = 58
    · rw [hc]
      exact ⟨fun _ => colon_yes b h hc, fun h' => by rw [decide_eq_true (show 1 ≤ b.size from h)] at h'; simp at h'⟩
    · refine ⟨fun h' => ?_, fun _ => colon_not b h hc⟩
      simp at h'
      exact absurd h'.2 hc
  · have e : b.data.toList = [] := List.length_eq_zero_iff.1 (by rw [hl]; omega)
    refine ⟨fun h' => ?_, fun _ => by rw [e]; rfl⟩
    rw [decide_eq_false (show ¬ 1 ≤ b.size from h)] at h'
    simp at h'

/-- The numbers had so far, in the array. -/
def PartsAt (w : World) (n : Nat) (had : List Nat) : Prop := ∀ j, j < 3 → w.cell? ⟨n, j, none⟩ = some (.int .i64 (had.getD j 0 : Nat)) ∧ w.frozen? ⟨n, j, none⟩ = false

theorem PartsAt.new (w : World) (t : TypeId) : PartsAt (w.alloc (.cells #[.int .i64 0, .int .i64 0, .int .i64 0] t)) w.heap.size [] := by
  intro j hj
  rcases (show j = 0 ∨ j = 1 ∨ j = 2 from by omega) with rfl | rfl | rfl <;> constructor <;> simp
theorem PartsAt.keep {w w' : World} {n : Nat} {had : List Nat} (h : PartsAt w n had) (hb : Below w.heap.size w w') : PartsAt w' n had := by
  intro j hj
  have hn : n < w.heap.size := World.block_lt_of_cell? w _ (h 0 (by decide)).1
  exact ⟨cell_keep (h j hj).1 hb, by rw [hb.frozen (p := ⟨n, j, none⟩) hn]; exact (h j hj).2⟩
theorem PartsAt.set {w : World} {n k : Nat} {had : List Nat} (h : PartsAt w n had) (hk : had.length = k) (h3 : k < 3) (v : Nat) : PartsAt (w.setCell ⟨n, k, none⟩ (.int .i64 (v : Int))) n (had ++ [v]) := by
  intro j hj
  refine ⟨?_, by rw [World.frozen?_setCell]; exact (h j hj).2⟩
  by_cases e : j = k
  · subst e
    rw [World.cell?_setCell_same w _ _ (h j hj).1]
    simp [List.getD_eq_getElem?_getD, ← hk]
  · rw [World.cell?_setCell_other w _ _ _ (fun h => by injection h with _ h2 _; omega), (h j hj).1]
    simp only [List.getD_eq_getElem?_getD]
    rcases Nat.lt_or_ge j k with h1 | h1
    · rw [List.getElem?_append_left (by omega)]
    · rw [List.getElem?_eq_none (by omega), List.getElem?_eq_none (by rw [List.length_append]; simp; omega)]

def TimSt (s : ByteArray) (w0 : World) (gk : Nat) (word i : Value) (wr : World) : Prop :=
  ∃ (b : ByteArray) (k : Nat) (had : List Nat), word = .string b ∧ i = .int .i64 (k : Int) ∧ k + gk = 4 ∧ 1 ≤ gk ∧ had.length = k ∧ b.size ≤ s.size ∧
    timeK (3 - k) had b.data.toList = timeK 3 [] s.data.toList ∧ PartsAt wr w0.heap.size had ∧ Below w0.heap.size w0 wr

theorem rdTime_none (c : Clk) (l : List UInt8) (h : timeK 3 [] l = none) : rdTime c l = none := by
  rw [timeK_timeL] at h
  unfold rdTime
  cases ht : timeL l with
  | none => rfl
  | some p => rw [ht] at h; cases h
theorem rdTime_some (c : Clk) (l : List UInt8) (had : List Nat) (h : timeK 3 [] l = some had) : rdTime c l = some { c with h := (had.getD 0 0 : Nat), i := (had.getD 1 0 : Nat), s := (had.getD 2 0 : Nat) } := by
  rw [timeK_timeL] at h
  unfold rdTime
  cases ht : timeL l with
  | none => rw [ht] at h; cases h
  | some p =>
    rw [ht] at h
    have e : [p.1, p.2.1, p.2.2] = had := by simpa using h
    subst e
    rfl

theorem cutc_yes (b : ByteArray) (w : World) (hs : b.size ≤ 1000000000) (h : prefB b ⟨#[58]⟩ = true) :
    Calls Tryd.prog 44 #[.string b, .string ⟨#[58]⟩] w fun e w' => e = .returned (.tuple #[.string (b.extract 1 b.size), .bool true]) ∧ w = w' :=
  cutp_yes b ⟨#[58]⟩ w (by unfold maxLen; omega) (by decide) h
theorem cutc_no (b : ByteArray) (w : World) (hs : b.size ≤ 1000000000) (h : prefB b ⟨#[58]⟩ = false) :
    Calls Tryd.prog 44 #[.string b, .string ⟨#[58]⟩] w fun e w' => e = .returned (.tuple #[.string b, .bool false]) ∧ w = w' :=
  cutp_no b ⟨#[58]⟩ w (by unfold maxLen; omega) (by decide) h

set_option maxRecDepth 100000 in
set_option maxHeartbeats 3200000 in
theorem ptime_any (g : Nat) (s : ByteArray) (c : Clk) (w : World) (hs : s.size ≤ 1000000000) (hc : ClkW w g c) :
    Calls Tryd.prog 22 #[.pointer (some ⟨g, 0, none⟩), .string s] w fun e w' => ReadPost g w (rdTime c s.data.toList) e w' := by
  have HC := Lib.hid hc
  have hgw : g < w.heap.size := hc.lt
  have HP0 := Lib.hid (PartsAt.new w 65)
  have HB0 := Lib.hid ((Below.refl w.heap.size w).alloc (Nat.le_refl _) (.cells #[.int .i64 0, .int .i64 0, .int .i64 0] 65))
  clear hc
  go_enter Tryd.func22, Tryd.ntmps22
  go_wp2
  go_loopg [1, 12] 4 (fun gk word i wr => TimSt s w gk word i wr)
  case atStart => exact ⟨s, 0, [], rfl, rfl, by omega, by omega, rfl, Nat.le_refl _, rfl, HP0.out, HB0.out⟩
  case round =>
    clear HP0 HB0
    obtain ⟨b, k, had, rfl, rfl, hk, hg1, hhk, hbs, hinv, hpa, hbe⟩ := hrel
    have HI := Lib.hid hinv
    have HPA := Lib.hid hpa
    clear hinv hpa
    by_cases hlt : k < 3
    · obtain ⟨j, hj⟩ : ∃ j, 3 - k = j + 1 := ⟨2 - k, by omega⟩
      have hj' : 3 - (k + 1) = j := by omega
      rw [hj] at HI
      by_cases hk0 : k = 0
      · have hnil : had = [] := List.length_eq_zero_iff.1 (by omega)
        subst hk0
        have HT : Hid ((if had = [] then some b.data.toList else colon b.data.toList) = some b.data.toList) := if_pos hnil
        clear hnil
        obtain ⟨n, hn⟩ : ∃ n, digN b.data.toList = n := ⟨_, rfl⟩
        by_cases hbad : n < 1 ∨ 2 < n
        · have HE : Hid (rdTime c s.data.toList = none) := rdTime_none c _ (by rw [← HI.out, timeK_bad _ _ _ _ HT.out (two12_none _ (by rw [hn]; exact hbad))])
          have HD : Hid (∀ W, Calls Tryd.prog 45 #[.string b, .int .i64 1, .int .i64 2] W fun e w' => e = .returned (.tuple #[.int .i64 0, .string ByteArray.empty, .bool false]) ∧ Below W.heap.size W w') := fun W =>
            pdigits_no b 1 2 n W (by omega) hn (by decide) (by decide) hbad
          clear hn hbad HI HT
          go_wp2_with fail
          refine (HD.out _).mono ?_
          rintro _ w1 ⟨rfl, hb⟩
          have hb1 := chain hbe hb
          go_wp2
          go_ret
          rw [HE.out]
          exact ⟨rfl, hb1⟩
        · obtain ⟨v, hv⟩ : ∃ v, valN (b.data.toList.take n) = v := ⟨_, rfl⟩
          have HE : Hid (timeK j (had ++ [v]) (b.extract n b.size).data.toList = timeK 3 [] s.data.toList) := by
            show _ = _
            rw [← HI.out, timeK_good _ _ _ _ (b.extract n b.size).data.toList v HT.out]
            rw [two12_some _ (by rw [hn]; exact hbad), hn, hv, rest_list]
          have HD : Hid (∀ W, Calls Tryd.prog 45 #[.string b, .int .i64 1, .int .i64 2] W fun e w' => e = .returned (.tuple #[.int .i64 (v : Int), .string (b.extract n b.size), .bool true]) ∧ Below W.heap.size W w') := fun W =>
            pdigits_yes b 1 2 n v W (by omega) hn (by decide) (by omega) (by omega) (by decide) hv
          have hrs : (b.extract n b.size).size ≤ s.size := by rw [ByteArray.size_extract]; omega
          obtain ⟨r, hr⟩ : ∃ r, r = b.extract n b.size := ⟨_, rfl⟩
          rw [← hr] at HE HD hrs
          clear hn hbad hv hr HI HT
          go_wp2_with fail
          refine (HD.out _).mono ?_
          rintro _ w1 ⟨rfl, hb⟩
          have hb1 := chain hbe hb
          have hpa1 := HPA.out.keep hb
          have HPA1 := Lib.hid hpa1
          obtain ⟨c0, f0⟩ := hpa1 0 hlt
          clear hb hbe hpa1
          go_wp2
          go_roundg (gk - 1)
          case measure => omega
          case rel => exact ⟨r, 0 + 1, had ++ [v], rfl, by go_num, by omega, by omega, by rw [List.length_append, hhk]; rfl, hrs, by rw [hj']; exact HE.out, HPA1.out.set hhk hlt v, hb1.setCell (p := ⟨w.heap.size, 0, none⟩) (Nat.le_refl _) _⟩
      · have hne : ¬ had = [] := fun e => by rw [e] at hhk; simp at hhk; omega
        have hk1 : (0 : Int) < (k : Int) := by omega
        cases hpf : prefB b ⟨#[58]⟩ with
        | false =>
          have HE : Hid (rdTime c s.data.toList = none) := rdTime_none c _ (by rw [← HI.out, timeK_none _ _ _ (by rw [if_neg hne]; exact (colon_pref b).2 hpf)])
          have HCU := Lib.hid (cutc_no b · (by omega) hpf)
          clear hpf HI hne
          go_wp2_with fail
          refine (HCU.out _).mono ?_
          rintro _ wz ⟨rfl, rfl⟩
          go_wp2
          go_ret
          rw [HE.out]
          exact ⟨rfl, hbe⟩
        | true =>
          have HT : Hid ((if had = [] then some b.data.toList else colon b.data.toList) = some (b.extract 1 b.size).data.toList) := by
            show _ = _
            rw [if_neg hne]
            exact (colon_pref b).1 hpf
          have HCU := Lib.hid (cutc_yes b · (by omega) hpf)
          have htz : (b.extract 1 b.size).size = b.size - 1 := by rw [ByteArray.size_extract]; omega
          clear hpf hne
          obtain ⟨t, ht⟩ : ∃ t, t = b.extract 1 b.size := ⟨_, rfl⟩
          rw [← ht] at HT HCU htz
          clear ht
          obtain ⟨n, hn⟩ : ∃ n, digN t.data.toList = n := ⟨_, rfl⟩
          by_cases hbad : n < 1 ∨ 2 < n
          · have HE : Hid (rdTime c s.data.toList = none) := rdTime_none c _ (by rw [← HI.out, timeK_bad _ _ _ _ HT.out (two12_none _ (by rw [hn]; exact hbad))])
            have HD : Hid (∀ W, Calls Tryd.prog 45 #[.string t, .int .i64 1, .int .i64 2] W fun e w' => e = .returned (.tuple #[.int .i64 0, .string ByteArray.empty, .bool false]) ∧ Below W.heap.size W w') := fun W =>
              pdigits_no t 1 2 n W (by omega) hn (by decide) (by decide) hbad
            clear hn hbad HI HT
            go_wp2_with fail
            refine (HCU.out _).mono ?_
            rintro _ wz ⟨rfl, rfl⟩
            go_wp2_with fail
            refine (HD.out _).mono ?_
            rintro _ w1 ⟨rfl, hb⟩
            have hb1 := chain hbe hb
            go_wp2
            go_ret
            rw [HE.out]
            exact ⟨rfl, hb1⟩
          · obtain ⟨v, hv⟩ : ∃ v, valN (t.data.toList.take n) = v := ⟨_, rfl⟩
            have HE : Hid (timeK j (had ++ [v]) (t.extract n t.size).data.toList = timeK 3 [] s.data.toList) := by
              show _ = _
              rw [← HI.out, timeK_good _ _ _ _ (t.extract n t.size).data.toList v HT.out]
              rw [two12_some _ (by rw [hn]; exact hbad), hn, hv, rest_list]
            have HD : Hid (∀ W, Calls Tryd.prog 45 #[.string t, .int .i64 1, .int .i64 2] W fun e w' => e = .returned (.tuple #[.int .i64 (v : Int), .string (t.extract n t.size), .bool true]) ∧ Below W.heap.size W w') := fun W =>
              pdigits_yes t 1 2 n v W (by omega) hn (by decide) (by omega) (by omega) (by decide) hv
            have hrs : (t.extract n t.size).size ≤ s.size := by rw [ByteArray.size_extract]; omega
            obtain ⟨r, hr⟩ : ∃ r, r = t.extract n t.size := ⟨_, rfl⟩
            rw [← hr] at HE HD hrs
            clear hn hbad hv hr HI HT
            go_wp2_with fail
            refine (HCU.out _).mono ?_
            rintro _ wz ⟨rfl, rfl⟩
            go_wp2_with fail
            refine (HD.out _).mono ?_
            rintro _ w1 ⟨rfl, hb⟩
            have hb1 := chain hbe hb
            have hpa1 := HPA.out.keep hb
            have HPA1 := Lib.hid hpa1
            obtain ⟨c0, f0⟩ := hpa1 k hlt
            clear hb hbe hpa1
            go_wp2
            go_roundg (gk - 1)
            case measure => omega
            case rel => exact ⟨r, k + 1, had ++ [v], rfl, by go_num, by omega, by omega, by rw [List.length_append, hhk]; rfl, hrs, by rw [hj']; exact HE.out, HPA1.out.set hhk hlt v, hb1.setCell (p := ⟨w.heap.size, k, none⟩) (Nat.le_refl _) _⟩
    · have ek : k = 3 := by omega
      subst ek
      have HE := Lib.hid (rdTime_some c s.data.toList had HI.out.symm)
      have hc1 := HC.out.keep hbe
      have HC1 := Lib.hid hc1
      have c3 := hc1.1.2.2.2.1
      have c4 := hc1.1.2.2.2.2.1
      have c5 := hc1.1.2.2.2.2.2
      have f3 := hc1.2 3 (by decide)
      have f4 := hc1.2 4 (by decide)
      have f5 := hc1.2 5 (by decide)
      have p0 := (HPA.out 0 (by decide)).1
      have p1 := (HPA.out 1 (by decide)).1
      have p2 := (HPA.out 2 (by decide)).1
      generalize (had.getD 0 0) = n0 at p0 HE
      generalize (had.getD 1 0) = n1 at p1 HE
      generalize (had.getD 2 0) = n2 at p2 HE
      clear hc1 HI HPA
      go_wp2_with fail
      go_region
      all_goals (try go_wp2)
      all_goals
        go_ret
        rw [HE.out]
        exact ⟨rfl, (((Save.of_below hbe).drew.trans (Save.set _ _ _ _)).trans (Save.set _ _ _ _)).trans (Save.set _ _ _ _), ((HC1.out.drew.setH _).setI _).setS _⟩
end Go.Proofs.YtmmkokomffclmaaDoor
namespace Go.Proofs.YtmmkokomffclmaaDoor
open Go.RowKit
set_option linter.unusedVariables false

/-! The four readers -/

def rdN : Nat → Nat
  | 0 => 22
  | 1 => 23
  | 2 => 24
  | _ => 25

def rdR (k : Nat) (c : Clk) (l : List UInt8) : Option Clk :=
  match k with
  | 0 => rdTime c l
  | 1 => rdDay c l
  | 2 => rdMonth c l
  | _ => rdYear c l

theorem four {k : Nat} (h : k < 4) : k = 0 ∨ k = 1 ∨ k = 2 ∨ k = 3 := by omega

theorem callN (k : Nat) (hk : k < 4) (args : Array Value) (w : World) : Sem.run Tryd.prog (callFunc (rdN k) args) w = .ok (.enter (rdN k) args) w := by
  rcases four hk with rfl | rfl | rfl | rfl <;> (unfold rdN; go_simp)

theorem prd_any (k : Nat) (hk : k < 4) (g : Nat) (s : ByteArray) (c : Clk) (w : World) (hs : s.size ≤ 1000000000) (hc : ClkW w g c) (hT : MTabs w) :
    Calls Tryd.prog (rdN k) #[.pointer (some ⟨g, 0, none⟩), .string s] w fun e w' => ReadPost g w (rdR k c s.data.toList) e w' := by
  rcases four hk with rfl | rfl | rfl | rfl
  · exact ptime_any g s c w hs hc
  · exact pday_any g s c w hs hc
  · exact pmonth_any g s c w hs hc hT
  · exact pyear_any g s c w hs hc

/-! What was found, as the program holds it -/

def flF (f : Fd) (k : Nat) : Bool :=
  match k with
  | 0 => f.time
  | 1 => f.day
  | 2 => f.month
  | _ => f.year
def clkF (f : Fd) : Clk := ⟨if f.year = true then yearOf f.Y else 0, f.M, f.D, f.h, f.i, f.s⟩
def oneF (b : Bool) : Int := if b = true then 0 else 1
def leftF (f : Fd) : Int := oneF f.time + oneF f.day + oneF f.month + oneF f.year

/-- None of the first k readers takes the word. -/
def Miss (f : Fd) (l : List UInt8) (k : Nat) : Prop := ∀ j, j < k → flF f j = true ∨ rdR j (clkF f) l = none

theorem rdTime_not (c : Clk) (l : List UInt8) : rdTime c l = none ↔ (timeL l).isSome = false := by
  unfold rdTime
  cases timeL l <;> simp
theorem rdDay_not (c : Clk) (l : List UInt8) : rdDay c l = none ↔ ¬ (1 ≤ digN l ∧ digN l ≤ 2) := by
  unfold rdDay
  split <;> simp_all
theorem rdMonth_not (c : Clk) (l : List UInt8) : rdMonth c l = none ↔ ¬ 0 < monthL l := by
  unfold rdMonth
  split <;> simp_all
theorem rdYear_not (c : Clk) (l : List UInt8) : rdYear c l = none ↔ ¬ (2 ≤ digN l ∧ digN l ≤ 4) := by
  unfold rdYear
  split <;> simp_all

theorem miss_time {f : Fd} {l : List UInt8} (h : f.time = true ∨ rdTime (clkF f) l = none) : ¬ (f.time = false ∧ (timeL l).isSome = true) := by
  rintro ⟨h1, h2⟩
  rcases h with h | h
  · rw [h] at h1; cases h1
  · rw [(rdTime_not _ _).1 h] at h2; cases h2
theorem miss_day {f : Fd} {l : List UInt8} (h : f.day = true ∨ rdDay (clkF f) l = none) : ¬ (f.day = false ∧ 1 ≤ digN l ∧ digN l ≤ 2) := by
  rintro ⟨h1, h2⟩
  rcases h with h | h
  · rw [h] at h1; cases h1
  · exact (rdDay_not _ _).1 h h2
theorem miss_month {f : Fd} {l : List UInt8} (h : f.month = true ∨ rdMonth (clkF f) l = none) : ¬ (f.month = false ∧ 0 < monthL l) := by
  rintro ⟨h1, h2⟩
  rcases h with h | h
  · rw [h] at h1; cases h1
  · exact (rdMonth_not _ _).1 h h2
theorem miss_year {f : Fd} {l : List UInt8} (h : f.year = true ∨ rdYear (clkF f) l = none) : ¬ (f.year = false ∧ 2 ≤ digN l ∧ digN l ≤ 4) := by
  rintro ⟨h1, h2⟩
  rcases h with h | h
  · rw [h] at h1; cases h1
  · exact (rdYear_not _ _).1 h h2

theorem next_miss (f : Fd) (l : List UInt8) (h : Miss f l 4) : nextF f l = f := by
  unfold nextF
  rw [if_neg (miss_time (h 0 (by decide))), if_neg (miss_day (h 1 (by decide))), if_neg (miss_month (h 2 (by decide))), if_neg (miss_year (h 3 (by decide)))]

/-- What a hit makes of what was found. -/
def IsHit (f f' : Fd) (k : Nat) (c' : Clk) : Prop := (∀ j, j < 4 → flF f' j = if j = k then true else flF f j) ∧ clkF f' = c' ∧ leftF f' = leftF f - 1

theorem next_hit (f : Fd) (l : List UInt8) (k : Nat) (c' : Clk) (hk : k < 4) (hm : Miss f l k) (hf : flF f k = false) (hr : rdR k (clkF f) l = some c') : IsHit f (nextF f l) k c' := by
  rcases four hk with rfl | rfl | rfl | rfl
  · have h1 : f.time = false := hf
    have h2 : rdTime (clkF f) l = some c' := hr
    have h3 : (timeL l).isSome = true := by
      cases h : (timeL l).isSome with
      | true => rfl
      | false => rw [(rdTime_not _ _).2 h] at h2; cases h2
    have e : nextF f l = { f with time := true, h := ((timeL l).getD (0, 0, 0)).1, i := ((timeL l).getD (0, 0, 0)).2.1, s := ((timeL l).getD (0, 0, 0)).2.2 } := by
      unfold nextF
      rw [if_pos ⟨h1, h3⟩]
    rw [e]
    refine ⟨fun j hj => ?_, ?_, ?_⟩
    · rcases four hj with rfl | rfl | rfl | rfl <;> rfl
    · unfold rdTime at h2
      cases ht : timeL l with
      | none => rw [ht] at h2; cases h2
      | some p => rw [ht] at h2; exact Option.some.inj h2
    · show oneF true + _ + _ + _ = leftF f - 1
      unfold leftF
      rw [h1]
      simp [oneF]
      omega
  · have h1 : f.day = false := hf
    have h2 : rdDay (clkF f) l = some c' := hr
    have h3 : 1 ≤ digN l ∧ digN l ≤ 2 := by
      by_cases h : 1 ≤ digN l ∧ digN l ≤ 2
      · exact h
      · rw [(rdDay_not _ _).2 h] at h2; cases h2
    have e : nextF f l = { f with day := true, D := valN (l.take (digN l)) } := by
      unfold nextF
      rw [if_neg (miss_time (hm 0 (by decide))), if_pos ⟨h1, h3⟩]
    rw [e]
    refine ⟨fun j hj => ?_, ?_, ?_⟩
    · rcases four hj with rfl | rfl | rfl | rfl <;> rfl
    · unfold rdDay at h2
      rw [if_pos h3] at h2
      exact Option.some.inj h2
    · show _ + oneF true + _ + _ = leftF f - 1
      unfold leftF
      rw [h1]
      simp [oneF]
      omega
  · have h1 : f.month = false := hf
    have h2 : rdMonth (clkF f) l = some c' := hr
    have h3 : 0 < monthL l := by
      by_cases h : 0 < monthL l
      · exact h
      · rw [(rdMonth_not _ _).2 h] at h2; cases h2
    have e : nextF f l = { f with month := true, M := monthL l } := by
      unfold nextF
      rw [if_neg (miss_time (hm 0 (by decide))), if_neg (miss_day (hm 1 (by decide))), if_pos ⟨h1, h3⟩]
    rw [e]
    refine ⟨fun j hj => ?_, ?_, ?_⟩
    · rcases four hj with rfl | rfl | rfl | rfl <;> rfl
    · unfold rdMonth at h2
      rw [if_pos h3] at h2
      exact Option.some.inj h2
    · show _ + _ + oneF true + _ = leftF f - 1
      unfold leftF
      rw [h1]
      simp [oneF]
      omega
  · have h1 : f.year = false := hf
    have h2 : rdYear (clkF f) l = some c' := hr
    have h3 : 2 ≤ digN l ∧ digN l ≤ 4 := by
      by_cases h : 2 ≤ digN l ∧ digN l ≤ 4
      · exact h
      · rw [(rdYear_not _ _).2 h] at h2; cases h2
    have e : nextF f l = { f with year := true, Y := valN (l.take (digN l)) } := by
      unfold nextF
      rw [if_neg (miss_time (hm 0 (by decide))), if_neg (miss_day (hm 1 (by decide))), if_neg (miss_month (hm 2 (by decide))), if_pos ⟨h1, h3⟩]
    rw [e]
    refine ⟨fun j hj => ?_, ?_, ?_⟩
    · rcases four hj with rfl | rfl | rfl | rfl <;> rfl
    · unfold rdYear at h2
      rw [if_pos h3] at h2
      exact Option.some.inj h2
    · show _ + _ + _ + oneF true = leftF f - 1
      unfold leftF
      rw [h1]
      simp [oneF]

/-! In memory -/

/-- The clock in block n, the readers, and which of them have read. -/
structure Hold (w : World) (n : Nat) (fl : Nat → Bool) (left : Int) (c : Clk) : Prop where
  clk : ClkW w n c
  row : ∀ k, k < 4 → w.cell? ⟨n + 1, k, none⟩ = some (.func (.func (rdN k)) #[] #[])
  rows : w.cell? ⟨n + 2, 0, none⟩ = some (.slice (some ⟨n + 1, 0, none⟩) 4 4)
  had : ∀ k, k < 4 → w.cell? ⟨n + 3, k, none⟩ = some (.bool (fl k)) ∧ w.frozen? ⟨n + 3, k, none⟩ = false
  hads : w.cell? ⟨n + 4, 0, none⟩ = some (.slice (some ⟨n + 3, 0, none⟩) 4 4)
  left : w.cell? ⟨n + 5, 0, none⟩ = some (.int .i64 left) ∧ w.frozen? ⟨n + 5, 0, none⟩ = false

theorem Hold.size {w : World} {n : Nat} {fl : Nat → Bool} {left : Int} {c : Clk} (h : Hold w n fl left c) : n + 6 ≤ w.heap.size := by
  have := World.block_lt_of_cell? w _ h.left.1
  simp at this
  omega
theorem Hold.keep {w w' : World} {n : Nat} {fl : Nat → Bool} {left : Int} {c : Clk} (h : Hold w n fl left c) (hb : Below w.heap.size w w') : Hold w' n fl left c := by
  have hz := h.size
  refine ⟨h.clk.keep hb, fun k hk => cell_keep (h.row k hk) hb, cell_keep h.rows hb, fun k hk => ⟨cell_keep (h.had k hk).1 hb, ?_⟩, cell_keep h.hads hb, cell_keep h.left.1 hb, ?_⟩
  · rw [hb.frozen (p := ⟨n + 3, k, none⟩) (by show n + 3 < _; omega)]; exact (h.had k hk).2
  · rw [hb.frozen (p := ⟨n + 5, 0, none⟩) (by show n + 5 < _; omega)]; exact h.left.2
theorem Hold.flags {w : World} {n : Nat} {fl fl' : Nat → Bool} {left : Int} {c : Clk} (h : Hold w n fl left c) (he : ∀ k, k < 4 → fl' k = fl k) : Hold w n fl' left c :=
  ⟨h.clk, h.row, h.rows, fun k hk => by rw [he k hk]; exact h.had k hk, h.hads, h.left⟩

/-- But for the clock, the row of bools and the count, all that was there is as it was. -/
structure Kept (n : Nat) (w w' : World) : Prop where
  os : w'.os = w.os
  tape : w'.tape = w.tape
  output : w'.output = w.output
  size : w.heap.size ≤ w'.heap.size
  block : ∀ k, k < w.heap.size → k ≠ n → k ≠ n + 3 → k ≠ n + 5 → w'.heap[k]? = w.heap[k]?

theorem Kept.refl (n : Nat) (w : World) : Kept n w w := ⟨rfl, rfl, rfl, Nat.le_refl _, fun _ _ _ _ _ => rfl⟩
theorem Kept.trans {n : Nat} {a b c : World} (h : Kept n a b) (k : Kept n b c) : Kept n a c :=
  ⟨k.os.trans h.os, k.tape.trans h.tape, k.output.trans h.output, Nat.le_trans h.size k.size, fun i hi h1 h2 h3 => (k.block i (Nat.lt_of_lt_of_le hi h.size) h1 h2 h3).trans (h.block i hi h1 h2 h3)⟩
theorem Kept.of_below {n : Nat} {w w' : World} (h : Below w.heap.size w w') : Kept n w w' := ⟨h.os, h.tape, h.output, h.size, fun k hk _ _ _ => h.block k hk⟩
theorem Kept.of_save {n : Nat} {w w' : World} (h : Save n w w') : Kept n w w' := ⟨h.os, h.tape, h.output, h.size, fun k hk h1 _ _ => h.block k hk h1⟩
theorem Kept.set (n b j : Nat) (w : World) (v : Value) (h : b = n + 3 ∨ b = n + 5) : Kept n w (w.setCell ⟨b, j, none⟩ v) := by
  have hs := Save.set b j w v
  exact ⟨hs.os, hs.tape, hs.output, hs.size, fun k hk h1 h2 h3 => hs.block k hk (by omega)⟩
theorem Kept.below {n B : Nat} {a w w' : World} (h : Kept n w w') (hb : Below B a w) (hg : B ≤ n) (hB : B ≤ w.heap.size) : Below B a w' :=
  hb.trans ⟨h.os, h.tape, h.output, h.size, fun k hk => h.block k (Nat.lt_of_lt_of_le hk hB) (by omega) (by omega) (by omega)⟩
theorem Kept.cell {n : Nat} {w w' : World} {p : Addr} {v : Value} (h : Kept n w w') (hc : w.cell? p = some v) (h1 : p.block ≠ n) (h2 : p.block ≠ n + 3) (h3 : p.block ≠ n + 5) : w'.cell? p = some v := by
  rw [World.cell?_of_block (w := w) (h.block p.block (World.block_lt_of_cell? w p hc) h1 h2 h3)]
  exact hc

theorem Hold.hit {w w1 : World} {n k : Nat} {fl : Nat → Bool} {left : Int} {c c' : Clk} (h : Hold w n fl left c) (hs : Save n w w1) (hc : ClkW w1 n c') (hk : k < 4) :
    Hold ((w1.setCell ⟨n + 3, k, none⟩ (.bool true)).setCell ⟨n + 5, 0, none⟩ (.int .i64 (left - 1))) n (fun j => if j = k then true else fl j) (left - 1) c' := by
  have hz := h.size
  have row1 : ∀ k, k < 4 → w1.cell? ⟨n + 1, k, none⟩ = some (.func (.func (rdN k)) #[] #[]) := fun k hk => hs.cell (h.row k hk) (by show n + 1 ≠ n; omega)
  have rows1 := hs.cell h.rows (by show n + 2 ≠ n; omega)
  have hads1 := hs.cell h.hads (by show n + 4 ≠ n; omega)
  have had1 : ∀ k, k < 4 → w1.cell? ⟨n + 3, k, none⟩ = some (.bool (fl k)) ∧ w1.frozen? ⟨n + 3, k, none⟩ = false := fun k hk =>
    ⟨hs.cell (h.had k hk).1 (by show n + 3 ≠ n; omega), by rw [hs.frozen (p := ⟨n + 3, k, none⟩) (by show n + 3 < _; omega) (by show n + 3 ≠ n; omega)]; exact (h.had k hk).2⟩
  have left1 := hs.cell h.left.1 (by show n + 5 ≠ n; omega)
  have left2 : w1.frozen? ⟨n + 5, 0, none⟩ = false := by rw [hs.frozen (p := ⟨n + 5, 0, none⟩) (by show n + 5 < _; omega) (by show n + 5 ≠ n; omega)]; exact h.left.2
  have ne : ∀ (W : World) (a b i j : Nat) (u v : Value), W.cell? ⟨a, i, none⟩ = some u → a ≠ b → (W.setCell ⟨b, j, none⟩ v).cell? ⟨a, i, none⟩ = some u := fun W a b i j u v hu hab => by
    rw [World.cell?_setCell_other W _ _ _ (fun e => by injection e with e1 _ _; exact hab (by first | exact e1 | exact e1.symm))]; exact hu
  refine ⟨?_, fun j hj => ne _ _ _ _ _ _ _ (ne _ _ _ _ _ _ _ (row1 j hj) (by omega)) (by omega), ne _ _ _ _ _ _ _ (ne _ _ _ _ _ _ _ rows1 (by omega)) (by omega), fun j hj => ⟨?_, ?_⟩, ne _ _ _ _ _ _ _ (ne _ _ _ _ _ _ _ hads1 (by omega)) (by omega), ?_, ?_⟩
  · exact (hc.save (Save.set (n + 3) k w1 _) (by omega)).save (Save.set (n + 5) 0 _ _) (by omega)
  · by_cases e : j = k
    · subst e
      rw [if_pos rfl]
      exact ne _ _ _ _ _ _ _ (World.cell?_setCell_same w1 _ _ (had1 j hj).1) (by omega)
    · rw [if_neg e]
      refine ne _ _ _ _ _ _ _ ?_ (by omega)
      rw [World.cell?_setCell_other w1 _ _ _ (fun h => by injection h with _ h2 _; omega)]
      exact (had1 j hj).1
  · rw [World.frozen?_setCell, World.frozen?_setCell]; exact (had1 j hj).2
  · exact World.cell?_setCell_same _ _ _ (ne _ _ _ _ _ _ _ left1 (by omega))
  · rw [World.frozen?_setCell, World.frozen?_setCell]; exact left2

abbrev HoldF (w : World) (n : Nat) (f : Fd) : Prop := Hold w n (flF f) (leftF f) (clkF f)

theorem leftF_range (f : Fd) : 0 ≤ leftF f ∧ leftF f ≤ 4 := by
  unfold leftF oneF
  split <;> split <;> split <;> split <;> omega

def TakeSt (f : Fd) (l : List UInt8) (w0 : World) (gk : Nat) (i : Value) (wr : World) : Prop :=
  ∃ k : Nat, i = .int .i64 (k : Int) ∧ k + gk = 5 ∧ 1 ≤ gk ∧ Miss f l k ∧ Below w0.heap.size w0 wr

theorem miss_more {f : Fd} {l : List UInt8} {k : Nat} (h : Miss f l k) (h2 : flF f k = true ∨ rdR k (clkF f) l = none) : Miss f l (k + 1) := fun j hj => by
  by_cases e : j = k
  · subst e; exact h2
  · exact h j (by omega)

set_option maxRecDepth 100000 in
set_option maxHeartbeats 3200000 in
theorem take_any (n : Nat) (s : ByteArray) (f : Fd) (w : World) (hs : s.size ≤ 1000000000) (hT : MTabs w) (hh : HoldF w n f) :
    Calls Tryd.prog 42 #[.pointer (some ⟨n, 0, none⟩), .string s, .pointer (some ⟨n + 2, 0, none⟩), .pointer (some ⟨n + 4, 0, none⟩), .pointer (some ⟨n + 5, 0, none⟩)] w
      fun e w' => e = .returned (.tuple #[]) ∧ HoldF w' n (nextF f s.data.toList) ∧ Kept n w w' := by
  have HH := Lib.hid hh
  have HTT := Lib.hid hT
  have c0 := hh.rows
  have hz := hh.size
  obtain ⟨lf, hlf⟩ : ∃ lf, lf = leftF f := ⟨_, rfl⟩
  have hlr := leftF_range f
  rw [← hlf] at hlr
  have HLF := Lib.hid hlf
  clear hh hT hlf
  go_enter Tryd.func42, Tryd.ntmps42
  go_wp2
  clear c0
  go_loopg [10] 5 (fun gk i wr => TakeSt f s.data.toList w gk i wr)
  case atStart => exact ⟨0, rfl, by omega, by omega, (fun j hj => by omega), Below.refl _ _⟩
  case round =>
    obtain ⟨k, rfl, hk, hg1, hmiss, hbe⟩ := hrel
    have HM := Lib.hid hmiss
    clear hmiss
    by_cases hlt : k < 4
    · have hh1 := HH.out.keep hbe
      have HH1 := Lib.hid hh1
      have HT1 := Lib.hid (HTT.out.keep hbe)
      have c1 := hh1.rows
      have c2 := hh1.hads
      have c3 := (hh1.had k hlt).1
      have c4 := hh1.row k hlt
      cases hfk : flF f k with
      | true =>
        rw [hfk] at c3
        have HM2 := Lib.hid (miss_more HM.out (.inl hfk))
        clear hh1 HM hfk
        go_wp2
        go_roundg (gk - 1)
        case measure => omega
        case rel => exact ⟨k + 1, by go_num, by omega, by omega, HM2.out, hbe⟩
      | false =>
        rw [hfk] at c3
        have HP := Lib.hid (prd_any k hlt n s (clkF f) wr hs hh1.clk HT1.out)
        have hN := callN k hlt
        generalize rdN k = N at c4 HP hN
        cases hr : rdR k (clkF f) s.data.toList with
        | none =>
          have HM2 := Lib.hid (miss_more HM.out (.inr hr))
          rw [hr] at HP
          clear hh1 HM hfk hr
          go_wp2_with fail
          refine HP.out.mono ?_
          rintro _ w1 ⟨rfl, hb⟩
          have hb1 := chain hbe hb
          clear hb hbe
          go_wp2
          go_roundg (gk - 1)
          case measure => omega
          case rel => exact ⟨k + 1, by go_num, by omega, by omega, HM2.out, hb1⟩
        | some c' =>
          have HNX := Lib.hid (next_hit f _ k c' hlt HM.out hfk hr)
          rw [hr] at HP
          clear hh1 HM hfk hr
          go_wp2_with fail
          refine HP.out.mono ?_
          rintro _ w1 ⟨rfl, hsv, hcw⟩
          have HSV := Lib.hid hsv
          have HCW := Lib.hid hcw
          have d2 := hsv.cell HH1.out.hads (by show n + 4 ≠ n; omega)
          have d3 := hsv.cell (HH1.out.had k hlt).1 (by show n + 3 ≠ n; omega)
          have hz1 := HH1.out.size
          have f3 : w1.frozen? ⟨n + 3, k, none⟩ = false := by rw [hsv.frozen (p := ⟨n + 3, k, none⟩) (by show n + 3 < _; omega) (by show n + 3 ≠ n; omega)]; exact (HH1.out.had k hlt).2
          have d5 := hsv.cell HH1.out.left.1 (by show n + 5 ≠ n; omega)
          have f5 : w1.frozen? ⟨n + 5, 0, none⟩ = false := by rw [hsv.frozen (p := ⟨n + 5, 0, none⟩) (by show n + 5 < _; omega) (by show n + 5 ≠ n; omega)]; exact HH1.out.left.2
          rw [← HLF.out] at d5
          clear hsv hcw c1 c2 c3 c4 HP hN
          go_wp2
          refine bodyPost_ret (results_none rfl _ _ _) rfl ?_
          obtain ⟨q1, q2, q3⟩ := HNX.out
          refine ⟨rfl, ?_, (((Kept.of_below hbe).trans (Kept.of_save HSV.out)).trans (Kept.set n _ _ _ _ (.inl rfl))).trans (Kept.set n _ _ _ _ (.inr rfl))⟩
          show Hold _ n _ (leftF _) (clkF _)
          rw [q2, q3, HLF.out]
          exact (HH1.out.hit HSV.out HCW.out hlt).flags q1
    · have ek : k = 4 := by omega
      subst ek
      have HNX := Lib.hid (next_miss f _ HM.out)
      go_wp2
      go_end0
      refine ⟨rfl, ?_, Kept.of_below hbe⟩
      rw [HNX.out]
      exact HH.out.keep hbe

set_option maxRecDepth 100000 in
theorem all_any (n : Nat) (f : Fd) (w : World) (hh : HoldF w n f) :
    Calls Tryd.prog 43 #[.pointer (some ⟨n + 5, 0, none⟩)] w fun e w' => e = .returned (.bool (leftF f == 0)) ∧ w = w' := by
  have c0 := hh.left.1
  generalize leftF f = lf at c0
  clear hh
  go_enter Tryd.func43, Tryd.ntmps43
  go_wp2
  all_goals
    go_ret
    refine ⟨?_, rfl⟩
    first
    | rfl
    | simp_all

theorem Tryd.infoBool : (Tryd.prog.info? 4).map (fun i => (i.zero, i.size, i.bytes)) = some (some (.bool false), 1, 1) := by kernel_rfl

theorem make_bools (W : World) : Sem.run Tryd.prog (Instr.makeSlice 63 (.int .i64 4) (.int .i64 4)) W = .ok (.slice (some ⟨W.heap.size, 0, none⟩) 4 4) (W.alloc (.cells #[.bool false, .bool false, .bool false, .bool false] 4)) := by
  obtain ⟨i0, hi, hz0, hz1, hz2⟩ := info_parts Tryd.infoBool
  have h := run_make (P := Tryd.prog) W 63 4 i0 (.bool false) Tryd.underlying63 hi hz0 .i64 .i64 4 4 (by decide) (by decide) (by rw [hz2]; decide) (by decide)
  rw [hz1] at h
  have e : madeCells (Value.bool false).cells (Int.toNat 4 * 1) = #[.bool false, .bool false, .bool false, .bool false] := by
    apply Array.ext'
    show (madeCells #[Value.bool false] (4 * 1)).toList = _
    rw [toList_madeCells_one]
    rfl
  rw [e] at h
  exact h

/-- The world behind once. -/
abbrev onceW (w : World) (r : Nat) : World :=
  (((w.alloc (.cells #[.slice (some ⟨r, 0, none⟩) 4 4] 62)).alloc (.cells #[.bool false, .bool false, .bool false, .bool false] 4)).alloc (.cells #[.slice (some ⟨w.heap.size + 1, 0, none⟩) 4 4] 63)).alloc (.cells #[.int .i64 4] 3)

set_option maxRecDepth 100000 in
set_option maxHeartbeats 1600000 in
theorem once_any (r : Nat) (w : World) :
    Calls Tryd.prog 21 #[.slice (some ⟨r, 0, none⟩) 4 4] w fun e w' =>
      e = .returned (.tuple #[.func (.func 42) #[] #[.pointer (some ⟨w.heap.size, 0, none⟩), .pointer (some ⟨w.heap.size + 1 + 1, 0, none⟩), .pointer (some ⟨w.heap.size + 1 + 1 + 1, 0, none⟩)], .func (.func 43) #[] #[.pointer (some ⟨w.heap.size + 1 + 1 + 1, 0, none⟩)]]) ∧ w' = onceW w r := by
  have hmk := make_bools
  go_enter Tryd.func21, Tryd.ntmps21
  go_wp2
  go_ret2
  exact ⟨rfl, rfl⟩
end Go.Proofs.YtmmkokomffclmaaDoor
namespace Go.Proofs.YtmmkokomffclmaaDoor
open Go.RowKit Go.Shelf
attribute [local go_sem] Oper.semAt_some
set_option linter.unusedVariables false

/-- A word, as the range gives it. -/
abbrev Word := { x : ByteArray // x.size ≤ 1000000000 }
def wordV (x : Word) : Array Value := #[.string x.1]
def plainW (l : List Word) : List (List UInt8) := l.map fun x => x.1.data.toList
theorem plainW_snoc (l : List Word) (x : Word) : plainW (l ++ [x]) = plainW l ++ [x.1.data.toList] := by
  unfold plainW
  rw [List.map_append]
  rfl

theorem ext_empty (s : ByteArray) (k : Nat) : (s.extract k k).data.toList = [] := by
  rw [extract_list]; simp
theorem ext_small (s : ByteArray) (b k : Nat) : (s.extract b k).size ≤ s.size := by
  rw [ByteArray.size_extract]; omega
theorem ext_more (s : ByteArray) (b k : Nat) (hb : b ≤ k) (hk : k < s.size) : (s.extract b (k + 1)).data.toList = (s.extract b k).data.toList ++ [s[k]] := by
  rw [extract_list, extract_list, show k + 1 - b = (k - b) + 1 by omega, List.take_add_one]
  congr 1
  have h' : k < s.data.toList.length := by simpa using hk
  rw [List.getElem?_drop, show b + (k - b) = k by omega, List.getElem?_eq_getElem h', bget s k hk]
  rfl

/-- What the range holds. -/
def WordInv (s : ByteArray) (pre : List Word) (b k : Nat) : Prop :=
  b ≤ k ∧ k ≤ s.size ∧ pre.length ≤ b ∧ wordsL s.data.toList = plainW pre ++ wordsG (s.extract b k).data.toList (s.data.toList.drop k)

theorem wordInv_start (s : ByteArray) : WordInv s [] 0 0 := by
  refine ⟨Nat.le_refl _, Nat.zero_le _, Nat.le_refl _, ?_⟩
  rw [ext_empty]
  rfl
theorem wordInv_else (s : ByteArray) (pre : List Word) (b k : Nat) (hk : k < s.size) (hc : partC s[k] = false) (h : WordInv s pre b k) : WordInv s pre b (k + 1) := by
  obtain ⟨h1, h2, h3, h4⟩ := h
  refine ⟨by omega, by omega, h3, ?_⟩
  rw [h4, drop_cons s k hk, wordsG_keep _ _ _ hc, ext_more s b k h1 hk]
theorem wordInv_part (s : ByteArray) (pre : List Word) (b k : Nat) (hk : k < s.size) (hc : partC s[k] = true) (h : WordInv s pre b k) (hb : b < k) (hz : (s.extract b k).size ≤ 1000000000) :
    WordInv s (pre ++ [⟨s.extract b k, hz⟩]) (k + 1) (k + 1) := by
  obtain ⟨h1, h2, h3, h4⟩ := h
  refine ⟨Nat.le_refl _, by omega, by rw [List.length_append]; simp; omega, ?_⟩
  have hne : (s.extract b k).data.toList ≠ [] := by
    intro e
    have := congrArg List.length e
    rw [list_len, ByteArray.size_extract] at this
    simp at this
    omega
  rw [h4, drop_cons s k hk, wordsG_part _ _ _ hc, plainW_snoc, ext_empty, List.append_assoc]
  congr 2
  show flushW _ = _
  unfold flushW
  rw [if_neg hne]
theorem wordInv_none (s : ByteArray) (pre : List Word) (b k : Nat) (hk : k < s.size) (hc : partC s[k] = true) (h : WordInv s pre b k) (hb : ¬ b < k) : WordInv s pre (k + 1) (k + 1) := by
  obtain ⟨h1, h2, h3, h4⟩ := h
  refine ⟨Nat.le_refl _, by omega, by omega, ?_⟩
  have e : b = k := by omega
  subst e
  rw [h4, drop_cons s b hk, ext_empty, wordsG_part _ _ _ hc, ext_empty]
  rfl
theorem wordInv_last (s : ByteArray) (pre : List Word) (b k : Nat) (hk : ¬ k < s.size) (h : WordInv s pre b k) (hb : b < s.size) (hz : (s.extract b s.size).size ≤ 1000000000) :
    plainW (pre ++ [⟨s.extract b s.size, hz⟩]) = wordsL s.data.toList := by
  obtain ⟨h1, h2, h3, h4⟩ := h
  have e : k = s.size := by omega
  subst e
  have hne : (s.extract b s.size).data.toList ≠ [] := by
    intro e
    have := congrArg List.length e
    rw [list_len, ByteArray.size_extract] at this
    simp at this
    omega
  rw [h4, plainW_snoc, List.drop_eq_nil_of_le (by rw [list_len]; exact Nat.le_refl _)]
  congr 1
  show _ = flushW _
  unfold flushW
  rw [if_neg hne]
theorem wordInv_end (s : ByteArray) (pre : List Word) (b k : Nat) (hk : ¬ k < s.size) (h : WordInv s pre b k) (hb : ¬ b < s.size) : plainW pre = wordsL s.data.toList := by
  obtain ⟨h1, h2, h3, h4⟩ := h
  have e : b = k := by omega
  subst e
  rw [h4, List.drop_eq_nil_of_le (by rw [list_len]; omega), ext_empty]
  simp [wordsG, flushW]

/-- What a round keeps: the box of the range. -/
def KeepOne (bs : Nat) (A B : World) : Prop := B.cell? ⟨bs, 0, none⟩ = A.cell? ⟨bs, 0, none⟩

set_option maxRecDepth 100000 in
set_option maxHeartbeats 1600000 in
theorem words1_in (n l bs : Nat) (s : ByteArray) (hs : s.size ≤ 1000000000) (J Jx : List Word → World → Prop) (hn : 1 ≤ n)
    (hY : ∀ pre x W1, J pre W1 → pre.length < s.size + 1 → YieldAt Fence.wide (n - 1) Tryd.prog l (wordV x) W1 fun e W' => (e = .returned (.bool true) ∧ J (pre ++ [x]) W' ∧ KeepOne bs W1 W') ∨ (e = .returned (.bool false) ∧ Jx (pre ++ [x]) W'))
    (W : World) (hbs : W.cell? ⟨bs, 0, none⟩ = some (.string s)) (h0 : J [] W) :
    CallsIn Fence.wide n Tryd.prog 47 #[.func (.yield l) #[] #[], .pointer (some ⟨bs, 0, none⟩)] W fun e W' => (∃ v, e = .returned v) ∧ ((∃ ys, plainW ys = wordsL s.data.toList ∧ J ys W') ∨ (∃ pre, True ∧ Jx pre W')) := by
  have hro : Fence.wide.round = none := rfl
  refine callsIn_of_wp Tryd.func47 rfl trivial ?_ hro
  simp only [Tryd.ntmps47, List.size_toArray, List.length_cons, List.length_nil, Nat.reduceAdd, Nat.reduceSub, Array.replicate_succ, Array.replicate_zero, List.push_toArray, List.append_toArray, List.nil_append, List.cons_append]
  gi_wp2
  gi_loopw [3, 7] (fun b k wr => ∃ (pre : List Word) (bn kn : Nat), b = .int .i64 (bn : Int) ∧ k = .int .i64 (kn : Int) ∧ WordInv s pre bn kn ∧ wr.cell? ⟨bs, 0, none⟩ = some (.string s) ∧ J pre wr)
    (fun _ k _ => s.size - (intOf k).toNat)
  case atStart => exact ⟨[], 0, 0, rfl, rfl, wordInv_start s, hbs, h0⟩
  case round =>
    obtain ⟨pre, b, k, rfl, rfl, hinv, hc1, hJs⟩ := hrel
    have HI := Lib.hid hinv
    obtain ⟨q1, q2, q3, _⟩ := hinv
    by_cases hlt : k < s.size
    · obtain ⟨pc, hpc⟩ : ∃ pc, partC s[k] = pc := ⟨_, rfl⟩
      have HP := Lib.hid (parting_any s[k])
      rw [hpc] at HP
      cases pc with
      | false =>
        have HN := Lib.hid (wordInv_else s pre b k hlt hpc HI.out)
        clear HI hpc
        gi_wp2_with fail
        refine ⟨trivial, ?_⟩
        refine (callsIn_wide.2 (HP.out _)).mono ?_
        rintro _ wz ⟨rfl, rfl⟩
        gi_wp2
        go_roundw
        case rel => exact ⟨pre, b, k + 1, rfl, by go_num, HN.out, hc1, hJs⟩
        case measure => simp [intOf]; omega
      | true =>
        by_cases hb : b < k
        · have hz : (s.extract b k).size ≤ 1000000000 := Nat.le_trans (ext_small s b k) hs
          have HN := Lib.hid (wordInv_part s pre b k hlt hpc HI.out hb hz)
          have z1 : (b : Int) ≤ (k : Int) := by omega
          have z2 : (k : Int) ≤ (s.size : Int) := by omega
          obtain ⟨fn, tmps, assign, body, hy, hR⟩ := hY pre ⟨s.extract b k, hz⟩ wr hJs (by omega)
          dsimp only [wordV] at hy
          clear HI hpc
          gi_wp2_with fail
          refine ⟨trivial, ?_⟩
          refine (callsIn_wide.2 (HP.out _)).mono ?_
          rintro _ wz ⟨rfl, rfl⟩
          gi_wp2
          refine hR.mono ?_
          rintro e W3 (⟨rfl, hJ3, hk3⟩ | ⟨rfl, hJx3⟩)
          · have hc1' : W3.cell? ⟨bs, 0, none⟩ = some (.string s) := hk3.trans hc1
            gi_wp2
            go_roundw
            case rel => exact ⟨_, k + 1, k + 1, by go_num, by go_num, HN.out, hc1', hJ3⟩
            case measure => simp [intOf]; omega
          · gi_wp2
            refine bodyPost_ret (results_none rfl _ _ _) rfl ?_
            exact ⟨⟨_, rfl⟩, .inr ⟨_, trivial, hJx3⟩⟩
        · have HN := Lib.hid (wordInv_none s pre b k hlt hpc HI.out hb)
          obtain rfl : b = k := by omega
          clear HI hpc hb
          gi_wp2_with fail
          refine ⟨trivial, ?_⟩
          refine (callsIn_wide.2 (HP.out _)).mono ?_
          rintro _ wz ⟨rfl, rfl⟩
          gi_wp2
          refine ⟨(fun f h => by cases h), ?_⟩
          gi_wp2
          go_roundw
          case rel => exact ⟨pre, b + 1, b + 1, by go_num, by go_num, HN.out, hc1, hJs⟩
          case measure => simp [intOf]; omega
    · by_cases hb : b < s.size
      · have hz : (s.extract b s.size).size ≤ 1000000000 := Nat.le_trans (ext_small s b _) hs
        have HN := Lib.hid (wordInv_last s pre b k hlt HI.out hb hz)
        have z1 : (b : Int) ≤ (s.size : Int) := by omega
        obtain ⟨fn, tmps, assign, body, hy, hR⟩ := hY pre ⟨s.extract b s.size, hz⟩ wr hJs (by omega)
        dsimp only [wordV] at hy
        clear HI
        gi_wp2
        refine hR.mono ?_
        rintro e W3 (⟨rfl, hJ3, hk3⟩ | ⟨rfl, hJx3⟩)
        · gi_wp2
          go_end0
          exact ⟨⟨_, rfl⟩, .inl ⟨_, HN.out, hJ3⟩⟩
        · gi_wp2
          go_end0
          exact ⟨⟨_, rfl⟩, .inr ⟨_, trivial, hJx3⟩⟩
      · have HN := Lib.hid (wordInv_end s pre b k hlt HI.out hb)
        clear HI
        gi_wp2
        go_end0
        exact ⟨⟨_, rfl⟩, .inl ⟨_, HN.out, hJs⟩⟩

set_option maxRecDepth 100000 in
theorem words_any (s : ByteArray) (w : World) :
    Calls Tryd.prog 26 #[.string s] w fun e w' => e = .returned (.func (.func 47) #[] #[.pointer (some ⟨w.heap.size, 0, none⟩)]) ∧ w' = w.alloc (.cells #[.string s] 9) := by
  go_enter Tryd.func26, Tryd.ntmps26
  go_wp2
  go_ret
  exact ⟨rfl, rfl⟩

/-- What the range gives, to a loop that keeps its box. -/
theorem words_stops (n : Nat) (hn : 1 ≤ n) (bs : Nat) (s : ByteArray) (w : World) (hs : s.size ≤ 1000000000) (h1 : bs < w.heap.size) (hbs : w.cell? ⟨bs, 0, none⟩ = some (.string s)) :
    SeqStopsK Fence.wide n Tryd.prog 47 #[.pointer (some ⟨bs, 0, none⟩)] wordV (KeepOne bs) (fun ys => plainW ys = wordsL s.data.toList) (fun _ => True) (s.size + 1) w := fun l J Jx W hW hJ _ hY h0 =>
  words1_in n l bs s hs J Jx hn hY W ((hW.cell (p := ⟨bs, 0, none⟩) h1).trans hbs) h0

theorem keepOne_t {bs : Nat} {A B C : World} (h : KeepOne bs A B) (k : KeepOne bs B C) : KeepOne bs A C := k.trans h
theorem keepOne_block {bs : Nat} {A B : World} (h1 : B.heap[bs]? = A.heap[bs]?) : KeepOne bs A B := by
  unfold KeepOne World.cell?
  rw [show B.heap[(⟨bs, 0, none⟩ : Addr).block]? = A.heap[bs]? from h1]
theorem keepOne_b {bs : Nat} {w : World} (h1 : bs < w.heap.size) (W : World) (l : Nat) (o o' : Obj) (hl : w.heap.size ≤ l) (_ : W.heap[l]? = some o) (_ : o.isCells = false) (_ : o.isWalk = false) : KeepOne bs W (W.putObj l o') :=
  keepOne_block (World.putObj_heap_other (by omega))
end Go.Proofs.YtmmkokomffclmaaDoor
