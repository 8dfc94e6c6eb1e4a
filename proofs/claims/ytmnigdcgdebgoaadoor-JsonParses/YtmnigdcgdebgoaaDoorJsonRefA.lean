/-
  The document's own reader of json: is, amiss, skip, quoted.
-/
import Derived.Test.YtmnigdcgdebgoaaDoorJsF
import Derived.Test.YtmnigdcgdebgoaaDoorQuoM
namespace Go.Proofs.YtmnigdcgdebgoaaDoor
open Go.RowKit
set_option linter.unusedVariables false

/-- A state of the document's reader. -/
def stV (s : ByteArray) (k : Nat) (v : Value) (E : Nat) : Value := .agg #[.string s, .int .i64 (k : Int), v, .int .i64 (E : Int)]

set_option maxRecDepth 100000 in
set_option maxHeartbeats 800000 in
theorem ris_any (s : ByteArray) (k : Nat) (v : Value) (E : Nat) (c : UInt8) (C : Int) (hC : C = (c.toNat : Int)) (b : Bool) (hb : standsL [c] (restB s k) = b) (w : World) (hs : s.size ≤ 1000000) :
    Calls Tryd.prog 61 #[stV s k v E, .int .u8 C] w fun e w' => e = .returned (.bool b) ∧ Below w.heap.size w w' := by
  have hba := (Below.refl w.heap.size w).alloc (Nat.le_refl _) (.cells #[.string s, .int .i64 (k : Int), v, .int .i64 (E : Int)] 76)
  have HBA := Lib.hid hba
  clear hba
  subst hC
  unfold stV
  by_cases hk : k < s.size
  · have hbb : b = decide (s[k].toNat = c.toNat) := by
      rw [← hb, restB_cons s k hk]
      exact one_stands c s[k]
    subst hbb
    by_cases hc : s[k].toNat = c.toNat
    · have z1 : ((s[k].toNat : Int) == (c.toNat : Int)) = true := by rw [beq_iff_eq]; omega
      have z2 : decide (s[k].toNat = c.toNat) = true := by simpa using hc
      rw [z2]
      clear hb hc z2
      go_enter Tryd.func61, Tryd.ntmps61
      go_wp2
      go_ret
      exact ⟨rfl, HBA.out⟩
    · have z1 : ((s[k].toNat : Int) == (c.toNat : Int)) = false := by rw [beq_eq_false_iff_ne]; omega
      have z2 : decide (s[k].toNat = c.toNat) = false := by simpa using hc
      rw [z2]
      clear hb hc z2
      go_enter Tryd.func61, Tryd.ntmps61
      go_wp2
      go_ret
      exact ⟨rfl, HBA.out⟩
  · have hbb : b = false := by
      rw [← hb, restB_nil s k hk]
      rfl
    subst hbb
    clear hb
    go_enter Tryd.func61, Tryd.ntmps61
    go_wp2
    go_ret
    exact ⟨rfl, HBA.out⟩

set_option maxRecDepth 100000 in
set_option maxHeartbeats 800000 in
theorem ramiss_any (s : ByteArray) (k : Nat) (ao : Option Addr) (n cap : Nat) (E e : Nat) (w : World) :
    Calls Tryd.prog 62 #[stV s k (.slice ao n cap) E, .int .i64 (e : Int)] w fun r w' => r = .returned (stV s k (.slice ao n cap) e) ∧ Below w.heap.size w w' := by
  unfold stV
  go_enter Tryd.func62, Tryd.ntmps62
  go_wp2
  exact bodyPost_ret (v := .agg #[.string s, .int .i64 (k : Int), .slice ao n cap, .int .i64 (e : Int)]) (by simp [results, Tryd.results62, go_sem]) rfl ⟨rfl, ((Below.refl _ _).alloc (Nat.le_refl _) _).alloc (by simp) _⟩

/-- A state in a block. -/
structure BoxS (w : World) (B : Nat) (a b c d : Value) : Prop where
  at_ : w.heap[B]? = some (.cells #[a, b, c, d] 76 (0, 0))
theorem BoxS.new (w : World) (a b c d : Value) : BoxS (w.alloc (.cells #[a, b, c, d] 76)) w.heap.size a b c d := ⟨heap_alloc_new w _⟩
theorem BoxS.lt {w : World} {B : Nat} {a b c d : Value} (h : BoxS w B a b c d) : B < w.heap.size := (Array.getElem?_eq_some_iff.1 h.at_).1
theorem BoxS.keep {w w' : World} {B : Nat} {a b c d : Value} (h : BoxS w B a b c d) (hb : Below w.heap.size w w') : BoxS w' B a b c d := ⟨(hb.block B h.lt).trans h.at_⟩
theorem BoxS.cells {w : World} {B : Nat} {a b c d : Value} (h : BoxS w B a b c d) : w.cell? ⟨B, 0, none⟩ = some a ∧ w.cell? ⟨B, 1, none⟩ = some b ∧ w.cell? ⟨B, 2, none⟩ = some c ∧ w.cell? ⟨B, 3, none⟩ = some d :=
  ⟨cell_of_row w B 0 _ _ _ h.at_, cell_of_row w B 1 _ _ _ h.at_, cell_of_row w B 2 _ _ _ h.at_, cell_of_row w B 3 _ _ _ h.at_⟩
theorem BoxS.frozen {w : World} {B : Nat} {a b c d : Value} (h : BoxS w B a b c d) (j : Nat) : w.frozen? ⟨B, j, none⟩ = false := frozen_none h.at_ j
theorem BoxS.other {w : World} {B : Nat} {a b c d : Value} (h : BoxS w B a b c d) (p : Addr) (u : Value) (hp : p.block ≠ B) : BoxS (w.setCell p u) B a b c d := ⟨(Below.heap_setCell _ _ _ _ (fun h => hp h.symm)).trans h.at_⟩
theorem BoxS.set {w : World} {B : Nat} {a b c d : Value} (h : BoxS w B a b c d) (u : Value) : BoxS (w.setCell ⟨B, 0, none⟩ u) B u b c d ∧ BoxS (w.setCell ⟨B, 1, none⟩ u) B a u c d ∧ BoxS (w.setCell ⟨B, 2, none⟩ u) B a b u d ∧ BoxS (w.setCell ⟨B, 3, none⟩ u) B a b c u := by
  have hh := h.at_
  refine ⟨⟨?_⟩, ⟨?_⟩, ⟨?_⟩, ⟨?_⟩⟩ <;> simp [World.setCell, Array.getElem?_modify, hh]

def RSkipAt (s : ByteArray) (v : Value) (E : Nat) (w : World) (r : List UInt8) (n : Nat) (wr : World) : Prop :=
  ∃ k, k ≤ s.size ∧ s.size - k = n ∧ skipL (restB s k) = r ∧ BoxS wr w.heap.size (.string s) (.int .i64 (k : Int)) v (.int .i64 (E : Int)) ∧ BoxS wr (w.heap.size + 1) (.string ByteArray.empty) (.int .i64 0) (.slice none 0 0) (.int .i64 0) ∧ Below w.heap.size w wr

theorem skip_c (c : UInt8) (t : List UInt8) : skipL (c :: t) = if c.toNat = 9 ∨ c.toNat = 10 ∨ c.toNat = 13 ∨ c.toNat = 32 then skipL t else c :: t := by
  show (if blankN c.toNat = true then skipL t else c :: t) = _
  unfold blankN
  by_cases h : c.toNat = 9 ∨ c.toNat = 10 ∨ c.toNat = 13 ∨ c.toNat = 32
  · rw [if_pos h, if_pos (by simp; omega)]
  · rw [if_neg h, if_neg (by simp; omega)]

set_option maxRecDepth 100000 in
set_option maxHeartbeats 1600000 in
theorem rskip_any (s : ByteArray) (k : Nat) (ao : Option Addr) (n cap : Nat) (E : Nat) (w : World) (hk : k ≤ s.size) (hs : s.size ≤ 1000000) :
    Calls Tryd.prog 43 #[stV s k (.slice ao n cap) E] w fun r w' => ∃ j, j ≤ s.size ∧ restB s j = skipL (restB s k) ∧ r = .returned (stV s j (.slice ao n cap) E) ∧ Below w.heap.size w w' := by
  obtain ⟨r, hr⟩ : ∃ r, skipL (restB s k) = r := ⟨_, rfl⟩
  rw [hr]
  have HST : Hid (RSkipAt s (.slice ao n cap) E w r (s.size - k) ((w.alloc (.cells #[.string s, .int .i64 (k : Int), .slice ao n cap, .int .i64 (E : Int)] 76)).alloc (.cells #[.string ByteArray.empty, .int .i64 0, .slice none 0 0, .int .i64 0] 76))) := by
    refine ⟨k, hk, rfl, hr, (BoxS.new w _ _ _ _).keep ((Below.refl _ _).alloc (Nat.le_refl _) _), ?_, ((Below.refl _ _).alloc (Nat.le_refl _) _).alloc (by simp) _⟩
    have e := BoxS.new (w.alloc (.cells #[.string s, .int .i64 (k : Int), .slice ao n cap, .int .i64 (E : Int)] 76)) (.string ByteArray.empty) (.int .i64 0) (.slice none 0 0) (.int .i64 0)
    rw [show (w.alloc (.cells #[.string s, .int .i64 (k : Int), .slice ao n cap, .int .i64 (E : Int)] 76)).heap.size = w.heap.size + 1 by simp] at e
    exact e
  clear hr
  unfold stV
  go_enter Tryd.func43, Tryd.ntmps43
  go_wp2
  go_loopg [] (s.size - k) (fun m wr => RSkipAt s (.slice ao n cap) E w r m wr)
  case atStart => exact HST.out
  case round =>
    obtain ⟨j, hj, hjn, hr, hb1, hb2, hbe⟩ := hrel
    obtain ⟨p0, p1, p2, p3⟩ := hb1.cells
    obtain ⟨q0, q1, q2, q3⟩ := hb2.cells
    have f1 := hb1.frozen 1
    have g0 := hb2.frozen 0
    have g1 := hb2.frozen 1
    have g2 := hb2.frozen 2
    have g3 := hb2.frozen 3
    have HR := Lib.hid hr
    have HB1 := Lib.hid hb1
    have HB2 := Lib.hid hb2
    have HBE := Lib.hid hbe
    clear hr hb1 hb2 hbe HST
    have more : ∀ i : Int, i = (j : Int) + 1 → j < s.size → skipL (restB s (j + 1)) = r → RSkipAt s (.slice ao n cap) E w r (gk - 1) (wr.setCell ⟨w.heap.size, 1, none⟩ (.int .i64 i)) := by
      intro i hi hlt hr2
      subst hi
      exact ⟨j + 1, by omega, by omega, hr2, (HB1.out.set _).2.1, HB2.out.other _ _ (by show w.heap.size ≠ w.heap.size + 1; omega), HBE.out.setCell (p := ⟨w.heap.size, 1, none⟩) (Nat.le_refl _) _⟩
    have HMO := Lib.hid more
    clear more
    by_cases hlt : j < s.size
    · have hcs := skip_c s[j] (restB s (j + 1))
      rw [← restB_cons s j hlt] at hcs
      by_cases hbk : s[j].toNat = 9 ∨ s[j].toNat = 10 ∨ s[j].toNat = 13 ∨ s[j].toNat = 32
      · rw [if_pos hbk, HR.out] at hcs
        have HR2 := Lib.hid hcs.symm
        clear hcs
        by_cases h9 : s[j].toNat = 9
        · have z9 : ((s[j].toNat : Int) == 9) = true := by rw [beq_iff_eq]; omega
          clear hbk h9
          go_wp2
          go_roundg (gk - 1)
          case measure => omega
          case rel => exact HMO.out _ rfl hlt HR2.out
        · have z9 : ((s[j].toNat : Int) == 9) = false := by rw [beq_eq_false_iff_ne]; omega
          by_cases h10 : s[j].toNat = 10
          · have z10 : ((s[j].toNat : Int) == 10) = true := by rw [beq_iff_eq]; omega
            clear hbk h9 h10
            go_wp2
            go_roundg (gk - 1)
            case measure => omega
            case rel => exact HMO.out _ rfl hlt HR2.out
          · have z10 : ((s[j].toNat : Int) == 10) = false := by rw [beq_eq_false_iff_ne]; omega
            by_cases h13 : s[j].toNat = 13
            · have z13 : ((s[j].toNat : Int) == 13) = true := by rw [beq_iff_eq]; omega
              clear hbk h9 h10 h13
              go_wp2
              go_roundg (gk - 1)
              case measure => omega
              case rel => exact HMO.out _ rfl hlt HR2.out
            · have z13 : ((s[j].toNat : Int) == 13) = false := by rw [beq_eq_false_iff_ne]; omega
              have z32 : ((s[j].toNat : Int) == 32) = true := by rw [beq_iff_eq]; omega
              clear hbk h9 h10 h13
              go_wp2
              go_roundg (gk - 1)
              case measure => omega
              case rel => exact HMO.out _ rfl hlt HR2.out
      · rw [if_neg hbk, HR.out] at hcs
        have HR2 : Hid (restB s j = r) := by show _ = _; rw [hcs, restB_cons s j hlt]
        have z9 : ((s[j].toNat : Int) == 9) = false := by rw [beq_eq_false_iff_ne]; omega
        have z10 : ((s[j].toNat : Int) == 10) = false := by rw [beq_eq_false_iff_ne]; omega
        have z13 : ((s[j].toNat : Int) == 13) = false := by rw [beq_eq_false_iff_ne]; omega
        have z32 : ((s[j].toNat : Int) == 32) = false := by rw [beq_eq_false_iff_ne]; omega
        clear hbk hcs HMO
        go_wp2
        refine bodyPost_ret (v := .agg #[.string s, .int .i64 (j : Int), .slice ao n cap, .int .i64 (E : Int)]) (by simp [results, Tryd.results43, go_sem, q0, q1, q2, q3]) rfl ⟨j, hj, HR2.out, rfl, ?_⟩
        exact (((HBE.out.setCell (p := ⟨w.heap.size + 1, 0, none⟩) (by show _ ≤ w.heap.size + 1; omega) _).setCell (p := ⟨w.heap.size + 1, 1, none⟩) (by show _ ≤ w.heap.size + 1; omega) _).setCell (p := ⟨w.heap.size + 1, 2, none⟩) (by show _ ≤ w.heap.size + 1; omega) _).setCell (p := ⟨w.heap.size + 1, 3, none⟩) (by show _ ≤ w.heap.size + 1; omega) _
    · have HR2 : Hid (restB s j = r) := by
        show _ = _
        rw [← HR.out, restB_nil s j hlt]
        rfl
      clear HMO
      go_wp2
      refine bodyPost_ret (v := .agg #[.string s, .int .i64 (j : Int), .slice ao n cap, .int .i64 (E : Int)]) (by simp [results, Tryd.results43, go_sem, q0, q1, q2, q3]) rfl ⟨j, hj, HR2.out, rfl, ?_⟩
      exact (((HBE.out.setCell (p := ⟨w.heap.size + 1, 0, none⟩) (by show _ ≤ w.heap.size + 1; omega) _).setCell (p := ⟨w.heap.size + 1, 1, none⟩) (by show _ ≤ w.heap.size + 1; omega) _).setCell (p := ⟨w.heap.size + 1, 2, none⟩) (by show _ ≤ w.heap.size + 1; omega) _).setCell (p := ⟨w.heap.size + 1, 3, none⟩) (by show _ ≤ w.heap.size + 1; omega) _
end Go.Proofs.YtmnigdcgdebgoaaDoor
