/-
  The document's own reader of json: the state's box, behind an item more.
-/
import Derived.Test.YtmnigdcgdebgoaaDoorJsonRefC
namespace Go.Proofs.YtmnigdcgdebgoaaDoor
open Go.RowKit
set_option linter.unusedVariables false

/-- The state's box holds the row with an item more. -/
def RowPut (W2 : World) (B : Nat) (s : ByteArray) (j : Nat) (E : Nat) (l : List It) (w' : World) : Prop :=
  ∃ ao m c, BoxS w' B (.string s) (.int .i64 (j : Int)) (.slice ao m c) (.int .i64 (E : Int)) ∧ ItsFar W2.heap.size w' (.slice ao m c) l ∧ w'.os = W2.os ∧ w'.tape = W2.tape ∧ w'.output = W2.output ∧ W2.heap.size ≤ w'.heap.size ∧ ∀ i, i < W2.heap.size → i ≠ B → w'.heap[i]? = W2.heap[i]?

theorem RowPut.mk {W2 w6 : World} {B : Nat} {s : ByteArray} {j E : Nat} {l : List It} {v0 : Value} {ao : Option Addr} {m c : Nat} (hS : BoxS W2 B (.string s) (.int .i64 (j : Int)) v0 (.int .i64 (E : Int))) (hb : Below W2.heap.size W2 w6) (hI : ItsFar W2.heap.size w6 (.slice ao m c) l) : RowPut W2 B s j E l (w6.setCell ⟨B, 2, none⟩ (.slice ao m c)) :=
  ⟨ao, m, c, ((hS.keep hb).set _).2.2.1, hI.set _ _ hS.lt, hb.os, hb.tape, hb.output, by simp; exact hb.size, fun i hi hne => (Below.heap_setCell _ _ _ _ hne).trans (hb.block i hi)⟩
theorem RowPut.box {W2 w' : World} {B : Nat} {s : ByteArray} {j E : Nat} {l : List It} (h : RowPut W2 B s j E l w') {D : Nat} {a b c d : Value} (hD : BoxS W2 D a b c d) (hne : D ≠ B) : BoxS w' D a b c d := by
  obtain ⟨_, _, _, _, _, _, _, _, _, hk⟩ := h
  exact ⟨(hk D hD.lt hne).trans hD.at_⟩
theorem RowPut.boxR {W2 w' : World} {B : Nat} {s : ByteArray} {j E : Nat} {l : List It} (h : RowPut W2 B s j E l w') {D : Nat} {a b c d e : Value} (hD : BoxR W2 D a b c d e) (hne : D ≠ B) : BoxR w' D a b c d e := by
  obtain ⟨_, _, _, _, _, _, _, _, _, hk⟩ := h
  exact ⟨(hk D hD.lt hne).trans hD.at_⟩
theorem RowPut.below {W2 w' w : World} {B : Nat} {s : ByteArray} {j E : Nat} {l : List It} (h : RowPut W2 B s j E l w') (hw : Below w.heap.size w W2) (hB : w.heap.size ≤ B) : Below w.heap.size w w' := by
  obtain ⟨_, _, _, _, _, h1, h2, h3, h4, hk⟩ := h
  have hz := hw.size
  exact ⟨h1.trans hw.os, h2.trans hw.tape, h3.trans hw.output, by omega, fun i hi => (hk i (by omega) (by omega)).trans (hw.block i hi)⟩
end Go.Proofs.YtmnigdcgdebgoaaDoor
