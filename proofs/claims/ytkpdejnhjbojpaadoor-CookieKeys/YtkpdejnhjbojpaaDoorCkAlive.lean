/-
  alive of cracknellaw13: a contract.
-/
import Derived.Test.YtkpdejnhjbojpaaDoorCkP
import Derived.Test.YtkpdejnhjbojpaaDoorCkEq
namespace Go.Proofs.YtkpdejnhjbojpaaDoor
open Go.RowKit
set_option linter.unusedVariables false

/-- The statements' own cookie. -/
abbrev oneC (d n : ByteArray) : Ck := ⟨d, ⟨#[47]⟩, n, ⟨#[118]⟩, 0, 0, 0, false, false, false, 0⟩

set_option maxRecDepth 100000 in
theorem pone_any (d n : ByteArray) (w : World) :
    Calls Tryd.prog 25 #[.string d, .string n] w fun e w' => e = .returned (ckV (oneC d n)) ∧ Below w.heap.size w w' := by
  have hb := (Below.refl w.heap.size w).alloc (Nat.le_refl _) (.cells (ckCells (oneC d n)) 23)
  have HB := Lib.hid hb
  clear hb
  go_enter Tryd.func25, Tryd.ntmps25
  go_wp2
  (try simp only [Exit.inBlock, Exit.then])
  refine bodyPost_ret (v := ckV (oneC d n)) (by rw [results_cellK rfl]; go_simp) rfl ?_
  exact ⟨rfl, HB.out⟩

/-- The five blocks of alive. -/
theorem av_world (w2 : World) :
    CkAt (((((w2.alloc (.cells #[.string ⟨#[97]⟩, .string ⟨#[47]⟩, .string ⟨#[120]⟩, .string ⟨#[118]⟩, .int .i64 0, .int .i64 0, .int .i64 0, .bool false, .bool false, .bool false, .int .i64 0] 23)).alloc (.cells #[.string ⟨#[98]⟩, .string ⟨#[47]⟩, .string ⟨#[120]⟩, .string ⟨#[118]⟩, .int .i64 0, .int .i64 0, .int .i64 0, .bool false, .bool false, .bool false, .int .i64 0] 23)).alloc (.cells #[.string ⟨#[97]⟩, .string ⟨#[47]⟩, .string ⟨#[120]⟩, .string ⟨#[118]⟩, .int .i64 0, .int .i64 1, .int .i64 0, .bool false, .bool false, .bool false, .int .i64 0] 23)).alloc (.cells #[.string ⟨#[97]⟩, .string ⟨#[47]⟩, .string ⟨#[120]⟩, .string ⟨#[118]⟩, .int .i64 0, .int .i64 0, .int .i64 0, .bool true, .bool false, .bool false, .int .i64 0] 23)).alloc (.cells #[.bool false, .string ⟨#[121, 46, 97]⟩, .string ⟨#[47, 122]⟩] 42)) (w2.heap.size) (oneC ⟨#[97]⟩ ⟨#[120]⟩) ∧ CkAt (((((w2.alloc (.cells #[.string ⟨#[97]⟩, .string ⟨#[47]⟩, .string ⟨#[120]⟩, .string ⟨#[118]⟩, .int .i64 0, .int .i64 0, .int .i64 0, .bool false, .bool false, .bool false, .int .i64 0] 23)).alloc (.cells #[.string ⟨#[98]⟩, .string ⟨#[47]⟩, .string ⟨#[120]⟩, .string ⟨#[118]⟩, .int .i64 0, .int .i64 0, .int .i64 0, .bool false, .bool false, .bool false, .int .i64 0] 23)).alloc (.cells #[.string ⟨#[97]⟩, .string ⟨#[47]⟩, .string ⟨#[120]⟩, .string ⟨#[118]⟩, .int .i64 0, .int .i64 1, .int .i64 0, .bool false, .bool false, .bool false, .int .i64 0] 23)).alloc (.cells #[.string ⟨#[97]⟩, .string ⟨#[47]⟩, .string ⟨#[120]⟩, .string ⟨#[118]⟩, .int .i64 0, .int .i64 0, .int .i64 0, .bool true, .bool false, .bool false, .int .i64 0] 23)).alloc (.cells #[.bool false, .string ⟨#[121, 46, 97]⟩, .string ⟨#[47, 122]⟩] 42)) (w2.heap.size + 1) (oneC ⟨#[98]⟩ ⟨#[120]⟩) ∧ CkAt (((((w2.alloc (.cells #[.string ⟨#[97]⟩, .string ⟨#[47]⟩, .string ⟨#[120]⟩, .string ⟨#[118]⟩, .int .i64 0, .int .i64 0, .int .i64 0, .bool false, .bool false, .bool false, .int .i64 0] 23)).alloc (.cells #[.string ⟨#[98]⟩, .string ⟨#[47]⟩, .string ⟨#[120]⟩, .string ⟨#[118]⟩, .int .i64 0, .int .i64 0, .int .i64 0, .bool false, .bool false, .bool false, .int .i64 0] 23)).alloc (.cells #[.string ⟨#[97]⟩, .string ⟨#[47]⟩, .string ⟨#[120]⟩, .string ⟨#[118]⟩, .int .i64 0, .int .i64 1, .int .i64 0, .bool false, .bool false, .bool false, .int .i64 0] 23)).alloc (.cells #[.string ⟨#[97]⟩, .string ⟨#[47]⟩, .string ⟨#[120]⟩, .string ⟨#[118]⟩, .int .i64 0, .int .i64 0, .int .i64 0, .bool true, .bool false, .bool false, .int .i64 0] 23)).alloc (.cells #[.bool false, .string ⟨#[121, 46, 97]⟩, .string ⟨#[47, 122]⟩] 42)) (w2.heap.size + 1 + 1) (⟨⟨#[97]⟩, ⟨#[47]⟩, ⟨#[120]⟩, ⟨#[118]⟩, 0, 1, 0, false, false, false, 0⟩) ∧ CkAt (((((w2.alloc (.cells #[.string ⟨#[97]⟩, .string ⟨#[47]⟩, .string ⟨#[120]⟩, .string ⟨#[118]⟩, .int .i64 0, .int .i64 0, .int .i64 0, .bool false, .bool false, .bool false, .int .i64 0] 23)).alloc (.cells #[.string ⟨#[98]⟩, .string ⟨#[47]⟩, .string ⟨#[120]⟩, .string ⟨#[118]⟩, .int .i64 0, .int .i64 0, .int .i64 0, .bool false, .bool false, .bool false, .int .i64 0] 23)).alloc (.cells #[.string ⟨#[97]⟩, .string ⟨#[47]⟩, .string ⟨#[120]⟩, .string ⟨#[118]⟩, .int .i64 0, .int .i64 1, .int .i64 0, .bool false, .bool false, .bool false, .int .i64 0] 23)).alloc (.cells #[.string ⟨#[97]⟩, .string ⟨#[47]⟩, .string ⟨#[120]⟩, .string ⟨#[118]⟩, .int .i64 0, .int .i64 0, .int .i64 0, .bool true, .bool false, .bool false, .int .i64 0] 23)).alloc (.cells #[.bool false, .string ⟨#[121, 46, 97]⟩, .string ⟨#[47, 122]⟩] 42)) (w2.heap.size + 1 + 1 + 1) (⟨⟨#[97]⟩, ⟨#[47]⟩, ⟨#[120]⟩, ⟨#[118]⟩, 0, 0, 0, true, false, false, 0⟩) ∧ UcAt (((((w2.alloc (.cells #[.string ⟨#[97]⟩, .string ⟨#[47]⟩, .string ⟨#[120]⟩, .string ⟨#[118]⟩, .int .i64 0, .int .i64 0, .int .i64 0, .bool false, .bool false, .bool false, .int .i64 0] 23)).alloc (.cells #[.string ⟨#[98]⟩, .string ⟨#[47]⟩, .string ⟨#[120]⟩, .string ⟨#[118]⟩, .int .i64 0, .int .i64 0, .int .i64 0, .bool false, .bool false, .bool false, .int .i64 0] 23)).alloc (.cells #[.string ⟨#[97]⟩, .string ⟨#[47]⟩, .string ⟨#[120]⟩, .string ⟨#[118]⟩, .int .i64 0, .int .i64 1, .int .i64 0, .bool false, .bool false, .bool false, .int .i64 0] 23)).alloc (.cells #[.string ⟨#[97]⟩, .string ⟨#[47]⟩, .string ⟨#[120]⟩, .string ⟨#[118]⟩, .int .i64 0, .int .i64 0, .int .i64 0, .bool true, .bool false, .bool false, .int .i64 0] 23)).alloc (.cells #[.bool false, .string ⟨#[121, 46, 97]⟩, .string ⟨#[47, 122]⟩] 42)) (w2.heap.size + 1 + 1 + 1 + 1) false ⟨#[121, 46, 97]⟩ ⟨#[47, 122]⟩ ∧ Below w2.heap.size w2 (((((w2.alloc (.cells #[.string ⟨#[97]⟩, .string ⟨#[47]⟩, .string ⟨#[120]⟩, .string ⟨#[118]⟩, .int .i64 0, .int .i64 0, .int .i64 0, .bool false, .bool false, .bool false, .int .i64 0] 23)).alloc (.cells #[.string ⟨#[98]⟩, .string ⟨#[47]⟩, .string ⟨#[120]⟩, .string ⟨#[118]⟩, .int .i64 0, .int .i64 0, .int .i64 0, .bool false, .bool false, .bool false, .int .i64 0] 23)).alloc (.cells #[.string ⟨#[97]⟩, .string ⟨#[47]⟩, .string ⟨#[120]⟩, .string ⟨#[118]⟩, .int .i64 0, .int .i64 1, .int .i64 0, .bool false, .bool false, .bool false, .int .i64 0] 23)).alloc (.cells #[.string ⟨#[97]⟩, .string ⟨#[47]⟩, .string ⟨#[120]⟩, .string ⟨#[118]⟩, .int .i64 0, .int .i64 0, .int .i64 0, .bool true, .bool false, .bool false, .int .i64 0] 23)).alloc (.cells #[.bool false, .string ⟨#[121, 46, 97]⟩, .string ⟨#[47, 122]⟩] 42)) := by
  have b1 : ∀ (W : World) (o : Obj), Below W.heap.size W (W.alloc o) := fun W o => (Below.refl _ _).alloc (Nat.le_refl _) o
  have e1 : ∀ (W : World) (o : Obj), (W.alloc o).heap.size = W.heap.size + 1 := fun W o => by simp
  refine ⟨((((CkAt.new w2 (oneC ⟨#[97]⟩ ⟨#[120]⟩) 23).keep (b1 _ _)).keep (b1 _ _)).keep (b1 _ _)).keep (b1 _ _), ?_, ?_, ?_, ?_, chain (chain (chain (chain (b1 _ _) (b1 _ _)) (b1 _ _)) (b1 _ _)) (b1 _ _)⟩
  · have h := (CkAt.new (w2.alloc (.cells #[.string ⟨#[97]⟩, .string ⟨#[47]⟩, .string ⟨#[120]⟩, .string ⟨#[118]⟩, .int .i64 0, .int .i64 0, .int .i64 0, .bool false, .bool false, .bool false, .int .i64 0] 23)) (oneC ⟨#[98]⟩ ⟨#[120]⟩) 23)
    simp only [e1] at h
    exact (((h.keep (b1 _ _)).keep (b1 _ _)).keep (b1 _ _))
  · have h := (CkAt.new ((w2.alloc (.cells #[.string ⟨#[97]⟩, .string ⟨#[47]⟩, .string ⟨#[120]⟩, .string ⟨#[118]⟩, .int .i64 0, .int .i64 0, .int .i64 0, .bool false, .bool false, .bool false, .int .i64 0] 23)).alloc (.cells #[.string ⟨#[98]⟩, .string ⟨#[47]⟩, .string ⟨#[120]⟩, .string ⟨#[118]⟩, .int .i64 0, .int .i64 0, .int .i64 0, .bool false, .bool false, .bool false, .int .i64 0] 23)) (⟨⟨#[97]⟩, ⟨#[47]⟩, ⟨#[120]⟩, ⟨#[118]⟩, 0, 1, 0, false, false, false, 0⟩) 23)
    simp only [e1] at h
    exact ((h.keep (b1 _ _)).keep (b1 _ _))
  · have h := (CkAt.new (((w2.alloc (.cells #[.string ⟨#[97]⟩, .string ⟨#[47]⟩, .string ⟨#[120]⟩, .string ⟨#[118]⟩, .int .i64 0, .int .i64 0, .int .i64 0, .bool false, .bool false, .bool false, .int .i64 0] 23)).alloc (.cells #[.string ⟨#[98]⟩, .string ⟨#[47]⟩, .string ⟨#[120]⟩, .string ⟨#[118]⟩, .int .i64 0, .int .i64 0, .int .i64 0, .bool false, .bool false, .bool false, .int .i64 0] 23)).alloc (.cells #[.string ⟨#[97]⟩, .string ⟨#[47]⟩, .string ⟨#[120]⟩, .string ⟨#[118]⟩, .int .i64 0, .int .i64 1, .int .i64 0, .bool false, .bool false, .bool false, .int .i64 0] 23)) (⟨⟨#[97]⟩, ⟨#[47]⟩, ⟨#[120]⟩, ⟨#[118]⟩, 0, 0, 0, true, false, false, 0⟩) 23)
    simp only [e1] at h
    exact (h.keep (b1 _ _))
  · have h := UcAt.new ((((w2.alloc (.cells #[.string ⟨#[97]⟩, .string ⟨#[47]⟩, .string ⟨#[120]⟩, .string ⟨#[118]⟩, .int .i64 0, .int .i64 0, .int .i64 0, .bool false, .bool false, .bool false, .int .i64 0] 23)).alloc (.cells #[.string ⟨#[98]⟩, .string ⟨#[47]⟩, .string ⟨#[120]⟩, .string ⟨#[118]⟩, .int .i64 0, .int .i64 0, .int .i64 0, .bool false, .bool false, .bool false, .int .i64 0] 23)).alloc (.cells #[.string ⟨#[97]⟩, .string ⟨#[47]⟩, .string ⟨#[120]⟩, .string ⟨#[118]⟩, .int .i64 0, .int .i64 1, .int .i64 0, .bool false, .bool false, .bool false, .int .i64 0] 23)).alloc (.cells #[.string ⟨#[97]⟩, .string ⟨#[47]⟩, .string ⟨#[120]⟩, .string ⟨#[118]⟩, .int .i64 0, .int .i64 0, .int .i64 0, .bool true, .bool false, .bool false, .int .i64 0] 23)) false ⟨#[121, 46, 97]⟩ ⟨#[47, 122]⟩ 42
    simp only [e1] at h
    exact h

set_option maxRecDepth 100000 in
set_option maxHeartbeats 3200000 in
theorem alive_any (w : World) : Calls Tryd.prog 10 #[] w fun e w' => e = .returned (.bool true) ∧ Below w.heap.size w w' := by
  have H1 : Hid (∀ W, Calls Tryd.prog 11 #[(.agg #[.string ⟨#[97]⟩, .string ⟨#[47]⟩, .string ⟨#[120]⟩, .string ⟨#[118]⟩, .int .i64 0, .int .i64 0, .int .i64 0, .bool false, .bool false, .bool false, .int .i64 0])] W fun e w' => e = .returned (.bool true) ∧ Below W.heap.size W w') := fun W => by
    have h := ckright_any (oneC ⟨#[97]⟩ ⟨#[120]⟩) W (by decide) (by decide) (by decide) (by decide)
    rw [show ckB (oneC ⟨#[97]⟩ ⟨#[120]⟩) = true by decide +kernel] at h
    exact h
  have H2 : Hid (∀ W, Calls Tryd.prog 11 #[ckV (oneC ⟨#[97]⟩ ⟨#[]⟩)] W fun e w' => e = .returned (.bool false) ∧ Below W.heap.size W w') := fun W => by
    have h := ckright_any (oneC ⟨#[97]⟩ ⟨#[]⟩) W (by decide) (by decide) (by decide) (by decide)
    rw [show ckB (oneC ⟨#[97]⟩ ⟨#[]⟩) = false by decide +kernel] at h
    exact h
  have H3 : Hid (∀ W, Calls Tryd.prog 13 #[(.agg #[.string ⟨#[97]⟩, .string ⟨#[47]⟩, .string ⟨#[120]⟩, .string ⟨#[118]⟩, .int .i64 0, .int .i64 0, .int .i64 0, .bool false, .bool false, .bool false, .int .i64 0])] W fun e w' => e = .returned (keyV ⟨#[97]⟩ ⟨#[47]⟩ ⟨#[120]⟩) ∧ Below W.heap.size W w') := fun W => of_any (oneC ⟨#[97]⟩ ⟨#[120]⟩) W
  have H4 : Hid (∀ W, Calls Tryd.prog 13 #[(.agg #[.string ⟨#[98]⟩, .string ⟨#[47]⟩, .string ⟨#[120]⟩, .string ⟨#[118]⟩, .int .i64 0, .int .i64 0, .int .i64 0, .bool false, .bool false, .bool false, .int .i64 0])] W fun e w' => e = .returned (keyV ⟨#[98]⟩ ⟨#[47]⟩ ⟨#[120]⟩) ∧ Below W.heap.size W w') := fun W => of_any (oneC ⟨#[98]⟩ ⟨#[120]⟩) W
  have H5 : Hid (∀ W, Calls Tryd.prog 14 #[keyV ⟨#[97]⟩ ⟨#[47]⟩ ⟨#[120]⟩, keyV ⟨#[98]⟩ ⟨#[47]⟩ ⟨#[120]⟩] W fun e w' => e = .returned (.int .i64 (-1)) ∧ Below W.heap.size W w') := fun W => by
    have h := keycmp_any (oneC ⟨#[97]⟩ ⟨#[120]⟩) (oneC ⟨#[98]⟩ ⟨#[120]⟩) W ⟨by decide, by decide, by decide, by decide⟩ ⟨by decide, by decide, by decide, by decide⟩
    rw [show cmpK (oneC ⟨#[97]⟩ ⟨#[120]⟩) (oneC ⟨#[98]⟩ ⟨#[120]⟩) = -1 by decide +kernel] at h
    exact h
  have H6 : Hid (∀ W, Calls Tryd.prog 17 #[(.agg #[.string ⟨#[97]⟩, .string ⟨#[47]⟩, .string ⟨#[120]⟩, .string ⟨#[118]⟩, .int .i64 0, .int .i64 0, .int .i64 0, .bool false, .bool false, .bool false, .int .i64 0]), (.agg #[.string ⟨#[98]⟩, .string ⟨#[47]⟩, .string ⟨#[120]⟩, .string ⟨#[118]⟩, .int .i64 0, .int .i64 0, .int .i64 0, .bool false, .bool false, .bool false, .int .i64 0])] W fun e w' => e = .returned (.int .i64 (-1)) ∧ Below W.heap.size W w') := fun W => by
    have h := cmp_any (oneC ⟨#[97]⟩ ⟨#[120]⟩) (oneC ⟨#[98]⟩ ⟨#[120]⟩) W ⟨by decide, by decide, by decide, by decide⟩ ⟨by decide, by decide, by decide, by decide⟩
    rw [show cmpC (oneC ⟨#[97]⟩ ⟨#[120]⟩) (oneC ⟨#[98]⟩ ⟨#[120]⟩) = -1 by decide +kernel] at h
    exact h
  have H7 : Hid (∀ W, Calls Tryd.prog 17 #[(.agg #[.string ⟨#[97]⟩, .string ⟨#[47]⟩, .string ⟨#[120]⟩, .string ⟨#[118]⟩, .int .i64 0, .int .i64 1, .int .i64 0, .bool false, .bool false, .bool false, .int .i64 0]), (.agg #[.string ⟨#[97]⟩, .string ⟨#[47]⟩, .string ⟨#[120]⟩, .string ⟨#[118]⟩, .int .i64 0, .int .i64 0, .int .i64 0, .bool false, .bool false, .bool false, .int .i64 0])] W fun e w' => e = .returned (.int .i64 1) ∧ Below W.heap.size W w') := fun W => by
    have h := cmp_any (⟨⟨#[97]⟩, ⟨#[47]⟩, ⟨#[120]⟩, ⟨#[118]⟩, 0, 1, 0, false, false, false, 0⟩) (oneC ⟨#[97]⟩ ⟨#[120]⟩) W ⟨by decide, by decide, by decide, by decide⟩ ⟨by decide, by decide, by decide, by decide⟩
    rw [show cmpC (⟨⟨#[97]⟩, ⟨#[47]⟩, ⟨#[120]⟩, ⟨#[118]⟩, 0, 1, 0, false, false, false, 0⟩) (oneC ⟨#[97]⟩ ⟨#[120]⟩) = 1 by decide +kernel] at h
    exact h
  have H8 : Hid (∀ W, Calls Tryd.prog 19 #[(.agg #[.string ⟨#[97]⟩, .string ⟨#[47]⟩, .string ⟨#[120]⟩, .string ⟨#[118]⟩, .int .i64 0, .int .i64 0, .int .i64 0, .bool false, .bool false, .bool false, .int .i64 0]), (.agg #[.string ⟨#[97]⟩, .string ⟨#[47]⟩, .string ⟨#[120]⟩, .string ⟨#[118]⟩, .int .i64 0, .int .i64 1, .int .i64 0, .bool false, .bool false, .bool false, .int .i64 0])] W fun e w' => e = .returned (.agg #[.string ⟨#[97]⟩, .string ⟨#[47]⟩, .string ⟨#[120]⟩, .string ⟨#[118]⟩, .int .i64 0, .int .i64 1, .int .i64 0, .bool false, .bool false, .bool false, .int .i64 0]) ∧ Below W.heap.size W w') := fun W => by
    have h := greater_any (oneC ⟨#[97]⟩ ⟨#[120]⟩) (⟨⟨#[97]⟩, ⟨#[47]⟩, ⟨#[120]⟩, ⟨#[118]⟩, 0, 1, 0, false, false, false, 0⟩) W ⟨by decide, by decide, by decide, by decide⟩ ⟨by decide, by decide, by decide, by decide⟩
    rw [show grC (oneC ⟨#[97]⟩ ⟨#[120]⟩) (⟨⟨#[97]⟩, ⟨#[47]⟩, ⟨#[120]⟩, ⟨#[118]⟩, 0, 1, 0, false, false, false, 0⟩) = (⟨⟨#[97]⟩, ⟨#[47]⟩, ⟨#[120]⟩, ⟨#[118]⟩, 0, 1, 0, false, false, false, 0⟩) by unfold grC; rw [if_pos (show cmpC (oneC ⟨#[97]⟩ ⟨#[120]⟩) (⟨⟨#[97]⟩, ⟨#[47]⟩, ⟨#[120]⟩, ⟨#[118]⟩, 0, 1, 0, false, false, false, 0⟩) < 0 by decide +kernel)]] at h
    exact h
  have H9 : Hid (∀ W, Calls Tryd.prog 21 #[(.agg #[.string ⟨#[97]⟩, .string ⟨#[47]⟩, .string ⟨#[120]⟩, .string ⟨#[118]⟩, .int .i64 0, .int .i64 0, .int .i64 0, .bool false, .bool false, .bool false, .int .i64 0]), .int .i64 9] W fun e w' => e = .returned (.bool true) ∧ Below W.heap.size W w') := fun W => by
    have h := live_any (oneC ⟨#[97]⟩ ⟨#[120]⟩) 9 W
    rw [show liveB (oneC ⟨#[97]⟩ ⟨#[120]⟩) 9 = true by decide +kernel] at h
    exact h
  have HS1 : Hid (∀ W, Calls Tryd.prog 23 #[(.agg #[.string ⟨#[97]⟩, .string ⟨#[47]⟩, .string ⟨#[120]⟩, .string ⟨#[118]⟩, .int .i64 0, .int .i64 0, .int .i64 0, .bool false, .bool false, .bool false, .int .i64 0]), urlC false ⟨#[121, 46, 97]⟩ ⟨#[47, 122]⟩, .int .i64 9] W fun e w' => e = .returned (.bool true) ∧ Below W.heap.size W w') := fun W => by
    have h := sends_any (oneC ⟨#[97]⟩ ⟨#[120]⟩) false ⟨#[121, 46, 97]⟩ ⟨#[47, 122]⟩ 9 W (by decide) (by decide) (by decide) (by decide)
    rw [show sendsB (oneC ⟨#[97]⟩ ⟨#[120]⟩) false ⟨#[121, 46, 97]⟩ ⟨#[47, 122]⟩ 9 = true by decide +kernel] at h
    exact h
  have HS2 : Hid (∀ W, Calls Tryd.prog 23 #[(.agg #[.string ⟨#[97]⟩, .string ⟨#[47]⟩, .string ⟨#[120]⟩, .string ⟨#[118]⟩, .int .i64 0, .int .i64 0, .int .i64 0, .bool true, .bool false, .bool false, .int .i64 0]), urlC false ⟨#[121, 46, 97]⟩ ⟨#[47, 122]⟩, .int .i64 9] W fun e w' => e = .returned (.bool false) ∧ Below W.heap.size W w') := fun W => by
    have h := sends_any (⟨⟨#[97]⟩, ⟨#[47]⟩, ⟨#[120]⟩, ⟨#[118]⟩, 0, 0, 0, true, false, false, 0⟩) false ⟨#[121, 46, 97]⟩ ⟨#[47, 122]⟩ 9 W (by decide) (by decide) (by decide) (by decide)
    rw [show sendsB (⟨⟨#[97]⟩, ⟨#[47]⟩, ⟨#[120]⟩, ⟨#[118]⟩, 0, 0, 0, true, false, false, 0⟩) false ⟨#[121, 46, 97]⟩ ⟨#[47, 122]⟩ 9 = false by decide +kernel] at h
    exact h
  have hk : ∀ W : World, Sem.run Tryd.prog (binOp BinOp.eql 27 (keyV ⟨#[97]⟩ ⟨#[47]⟩ ⟨#[120]⟩) (keyV ⟨#[97]⟩ ⟨#[47]⟩ ⟨#[120]⟩)) W = .ok (.bool true) W := fun W => key_eq_yes _ _ _ W
  have hc : ∀ W : World, Sem.run Tryd.prog (binOp BinOp.eql 23 (.agg #[.string ⟨#[97]⟩, .string ⟨#[47]⟩, .string ⟨#[120]⟩, .string ⟨#[118]⟩, .int .i64 0, .int .i64 1, .int .i64 0, .bool false, .bool false, .bool false, .int .i64 0]) (.agg #[.string ⟨#[97]⟩, .string ⟨#[47]⟩, .string ⟨#[120]⟩, .string ⟨#[118]⟩, .int .i64 0, .int .i64 1, .int .i64 0, .bool false, .bool false, .bool false, .int .i64 0])) W = .ok (.bool true) W := fun W => ck_eq_yes (⟨⟨#[97]⟩, ⟨#[47]⟩, ⟨#[120]⟩, ⟨#[118]⟩, 0, 1, 0, false, false, false, 0⟩) W
  go_enter Tryd.func10, Tryd.ntmps10
  go_wp2_with fail
  refine (pone_any _ _ _).mono ?_
  rintro _ w1 ⟨rfl, hb1⟩
  go_wp2_with fail
  refine (pone_any _ _ _).mono ?_
  rintro _ w2 ⟨rfl, hb⟩
  have hb2 := chain hb1 hb
  clear hb hb1
  go_wp2_with (with_reducible refine wp_halt ?_)
  refine Halt.on ?_
  obtain ⟨hA, hB, hC, hO, hU, hb⟩ := av_world w2
  have hb3 := chain hb2 hb
  clear hb hb2
  generalize ((((w2.alloc (.cells #[.string ⟨#[97]⟩, .string ⟨#[47]⟩, .string ⟨#[120]⟩, .string ⟨#[118]⟩, .int .i64 0, .int .i64 0, .int .i64 0, .bool false, .bool false, .bool false, .int .i64 0] 23)).alloc (.cells #[.string ⟨#[98]⟩, .string ⟨#[47]⟩, .string ⟨#[120]⟩, .string ⟨#[118]⟩, .int .i64 0, .int .i64 0, .int .i64 0, .bool false, .bool false, .bool false, .int .i64 0] 23)).alloc (.cells #[.string ⟨#[97]⟩, .string ⟨#[47]⟩, .string ⟨#[120]⟩, .string ⟨#[118]⟩, .int .i64 0, .int .i64 1, .int .i64 0, .bool false, .bool false, .bool false, .int .i64 0] 23)).alloc (.cells #[.string ⟨#[97]⟩, .string ⟨#[47]⟩, .string ⟨#[120]⟩, .string ⟨#[118]⟩, .int .i64 0, .int .i64 0, .int .i64 0, .bool true, .bool false, .bool false, .int .i64 0] 23)).alloc (.cells #[.bool false, .string ⟨#[121, 46, 97]⟩, .string ⟨#[47, 122]⟩] 42) = W at *
  have a0 : ∀ x : Ext W, x.world.cell? ⟨w2.heap.size, 0, none⟩ = some (.string ⟨#[97]⟩) := fun x => (hA.keep x.below).1
  have a1 : ∀ x : Ext W, x.world.cell? ⟨w2.heap.size, 1, none⟩ = some (.string ⟨#[47]⟩) := fun x => (hA.keep x.below).2.1
  have a2 : ∀ x : Ext W, x.world.cell? ⟨w2.heap.size, 2, none⟩ = some (.string ⟨#[120]⟩) := fun x => (hA.keep x.below).2.2.1
  have a3 : ∀ x : Ext W, x.world.cell? ⟨w2.heap.size, 3, none⟩ = some (.string ⟨#[118]⟩) := fun x => (hA.keep x.below).2.2.2.1
  have a4 : ∀ x : Ext W, x.world.cell? ⟨w2.heap.size, 4, none⟩ = some (.int .i64 0) := fun x => (hA.keep x.below).2.2.2.2.1
  have a5 : ∀ x : Ext W, x.world.cell? ⟨w2.heap.size, 5, none⟩ = some (.int .i64 0) := fun x => (hA.keep x.below).2.2.2.2.2.1
  have a6 : ∀ x : Ext W, x.world.cell? ⟨w2.heap.size, 6, none⟩ = some (.int .i64 0) := fun x => (hA.keep x.below).2.2.2.2.2.2.1
  have a7 : ∀ x : Ext W, x.world.cell? ⟨w2.heap.size, 7, none⟩ = some (.bool false) := fun x => (hA.keep x.below).2.2.2.2.2.2.2.1
  have a8 : ∀ x : Ext W, x.world.cell? ⟨w2.heap.size, 8, none⟩ = some (.bool false) := fun x => (hA.keep x.below).2.2.2.2.2.2.2.2.1
  have a9 : ∀ x : Ext W, x.world.cell? ⟨w2.heap.size, 9, none⟩ = some (.bool false) := fun x => (hA.keep x.below).2.2.2.2.2.2.2.2.2.1
  have a10 : ∀ x : Ext W, x.world.cell? ⟨w2.heap.size, 10, none⟩ = some (.int .i64 0) := fun x => (hA.keep x.below).2.2.2.2.2.2.2.2.2.2
  have b0 : ∀ x : Ext W, x.world.cell? ⟨w2.heap.size + 1, 0, none⟩ = some (.string ⟨#[98]⟩) := fun x => (hB.keep x.below).1
  have b1 : ∀ x : Ext W, x.world.cell? ⟨w2.heap.size + 1, 1, none⟩ = some (.string ⟨#[47]⟩) := fun x => (hB.keep x.below).2.1
  have b2 : ∀ x : Ext W, x.world.cell? ⟨w2.heap.size + 1, 2, none⟩ = some (.string ⟨#[120]⟩) := fun x => (hB.keep x.below).2.2.1
  have b3 : ∀ x : Ext W, x.world.cell? ⟨w2.heap.size + 1, 3, none⟩ = some (.string ⟨#[118]⟩) := fun x => (hB.keep x.below).2.2.2.1
  have b4 : ∀ x : Ext W, x.world.cell? ⟨w2.heap.size + 1, 4, none⟩ = some (.int .i64 0) := fun x => (hB.keep x.below).2.2.2.2.1
  have b5 : ∀ x : Ext W, x.world.cell? ⟨w2.heap.size + 1, 5, none⟩ = some (.int .i64 0) := fun x => (hB.keep x.below).2.2.2.2.2.1
  have b6 : ∀ x : Ext W, x.world.cell? ⟨w2.heap.size + 1, 6, none⟩ = some (.int .i64 0) := fun x => (hB.keep x.below).2.2.2.2.2.2.1
  have b7 : ∀ x : Ext W, x.world.cell? ⟨w2.heap.size + 1, 7, none⟩ = some (.bool false) := fun x => (hB.keep x.below).2.2.2.2.2.2.2.1
  have b8 : ∀ x : Ext W, x.world.cell? ⟨w2.heap.size + 1, 8, none⟩ = some (.bool false) := fun x => (hB.keep x.below).2.2.2.2.2.2.2.2.1
  have b9 : ∀ x : Ext W, x.world.cell? ⟨w2.heap.size + 1, 9, none⟩ = some (.bool false) := fun x => (hB.keep x.below).2.2.2.2.2.2.2.2.2.1
  have b10 : ∀ x : Ext W, x.world.cell? ⟨w2.heap.size + 1, 10, none⟩ = some (.int .i64 0) := fun x => (hB.keep x.below).2.2.2.2.2.2.2.2.2.2
  have c0 : ∀ x : Ext W, x.world.cell? ⟨w2.heap.size + 1 + 1, 0, none⟩ = some (.string ⟨#[97]⟩) := fun x => (hC.keep x.below).1
  have c1 : ∀ x : Ext W, x.world.cell? ⟨w2.heap.size + 1 + 1, 1, none⟩ = some (.string ⟨#[47]⟩) := fun x => (hC.keep x.below).2.1
  have c2 : ∀ x : Ext W, x.world.cell? ⟨w2.heap.size + 1 + 1, 2, none⟩ = some (.string ⟨#[120]⟩) := fun x => (hC.keep x.below).2.2.1
  have c3 : ∀ x : Ext W, x.world.cell? ⟨w2.heap.size + 1 + 1, 3, none⟩ = some (.string ⟨#[118]⟩) := fun x => (hC.keep x.below).2.2.2.1
  have c4 : ∀ x : Ext W, x.world.cell? ⟨w2.heap.size + 1 + 1, 4, none⟩ = some (.int .i64 0) := fun x => (hC.keep x.below).2.2.2.2.1
  have c5 : ∀ x : Ext W, x.world.cell? ⟨w2.heap.size + 1 + 1, 5, none⟩ = some (.int .i64 1) := fun x => (hC.keep x.below).2.2.2.2.2.1
  have c6 : ∀ x : Ext W, x.world.cell? ⟨w2.heap.size + 1 + 1, 6, none⟩ = some (.int .i64 0) := fun x => (hC.keep x.below).2.2.2.2.2.2.1
  have c7 : ∀ x : Ext W, x.world.cell? ⟨w2.heap.size + 1 + 1, 7, none⟩ = some (.bool false) := fun x => (hC.keep x.below).2.2.2.2.2.2.2.1
  have c8 : ∀ x : Ext W, x.world.cell? ⟨w2.heap.size + 1 + 1, 8, none⟩ = some (.bool false) := fun x => (hC.keep x.below).2.2.2.2.2.2.2.2.1
  have c9 : ∀ x : Ext W, x.world.cell? ⟨w2.heap.size + 1 + 1, 9, none⟩ = some (.bool false) := fun x => (hC.keep x.below).2.2.2.2.2.2.2.2.2.1
  have c10 : ∀ x : Ext W, x.world.cell? ⟨w2.heap.size + 1 + 1, 10, none⟩ = some (.int .i64 0) := fun x => (hC.keep x.below).2.2.2.2.2.2.2.2.2.2
  have o0 : ∀ x : Ext W, x.world.cell? ⟨w2.heap.size + 1 + 1 + 1, 0, none⟩ = some (.string ⟨#[97]⟩) := fun x => (hO.keep x.below).1
  have o1 : ∀ x : Ext W, x.world.cell? ⟨w2.heap.size + 1 + 1 + 1, 1, none⟩ = some (.string ⟨#[47]⟩) := fun x => (hO.keep x.below).2.1
  have o2 : ∀ x : Ext W, x.world.cell? ⟨w2.heap.size + 1 + 1 + 1, 2, none⟩ = some (.string ⟨#[120]⟩) := fun x => (hO.keep x.below).2.2.1
  have o3 : ∀ x : Ext W, x.world.cell? ⟨w2.heap.size + 1 + 1 + 1, 3, none⟩ = some (.string ⟨#[118]⟩) := fun x => (hO.keep x.below).2.2.2.1
  have o4 : ∀ x : Ext W, x.world.cell? ⟨w2.heap.size + 1 + 1 + 1, 4, none⟩ = some (.int .i64 0) := fun x => (hO.keep x.below).2.2.2.2.1
  have o5 : ∀ x : Ext W, x.world.cell? ⟨w2.heap.size + 1 + 1 + 1, 5, none⟩ = some (.int .i64 0) := fun x => (hO.keep x.below).2.2.2.2.2.1
  have o6 : ∀ x : Ext W, x.world.cell? ⟨w2.heap.size + 1 + 1 + 1, 6, none⟩ = some (.int .i64 0) := fun x => (hO.keep x.below).2.2.2.2.2.2.1
  have o7 : ∀ x : Ext W, x.world.cell? ⟨w2.heap.size + 1 + 1 + 1, 7, none⟩ = some (.bool true) := fun x => (hO.keep x.below).2.2.2.2.2.2.2.1
  have o8 : ∀ x : Ext W, x.world.cell? ⟨w2.heap.size + 1 + 1 + 1, 8, none⟩ = some (.bool false) := fun x => (hO.keep x.below).2.2.2.2.2.2.2.2.1
  have o9 : ∀ x : Ext W, x.world.cell? ⟨w2.heap.size + 1 + 1 + 1, 9, none⟩ = some (.bool false) := fun x => (hO.keep x.below).2.2.2.2.2.2.2.2.2.1
  have o10 : ∀ x : Ext W, x.world.cell? ⟨w2.heap.size + 1 + 1 + 1, 10, none⟩ = some (.int .i64 0) := fun x => (hO.keep x.below).2.2.2.2.2.2.2.2.2.2
  have u0 : ∀ x : Ext W, x.world.cell? ⟨w2.heap.size + 1 + 1 + 1 + 1, 0, none⟩ = some (.bool false) := fun x => (hU.keep x.below).1
  have u1 : ∀ x : Ext W, x.world.cell? ⟨w2.heap.size + 1 + 1 + 1 + 1, 1, none⟩ = some (.string ⟨#[121, 46, 97]⟩) := fun x => (hU.keep x.below).2.1
  have u2 : ∀ x : Ext W, x.world.cell? ⟨w2.heap.size + 1 + 1 + 1 + 1, 2, none⟩ = some (.string ⟨#[47, 122]⟩) := fun x => (hU.keep x.below).2.2
  clear hA hB hC hO hU
  refine wp_region_ext (by kernel_rfl) (by kernel_rfl) ?_
  repeat (go_big_quiet_step (first
    | (go_at_call 25; refine (pone_any _ _ _).mono ?_; rintro _ w1 ⟨rfl, hb1⟩; exact ⟨rfl, Ext.on _ hb1⟩)
    | (go_at_call 11; with_reducible refine (H1.out _).mono ?_; rintro _ w1 ⟨rfl, hb1⟩; exact ⟨rfl, Ext.on _ hb1⟩)
    | (go_at_call 11; with_reducible refine (H2.out _).mono ?_; rintro _ w1 ⟨rfl, hb1⟩; exact ⟨rfl, Ext.on _ hb1⟩)
    | (go_at_call 13; with_reducible refine (H3.out _).mono ?_; rintro _ w1 ⟨rfl, hb1⟩; exact ⟨rfl, Ext.on _ hb1⟩)
    | (go_at_call 13; with_reducible refine (H4.out _).mono ?_; rintro _ w1 ⟨rfl, hb1⟩; exact ⟨rfl, Ext.on _ hb1⟩)
    | (go_at_call 14; with_reducible refine (H5.out _).mono ?_; rintro _ w1 ⟨rfl, hb1⟩; exact ⟨rfl, Ext.on _ hb1⟩)
    | (go_at_call 17; with_reducible refine (H6.out _).mono ?_; rintro _ w1 ⟨rfl, hb1⟩; exact ⟨rfl, Ext.on _ hb1⟩)
    | (go_at_call 17; with_reducible refine (H7.out _).mono ?_; rintro _ w1 ⟨rfl, hb1⟩; exact ⟨rfl, Ext.on _ hb1⟩)
    | (go_at_call 19; with_reducible refine (H8.out _).mono ?_; rintro _ w1 ⟨rfl, hb1⟩; exact ⟨rfl, Ext.on _ hb1⟩)
    | (go_at_call 21; with_reducible refine (H9.out _).mono ?_; rintro _ w1 ⟨rfl, hb1⟩; exact ⟨rfl, Ext.on _ hb1⟩)
    | (go_at_call 23; with_reducible refine (HS1.out _).mono ?_; rintro _ w1 ⟨rfl, hb1⟩; exact ⟨rfl, Ext.on _ hb1⟩)
    | (go_at_call 23; with_reducible refine (HS2.out _).mono ?_; rintro _ w1 ⟨rfl, hb1⟩; exact ⟨rfl, Ext.on _ hb1⟩)))
  refine wpQuiet_nil ?_
  rintro _ ⟨x, rfl⟩
  have hb4 := chain hb3 x.below
  go_wp2
  go_ret
  exact ⟨rfl, hb4⟩
end Go.Proofs.YtkpdejnhjbojpaaDoor
