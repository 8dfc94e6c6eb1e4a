/-
  The document's own answers (package cracknelref13): Greater: a contract.
-/
import Derived.Test.YtkpdejnhjbojpaaDoorCkRefC
namespace Go.Proofs.YtkpdejnhjbojpaaDoor
open Go.RowKit
set_option linter.unusedVariables false

theorem store11 {B g : Nat} {w w' : World} (h : Below B w w') (hg : B ≤ g) (u0 u1 u2 u3 u4 u5 u6 u7 u8 u9 u10 : Value) : Below B w (((((((((((w'.setCell ⟨g, 0, none⟩ u0).setCell ⟨g, 1, none⟩ u1).setCell ⟨g, 2, none⟩ u2).setCell ⟨g, 3, none⟩ u3).setCell ⟨g, 4, none⟩ u4).setCell ⟨g, 5, none⟩ u5).setCell ⟨g, 6, none⟩ u6).setCell ⟨g, 7, none⟩ u7).setCell ⟨g, 8, none⟩ u8).setCell ⟨g, 9, none⟩ u9).setCell ⟨g, 10, none⟩ u10) := (((((((((((h.setCell (p := ⟨g, 0, none⟩) hg u0).setCell (p := ⟨g, 1, none⟩) hg u1).setCell (p := ⟨g, 2, none⟩) hg u2).setCell (p := ⟨g, 3, none⟩) hg u3).setCell (p := ⟨g, 4, none⟩) hg u4).setCell (p := ⟨g, 5, none⟩) hg u5).setCell (p := ⟨g, 6, none⟩) hg u6).setCell (p := ⟨g, 7, none⟩) hg u7).setCell (p := ⟨g, 8, none⟩) hg u8).setCell (p := ⟨g, 9, none⟩) hg u9).setCell (p := ⟨g, 10, none⟩) hg u10)

set_option maxRecDepth 100000 in
set_option maxHeartbeats 3200000 in
theorem rgreater_any (a b : Ck) (w : World) (ha : a.dom.size ≤ 9223372036854775807 ∧ a.path.size ≤ 9223372036854775807 ∧ a.name.size ≤ 9223372036854775807 ∧ a.val.size ≤ 9223372036854775807) (hb : b.dom.size ≤ 9223372036854775807 ∧ b.path.size ≤ 9223372036854775807 ∧ b.name.size ≤ 9223372036854775807 ∧ b.val.size ≤ 9223372036854775807) :
    Calls Tryd.prog 20 #[ckV a, ckV b] w fun e w' => e = .returned (ckV (grC a b)) ∧ Below w.heap.size w w' := by
  have HC := Lib.hid (rcmp_any a b · ha hb)
  have HG : Hid (grC a b = if cmpC a b < 0 then b else a) := rfl
  generalize cmpC a b = k at HC HG
  generalize grC a b = G at HG ⊢
  obtain ⟨d, p, n, v, cr, ac, ex, ho, se, hp, ss⟩ := a
  obtain ⟨d', p', n', v', cr', ac', ex', ho', se', hp', ss'⟩ := b
  clear ha hb
  have hA := ((CkAt.new w ⟨d, p, n, v, cr, ac, ex, ho, se, hp, ss⟩ 23).keep ((Below.refl _ _).alloc (Nat.le_refl _) (.cells (ckCells ⟨d', p', n', v', cr', ac', ex', ho', se', hp', ss'⟩) 23))).keep ((Below.refl _ _).alloc (Nat.le_refl _) (.cells (ckCells ⟨⟨#[]⟩, ⟨#[]⟩, ⟨#[]⟩, ⟨#[]⟩, 0, 0, 0, false, false, false, 0⟩) 23))
  have hB := (CkAt.new (w.alloc (.cells (ckCells ⟨d, p, n, v, cr, ac, ex, ho, se, hp, ss⟩) 23)) ⟨d', p', n', v', cr', ac', ex', ho', se', hp', ss'⟩ 23).keep ((Below.refl _ _).alloc (Nat.le_refl _) (.cells (ckCells ⟨⟨#[]⟩, ⟨#[]⟩, ⟨#[]⟩, ⟨#[]⟩, 0, 0, 0, false, false, false, 0⟩) 23))
  have hZ := CkAt.new ((w.alloc (.cells (ckCells ⟨d, p, n, v, cr, ac, ex, ho, se, hp, ss⟩) 23)).alloc (.cells (ckCells ⟨d', p', n', v', cr', ac', ex', ho', se', hp', ss'⟩) 23)) ⟨⟨#[]⟩, ⟨#[]⟩, ⟨#[]⟩, ⟨#[]⟩, 0, 0, 0, false, false, false, 0⟩ 23
  have hF : ∀ i, (((w.alloc (.cells (ckCells ⟨d, p, n, v, cr, ac, ex, ho, se, hp, ss⟩) 23)).alloc (.cells (ckCells ⟨d', p', n', v', cr', ac', ex', ho', se', hp', ss'⟩) 23)).alloc (.cells (ckCells ⟨⟨#[]⟩, ⟨#[]⟩, ⟨#[]⟩, ⟨#[]⟩, 0, 0, 0, false, false, false, 0⟩) 23)).frozen? ⟨w.heap.size + 1 + 1, i, none⟩ = false := fun i => World.frozen?_alloc_at _ _ _ _ (by simp)
  have hlt : w.heap.size + 1 + 1 < (((w.alloc (.cells (ckCells ⟨d, p, n, v, cr, ac, ex, ho, se, hp, ss⟩) 23)).alloc (.cells (ckCells ⟨d', p', n', v', cr', ac', ex', ho', se', hp', ss'⟩) 23)).alloc (.cells (ckCells ⟨⟨#[]⟩, ⟨#[]⟩, ⟨#[]⟩, ⟨#[]⟩, 0, 0, 0, false, false, false, 0⟩) 23)).heap.size := by simp
  have hb0 := (((Below.refl w.heap.size w).alloc (Nat.le_refl _) (.cells (ckCells ⟨d, p, n, v, cr, ac, ex, ho, se, hp, ss⟩) 23)).alloc (by simp) (.cells (ckCells ⟨d', p', n', v', cr', ac', ex', ho', se', hp', ss'⟩) 23)).alloc (by simp; omega) (.cells (ckCells ⟨⟨#[]⟩, ⟨#[]⟩, ⟨#[]⟩, ⟨#[]⟩, 0, 0, 0, false, false, false, 0⟩) 23)
  rw [show ∀ o : Obj, (w.alloc o).heap.size = w.heap.size + 1 from fun o => by simp] at hB
  rw [show ∀ o o' : Obj, ((w.alloc o).alloc o').heap.size = w.heap.size + 1 + 1 from fun o o' => by simp] at hZ
  simp only [ckCells] at hA hB hZ hF hlt hb0
  go_enter Tryd.func20, Tryd.ntmps20
  go_wp2_with fail
  refine (HC.out _).mono ?_
  rintro _ w1 ⟨rfl, hb⟩
  have hb1 := chain hb0 hb
  replace hA := hA.keep hb
  replace hB := hB.keep hb
  replace hZ := hZ.keep hb
  have hF1 : ∀ i, w1.frozen? ⟨w.heap.size + 1 + 1, i, none⟩ = false := fun i => by rw [hb.frozen (p := ⟨w.heap.size + 1 + 1, i, none⟩) hlt]; exact hF i
  clear hb hb0 HC hlt hF
  obtain ⟨a0, a1, a2, a3, a4, a5, a6, a7, a8, a9, a10⟩ := hA
  obtain ⟨b0, b1, b2, b3, b4, b5, b6, b7, b8, b9, b10⟩ := hB
  obtain ⟨z0, z1, z2, z3, z4, z5, z6, z7, z8, z9, z10⟩ := hZ
  by_cases hk : k < 0
  · have hk' : decide (k < 0) = true := decide_eq_true hk
    have HG2 : Hid (G = ⟨d', p', n', v', cr', ac', ex', ho', se', hp', ss'⟩) := by show _ = _; rw [HG.out, if_pos hk]
    clear HG
    go_wp2
    (try simp only [Exit.inBlock, Exit.then])
    refine bodyPost_ret (v := ckV ⟨d', p', n', v', cr', ac', ex', ho', se', hp', ss'⟩) (by rw [results_cellK rfl]; go_simp) rfl ?_
    exact ⟨by rw [HG2.out], store11 hb1 (by omega) _ _ _ _ _ _ _ _ _ _ _⟩
  · have hk' : decide (k < 0) = false := decide_eq_false hk
    have HG2 : Hid (G = ⟨d, p, n, v, cr, ac, ex, ho, se, hp, ss⟩) := by show _ = _; rw [HG.out, if_neg hk]
    clear HG
    go_wp2
    (try simp only [Exit.inBlock, Exit.then])
    refine bodyPost_ret (v := ckV ⟨d, p, n, v, cr, ac, ex, ho, se, hp, ss⟩) (by rw [results_cellK rfl]; go_simp) rfl ?_
    exact ⟨by rw [HG2.out], store11 hb1 (by omega) _ _ _ _ _ _ _ _ _ _ _⟩
end Go.Proofs.YtkpdejnhjbojpaaDoor
