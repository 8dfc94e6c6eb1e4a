/-
  What a text's words have told so far, in memory.
-/
import Derived.Test.YtmmkokomffclmaaDoorDatRefM
import Derived.Laws.Rows
namespace Go.Proofs.YtmmkokomffclmaaDoor
open Go.RowKit
set_option linter.unusedVariables false

/-- Its value. -/
abbrev fdV (f : Fd) : Value := .agg #[.bool f.time, .bool f.day, .bool f.month, .bool f.year, .int .i64 f.Y, .int .i64 f.M, .int .i64 f.D, .int .i64 f.h, .int .i64 f.i, .int .i64 f.s]

/-- It lies in block g, and may be written. -/
def FdAt (w : World) (g : Nat) (f : Fd) : Prop :=
  (w.cell? ⟨g, 0, none⟩ = some (.bool f.time) ∧ w.cell? ⟨g, 1, none⟩ = some (.bool f.day) ∧ w.cell? ⟨g, 2, none⟩ = some (.bool f.month) ∧ w.cell? ⟨g, 3, none⟩ = some (.bool f.year) ∧
    w.cell? ⟨g, 4, none⟩ = some (.int .i64 f.Y) ∧ w.cell? ⟨g, 5, none⟩ = some (.int .i64 f.M) ∧ w.cell? ⟨g, 6, none⟩ = some (.int .i64 f.D) ∧ w.cell? ⟨g, 7, none⟩ = some (.int .i64 f.h) ∧
    w.cell? ⟨g, 8, none⟩ = some (.int .i64 f.i) ∧ w.cell? ⟨g, 9, none⟩ = some (.int .i64 f.s)) ∧ ∀ j, j < 10 → w.frozen? ⟨g, j, none⟩ = false

theorem FdAt.new (w : World) (f : Fd) (t : TypeId) :
    FdAt (w.alloc (.cells #[.bool f.time, .bool f.day, .bool f.month, .bool f.year, .int .i64 f.Y, .int .i64 f.M, .int .i64 f.D, .int .i64 f.h, .int .i64 f.i, .int .i64 f.s] t)) w.heap.size f := by
  refine ⟨⟨?_, ?_, ?_, ?_, ?_, ?_, ?_, ?_, ?_, ?_⟩, fun j hj => ?_⟩ <;> simp

theorem frozen_keep {w w' : World} {g j : Nat} (hb : Below w.heap.size w w') (hg : g < w.heap.size) : w'.frozen? ⟨g, j, none⟩ = w.frozen? ⟨g, j, none⟩ := by
  unfold World.frozen?
  rw [hb.block g hg]

theorem FdAt.keep {w w' : World} {g : Nat} {f : Fd} (hc : FdAt w g f) (hb : Below w.heap.size w w') : FdAt w' g f := by
  obtain ⟨⟨c0, c1, c2, c3, c4, c5, c6, c7, c8, c9⟩, hf⟩ := hc
  have hg : g < w.heap.size := World.block_lt_of_cell? w _ c0
  refine ⟨⟨?_, ?_, ?_, ?_, ?_, ?_, ?_, ?_, ?_, ?_⟩, fun j hj => by rw [frozen_keep hb hg]; exact hf j hj⟩ <;> rw [hb.cell hg] <;> assumption

theorem FdAt.drew {w : World} {g : Nat} {f : Fd} (h : FdAt w g f) : FdAt w.drew g f := ⟨by simpa using h.1, fun j hj => by simpa using h.2 j hj⟩

theorem FdAt.facts {w : World} {g : Nat} {f : Fd} (h : FdAt w g f) : w.frozen? ⟨g, 0, none⟩ = false ∧ w.frozen? ⟨g, 1, none⟩ = false ∧ w.frozen? ⟨g, 2, none⟩ = false ∧ w.frozen? ⟨g, 3, none⟩ = false ∧ w.frozen? ⟨g, 4, none⟩ = false ∧
    w.frozen? ⟨g, 5, none⟩ = false ∧ w.frozen? ⟨g, 6, none⟩ = false ∧ w.frozen? ⟨g, 7, none⟩ = false ∧ w.frozen? ⟨g, 8, none⟩ = false ∧ w.frozen? ⟨g, 9, none⟩ = false :=
  ⟨h.2 0 (by decide), h.2 1 (by decide), h.2 2 (by decide), h.2 3 (by decide), h.2 4 (by decide), h.2 5 (by decide), h.2 6 (by decide), h.2 7 (by decide), h.2 8 (by decide), h.2 9 (by decide)⟩

theorem FdAt.month {w : World} {g : Nat} {f : Fd} (h : FdAt w g f) : FdAt (w.setCell ⟨g, 2, none⟩ (.bool true)) g { f with month := true } := by
  obtain ⟨⟨c0, c1, c2, c3, c4, c5, c6, c7, c8, c9⟩, hf⟩ := h
  refine ⟨⟨?_, ?_, World.cell?_setCell_same w _ _ c2, ?_, ?_, ?_, ?_, ?_, ?_, ?_⟩, fun j hj => by rw [World.frozen?_setCell]; exact hf j hj⟩ <;>
    (rw [World.cell?_setCell_other w _ _ _ (fun h => by injection h with _ h2 _; cases h2)]; assumption)

theorem FdAt.other {w : World} {g r : Nat} {f : Fd} (h : FdAt w g f) (v : Value) (j : Nat) (hne : ¬ r = g) : FdAt (w.setCell ⟨r, j, none⟩ v) g f := by
  obtain ⟨⟨c0, c1, c2, c3, c4, c5, c6, c7, c8, c9⟩, hf⟩ := h
  refine ⟨⟨?_, ?_, ?_, ?_, ?_, ?_, ?_, ?_, ?_, ?_⟩, fun j hj => by rw [World.frozen?_setCell]; exact hf j hj⟩ <;>
    (rw [World.cell?_setCell_other w _ _ _ (fun h => by injection h with h1 _ _; exact hne (by first | exact h1 | exact h1.symm))]; assumption)
theorem FdAt.set0 {w : World} {g : Nat} {f : Fd} (h : FdAt w g f) (x : Bool) : FdAt (w.setCell ⟨g, 0, none⟩ (.bool x)) g { f with time := x } := by
  obtain ⟨⟨c0, c1, c2, c3, c4, c5, c6, c7, c8, c9⟩, hf⟩ := h
  refine ⟨⟨World.cell?_setCell_same w _ _ c0, ?_, ?_, ?_, ?_, ?_, ?_, ?_, ?_, ?_⟩, fun j hj => by rw [World.frozen?_setCell]; exact hf j hj⟩ <;>
    (rw [World.cell?_setCell_other w _ _ _ (fun h => by injection h with _ h2 _; cases h2)]; assumption)

theorem FdAt.set1 {w : World} {g : Nat} {f : Fd} (h : FdAt w g f) (x : Bool) : FdAt (w.setCell ⟨g, 1, none⟩ (.bool x)) g { f with day := x } := by
  obtain ⟨⟨c0, c1, c2, c3, c4, c5, c6, c7, c8, c9⟩, hf⟩ := h
  refine ⟨⟨?_, World.cell?_setCell_same w _ _ c1, ?_, ?_, ?_, ?_, ?_, ?_, ?_, ?_⟩, fun j hj => by rw [World.frozen?_setCell]; exact hf j hj⟩ <;>
    (rw [World.cell?_setCell_other w _ _ _ (fun h => by injection h with _ h2 _; cases h2)]; assumption)

theorem FdAt.set2 {w : World} {g : Nat} {f : Fd} (h : FdAt w g f) (x : Bool) : FdAt (w.setCell ⟨g, 2, none⟩ (.bool x)) g { f with month := x } := by
  obtain ⟨⟨c0, c1, c2, c3, c4, c5, c6, c7, c8, c9⟩, hf⟩ := h
  refine ⟨⟨?_, ?_, World.cell?_setCell_same w _ _ c2, ?_, ?_, ?_, ?_, ?_, ?_, ?_⟩, fun j hj => by rw [World.frozen?_setCell]; exact hf j hj⟩ <;>
    (rw [World.cell?_setCell_other w _ _ _ (fun h => by injection h with _ h2 _; cases h2)]; assumption)

theorem FdAt.set3 {w : World} {g : Nat} {f : Fd} (h : FdAt w g f) (x : Bool) : FdAt (w.setCell ⟨g, 3, none⟩ (.bool x)) g { f with year := x } := by
  obtain ⟨⟨c0, c1, c2, c3, c4, c5, c6, c7, c8, c9⟩, hf⟩ := h
  refine ⟨⟨?_, ?_, ?_, World.cell?_setCell_same w _ _ c3, ?_, ?_, ?_, ?_, ?_, ?_⟩, fun j hj => by rw [World.frozen?_setCell]; exact hf j hj⟩ <;>
    (rw [World.cell?_setCell_other w _ _ _ (fun h => by injection h with _ h2 _; cases h2)]; assumption)

theorem FdAt.set4 {w : World} {g : Nat} {f : Fd} (h : FdAt w g f) (x : Int) : FdAt (w.setCell ⟨g, 4, none⟩ (.int .i64 x)) g { f with Y := x } := by
  obtain ⟨⟨c0, c1, c2, c3, c4, c5, c6, c7, c8, c9⟩, hf⟩ := h
  refine ⟨⟨?_, ?_, ?_, ?_, World.cell?_setCell_same w _ _ c4, ?_, ?_, ?_, ?_, ?_⟩, fun j hj => by rw [World.frozen?_setCell]; exact hf j hj⟩ <;>
    (rw [World.cell?_setCell_other w _ _ _ (fun h => by injection h with _ h2 _; cases h2)]; assumption)

theorem FdAt.set5 {w : World} {g : Nat} {f : Fd} (h : FdAt w g f) (x : Int) : FdAt (w.setCell ⟨g, 5, none⟩ (.int .i64 x)) g { f with M := x } := by
  obtain ⟨⟨c0, c1, c2, c3, c4, c5, c6, c7, c8, c9⟩, hf⟩ := h
  refine ⟨⟨?_, ?_, ?_, ?_, ?_, World.cell?_setCell_same w _ _ c5, ?_, ?_, ?_, ?_⟩, fun j hj => by rw [World.frozen?_setCell]; exact hf j hj⟩ <;>
    (rw [World.cell?_setCell_other w _ _ _ (fun h => by injection h with _ h2 _; cases h2)]; assumption)

theorem FdAt.set6 {w : World} {g : Nat} {f : Fd} (h : FdAt w g f) (x : Int) : FdAt (w.setCell ⟨g, 6, none⟩ (.int .i64 x)) g { f with D := x } := by
  obtain ⟨⟨c0, c1, c2, c3, c4, c5, c6, c7, c8, c9⟩, hf⟩ := h
  refine ⟨⟨?_, ?_, ?_, ?_, ?_, ?_, World.cell?_setCell_same w _ _ c6, ?_, ?_, ?_⟩, fun j hj => by rw [World.frozen?_setCell]; exact hf j hj⟩ <;>
    (rw [World.cell?_setCell_other w _ _ _ (fun h => by injection h with _ h2 _; cases h2)]; assumption)

theorem FdAt.set7 {w : World} {g : Nat} {f : Fd} (h : FdAt w g f) (x : Int) : FdAt (w.setCell ⟨g, 7, none⟩ (.int .i64 x)) g { f with h := x } := by
  obtain ⟨⟨c0, c1, c2, c3, c4, c5, c6, c7, c8, c9⟩, hf⟩ := h
  refine ⟨⟨?_, ?_, ?_, ?_, ?_, ?_, ?_, World.cell?_setCell_same w _ _ c7, ?_, ?_⟩, fun j hj => by rw [World.frozen?_setCell]; exact hf j hj⟩ <;>
    (rw [World.cell?_setCell_other w _ _ _ (fun h => by injection h with _ h2 _; cases h2)]; assumption)

theorem FdAt.set8 {w : World} {g : Nat} {f : Fd} (h : FdAt w g f) (x : Int) : FdAt (w.setCell ⟨g, 8, none⟩ (.int .i64 x)) g { f with i := x } := by
  obtain ⟨⟨c0, c1, c2, c3, c4, c5, c6, c7, c8, c9⟩, hf⟩ := h
  refine ⟨⟨?_, ?_, ?_, ?_, ?_, ?_, ?_, ?_, World.cell?_setCell_same w _ _ c8, ?_⟩, fun j hj => by rw [World.frozen?_setCell]; exact hf j hj⟩ <;>
    (rw [World.cell?_setCell_other w _ _ _ (fun h => by injection h with _ h2 _; cases h2)]; assumption)

theorem FdAt.set9 {w : World} {g : Nat} {f : Fd} (h : FdAt w g f) (x : Int) : FdAt (w.setCell ⟨g, 9, none⟩ (.int .i64 x)) g { f with s := x } := by
  obtain ⟨⟨c0, c1, c2, c3, c4, c5, c6, c7, c8, c9⟩, hf⟩ := h
  refine ⟨⟨?_, ?_, ?_, ?_, ?_, ?_, ?_, ?_, ?_, World.cell?_setCell_same w _ _ c9⟩, fun j hj => by rw [World.frozen?_setCell]; exact hf j hj⟩ <;>
    (rw [World.cell?_setCell_other w _ _ _ (fun h => by injection h with _ h2 _; cases h2)]; assumption)

theorem FdAt.put {w : World} {g : Nat} {ft fd fm fy gt gd gm gy : Bool} {fY fM fD fh fi fs gY gM gD gh gi gs : Int} (h : FdAt w g ⟨ft, fd, fm, fy, fY, fM, fD, fh, fi, fs⟩) :
    FdAt ((((((((((w.setCell ⟨g, 0, none⟩ (.bool gt)).setCell ⟨g, 1, none⟩ (.bool gd)).setCell ⟨g, 2, none⟩ (.bool gm)).setCell ⟨g, 3, none⟩ (.bool gy)).setCell ⟨g, 4, none⟩ (.int .i64 gY)).setCell ⟨g, 5, none⟩ (.int .i64 gM)).setCell ⟨g, 6, none⟩ (.int .i64 gD)).setCell ⟨g, 7, none⟩ (.int .i64 gh)).setCell ⟨g, 8, none⟩ (.int .i64 gi)).setCell ⟨g, 9, none⟩ (.int .i64 gs)) g ⟨gt, gd, gm, gy, gY, gM, gD, gh, gi, gs⟩ := by
  have h0 : FdAt (w.setCell ⟨g, 0, none⟩ (.bool gt)) g ⟨gt, fd, fm, fy, fY, fM, fD, fh, fi, fs⟩ := h.set0 gt
  have h1 : FdAt ((w.setCell ⟨g, 0, none⟩ (.bool gt)).setCell ⟨g, 1, none⟩ (.bool gd)) g ⟨gt, gd, fm, fy, fY, fM, fD, fh, fi, fs⟩ := h0.set1 gd
  have h2 : FdAt (((w.setCell ⟨g, 0, none⟩ (.bool gt)).setCell ⟨g, 1, none⟩ (.bool gd)).setCell ⟨g, 2, none⟩ (.bool gm)) g ⟨gt, gd, gm, fy, fY, fM, fD, fh, fi, fs⟩ := h1.set2 gm
  have h3 : FdAt ((((w.setCell ⟨g, 0, none⟩ (.bool gt)).setCell ⟨g, 1, none⟩ (.bool gd)).setCell ⟨g, 2, none⟩ (.bool gm)).setCell ⟨g, 3, none⟩ (.bool gy)) g ⟨gt, gd, gm, gy, fY, fM, fD, fh, fi, fs⟩ := h2.set3 gy
  have h4 : FdAt (((((w.setCell ⟨g, 0, none⟩ (.bool gt)).setCell ⟨g, 1, none⟩ (.bool gd)).setCell ⟨g, 2, none⟩ (.bool gm)).setCell ⟨g, 3, none⟩ (.bool gy)).setCell ⟨g, 4, none⟩ (.int .i64 gY)) g ⟨gt, gd, gm, gy, gY, fM, fD, fh, fi, fs⟩ := h3.set4 gY
  have h5 : FdAt ((((((w.setCell ⟨g, 0, none⟩ (.bool gt)).setCell ⟨g, 1, none⟩ (.bool gd)).setCell ⟨g, 2, none⟩ (.bool gm)).setCell ⟨g, 3, none⟩ (.bool gy)).setCell ⟨g, 4, none⟩ (.int .i64 gY)).setCell ⟨g, 5, none⟩ (.int .i64 gM)) g ⟨gt, gd, gm, gy, gY, gM, fD, fh, fi, fs⟩ := h4.set5 gM
  have h6 : FdAt (((((((w.setCell ⟨g, 0, none⟩ (.bool gt)).setCell ⟨g, 1, none⟩ (.bool gd)).setCell ⟨g, 2, none⟩ (.bool gm)).setCell ⟨g, 3, none⟩ (.bool gy)).setCell ⟨g, 4, none⟩ (.int .i64 gY)).setCell ⟨g, 5, none⟩ (.int .i64 gM)).setCell ⟨g, 6, none⟩ (.int .i64 gD)) g ⟨gt, gd, gm, gy, gY, gM, gD, fh, fi, fs⟩ := h5.set6 gD
  have h7 : FdAt ((((((((w.setCell ⟨g, 0, none⟩ (.bool gt)).setCell ⟨g, 1, none⟩ (.bool gd)).setCell ⟨g, 2, none⟩ (.bool gm)).setCell ⟨g, 3, none⟩ (.bool gy)).setCell ⟨g, 4, none⟩ (.int .i64 gY)).setCell ⟨g, 5, none⟩ (.int .i64 gM)).setCell ⟨g, 6, none⟩ (.int .i64 gD)).setCell ⟨g, 7, none⟩ (.int .i64 gh)) g ⟨gt, gd, gm, gy, gY, gM, gD, gh, fi, fs⟩ := h6.set7 gh
  have h8 : FdAt (((((((((w.setCell ⟨g, 0, none⟩ (.bool gt)).setCell ⟨g, 1, none⟩ (.bool gd)).setCell ⟨g, 2, none⟩ (.bool gm)).setCell ⟨g, 3, none⟩ (.bool gy)).setCell ⟨g, 4, none⟩ (.int .i64 gY)).setCell ⟨g, 5, none⟩ (.int .i64 gM)).setCell ⟨g, 6, none⟩ (.int .i64 gD)).setCell ⟨g, 7, none⟩ (.int .i64 gh)).setCell ⟨g, 8, none⟩ (.int .i64 gi)) g ⟨gt, gd, gm, gy, gY, gM, gD, gh, gi, fs⟩ := h7.set8 gi
  have h9 : FdAt ((((((((((w.setCell ⟨g, 0, none⟩ (.bool gt)).setCell ⟨g, 1, none⟩ (.bool gd)).setCell ⟨g, 2, none⟩ (.bool gm)).setCell ⟨g, 3, none⟩ (.bool gy)).setCell ⟨g, 4, none⟩ (.int .i64 gY)).setCell ⟨g, 5, none⟩ (.int .i64 gM)).setCell ⟨g, 6, none⟩ (.int .i64 gD)).setCell ⟨g, 7, none⟩ (.int .i64 gh)).setCell ⟨g, 8, none⟩ (.int .i64 gi)).setCell ⟨g, 9, none⟩ (.int .i64 gs)) g ⟨gt, gd, gm, gy, gY, gM, gD, gh, gi, gs⟩ := h8.set9 gs
  exact h9
end Go.Proofs.YtmmkokomffclmaaDoor
