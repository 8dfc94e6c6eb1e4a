/-
  Table of package crc: a contract.
-/
import Derived.Test.YtbgombgcjfemmaaCrcEntry
import Derived.Deep.RegionHeld3
namespace Go.Proofs.Ytbgombgcjfemmaa
open Go.RowKit
set_option linter.unusedVariables false

/-- Block g: a table whose k first entries are written. -/
def TabRow (w : World) (g k : Nat) : Prop :=
  (∀ j, j < k → w.cell? ⟨g, j, none⟩ = some (.int .u32 (crcN 8 j : Int))) ∧ (∀ j, j < 256 → ∃ v, w.cell? ⟨g, j, none⟩ = some v) ∧ (∀ j, j < 256 → w.frozen? ⟨g, j, none⟩ = false)

theorem TabRow.new (w : World) (t : TypeId) : TabRow (w.alloc (.cells tabZ t)) w.heap.size 0 := by
  refine ⟨fun j hj => by omega, fun j hj => ?_, fun j hj => by simp⟩
  have := cell_of_row (w.alloc (.cells tabZ t)) w.heap.size j tabZ t (0, 0) (heap_alloc_new w _)
  rw [this, Array.getElem?_eq_getElem (by rw [tabZ_size]; omega)]
  exact ⟨_, rfl⟩

theorem TabRow.alloc {w : World} {g k : Nat} (h : TabRow w g k) (o : Obj) : TabRow (w.alloc o) g k := by
  have hlt : g < w.heap.size := by
    obtain ⟨v, hv⟩ := h.2.1 0 (by omega)
    exact World.block_lt_of_cell? w ⟨g, 0, none⟩ hv
  have hb : Below w.heap.size w (w.alloc o) := (Below.refl _ _).alloc (Nat.le_refl _) _
  refine ⟨fun j hj => ?_, fun j hj => ?_, fun j hj => ?_⟩
  · rw [hb.cell (p := ⟨g, j, none⟩) hlt]; exact h.1 j hj
  · rw [hb.cell (p := ⟨g, j, none⟩) hlt]; exact h.2.1 j hj
  · rw [hb.frozen (p := ⟨g, j, none⟩) hlt]; exact h.2.2 j hj

theorem TabRow.set {w : World} {g k : Nat} (h : TabRow w g k) (hk : k < 256) (v : Int) (hv : v = (crcN 8 k : Int)) : TabRow (w.setCell ⟨g, k, none⟩ (.int .u32 v)) g (k + 1) := by
  subst hv
  obtain ⟨v0, hv0⟩ := h.2.1 k hk
  refine ⟨fun j hj => ?_, fun j hj => ?_, fun j hj => ?_⟩
  · by_cases e : j = k
    · subst e
      rw [World.cell?_setCell_same w _ _ hv0]
    · rw [World.cell?_setCell_other w _ _ _ (fun h => e (by injection h; omega))]
      exact h.1 j (by omega)
  · by_cases e : j = k
    · subst e
      exact ⟨_, World.cell?_setCell_same w _ _ hv0⟩
    · rw [World.cell?_setCell_other w _ _ _ (fun h => e (by injection h; omega))]
      exact h.2.1 j hj
  · rw [World.frozen?_setCell]
    exact h.2.2 j hj

theorem TabRow.other {w : World} {g g' k o : Nat} (h : TabRow w g k) (hne : g ≠ g') (v : Value) : TabRow (w.setCell ⟨g', o, none⟩ v) g k := by
  refine ⟨fun j hj => ?_, fun j hj => ?_, fun j hj => ?_⟩
  · rw [World.cell?_setCell_other w _ _ _ (fun h => hne (by injection h; omega))]; exact h.1 j hj
  · rw [World.cell?_setCell_other w _ _ _ (fun h => hne (by injection h; omega))]; exact h.2.1 j hj
  · rw [World.frozen?_setCell]; exact h.2.2 j hj

theorem TabRow.range {w : World} {g : Nat} (h : TabRow w g 256) : w.rangeAt g 0 tabL := by
  intro j v hv
  have hj : j < 256 := by
    have := (List.getElem?_eq_some_iff.1 hv).1
    rw [tabL_len] at this
    exact this
  rw [tabL_at j hj] at hv
  rw [Nat.zero_add, h.1 j hj, hv]

theorem TabRow.store {w : World} {g k : Nat} (h : TabRow w g k) : Sem.run Try.prog (storeCells ⟨g, 0, none⟩ tabL) w = .ok () (w.setCells g 0 tabL) := by
  have h1 := run_storeCells_cells (P := Try.prog) g 0 tabL 0 w (fun j hj => by
    rw [tabL_len] at hj
    obtain ⟨v, hv⟩ := h.2.1 j hj
    rw [show 0 + 0 + j = j by omega, hv]
    rfl) (fun j hj => by
    rw [tabL_len] at hj
    rw [show 0 + 0 + j = j by omega]
    exact h.2.2 j hj) tabL_one
  exact h1

theorem TabRow.stored {w : World} {g k : Nat} (h : TabRow w g k) : Sem.run Try.prog (loadVar 23 ⟨g, 0, none⟩) (w.setCells g 0 tabL) = .ok (.agg tabL.toArray) (w.setCells g 0 tabL) := by
  refine run_loadVar_mid _ g 0 23 tabL _ (fun j v hv => ?_) Try.underlying23 rfl (by rw [size256, tabL_len])
  have hj := (List.getElem?_eq_some_iff.1 hv).1
  have h1 := World.cell?_setCells_in g tabL 0 w (fun i hi => by
    rw [tabL_len] at hi
    obtain ⟨v, hv⟩ := h.2.1 i hi
    rw [Nat.zero_add, hv]
    rfl) j hj
  rw [h1]
  exact hv.symm ▸ (List.getElem?_eq_getElem hj).symm

theorem size256L : (Try.prog.info? 23).map (·.size) = some tabL.length := by rw [size256, tabL_len]
theorem size256A : (Try.prog.info? 23).map (·.size) = some tabL.toArray.size := by rw [size256, tabA_size]
theorem tabA_one : tabL.toArray.all (·.oneCell') = true := by
  rw [Array.all_eq_true_iff_forall_mem]
  intro v hv
  exact tabL_one v (by simpa using hv)
theorem TabRow.there {w : World} {g k : Nat} (h : TabRow w g k) : w.there g 0 tabL.toArray.size := by
  intro j hj
  rw [tabA_size] at hj
  obtain ⟨v, hv⟩ := h.2.1 j hj
  rw [Nat.zero_add, hv]
  exact ⟨rfl, h.2.2 j hj⟩

/-- What Table holds. -/
def TableAt (w0 : World) (g0 g1 : Nat) (gk : Nat) (i : Value) (wr : World) : Prop := ∃ k : Nat, k + gk = 256 ∧ i = .int .i64 (k : Int) ∧ TabRow wr g0 0 ∧ TabRow wr g1 k ∧ Below w0.heap.size w0 wr

set_option maxRecDepth 100000 in
set_option maxHeartbeats 800000 in
theorem table_any (w : World) : Calls Try.prog 10 #[] w fun e w' => e = .returned (.agg tabL.toArray) ∧ Below w.heap.size w w' := by
  have hz := zero256
  go_enter Try.func10, Try.ntmps10
  go_wp2
  clear hz
  have HR0 := (TabRow.new w 23).alloc (.cells tabZ 23)
  have HR1 := TabRow.new (w.alloc (.cells tabZ 23)) 23
  have HB : Below w.heap.size w ((w.alloc (.cells tabZ 23)).alloc (.cells tabZ 23)) := ((Below.refl _ _).alloc (Nat.le_refl _) _).alloc (by simp) _
  rw [show (w.alloc (.cells tabZ 23)).heap.size = w.heap.size + 1 by simp] at HR1
  go_loopg [3] 256 (fun gk i wr => TableAt w w.heap.size (w.heap.size + 1) gk i wr)
  case atStart => exact ⟨0, by omega, rfl, HR0, HR1, HB⟩
  case round =>
    clear HR0 HR1 HB
    obtain ⟨k, hk, rfl, hr0, hr1, hbe⟩ := hrel
    by_cases hlt : k < 256
    · obtain ⟨v0, c0⟩ := hr1.2.1 k hlt
      have f0 := hr1.2.2 k hlt
      have HR := Lib.hid (hr1.set hlt _ rfl)
      have HR0 := Lib.hid (hr0.other (g' := w.heap.size + 1) (o := k) (by omega) (.int .u32 (crcN 8 k : Int)))
      have HB := hbe.setCell (p := ⟨w.heap.size + 1, k, none⟩) (by show _ ≤ w.heap.size + 1; omega) (.int .u32 (crcN 8 k : Int))
      clear hr0 hr1 hbe
      go_wp2_with fail
      refine (at_entry (a := k) _ rfl hlt rfl).mono ?_
      rintro _ w1 ⟨rfl, rfl⟩
      generalize crcN 8 k = y at *
      go_wp2
      go_roundg (gk - 1)
      case measure => omega
      case rel => exact ⟨k + 1, by omega, by go_num, HR0.out, HR.out, HB⟩
    · have e : k = 256 := by omega
      subst e
      have hl := hr1.range
      have hs := hr0.there
      have hl2 := hr0.stored
      have HB := setCells_below w.heap.size (Nat.le_refl _) tabL 0 _ hbe
      clear hr0 hr1
      go_wp2_with (first
        | with_reducible refine wpList_load_mid rfl 23 (.tmp 1) rfl (w.heap.size + 1) 0 rfl tabL _ hl Try.underlying23 rfl size256L ?_
        | with_reducible refine wpList_store_mid rfl 23 (.tmp 0) (.tmp 12) rfl w.heap.size 0 tabL.toArray rfl rfl hs size256A tabA_one ?_)
      exact bodyPost_ret (v := .agg tabL.toArray) (by simp [results, Try.results10, Act.put, asAddr, hl2]) rfl ⟨rfl, HB⟩
end Go.Proofs.Ytbgombgcjfemmaa
