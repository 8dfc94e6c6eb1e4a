/-
  A variable of type [256]uint32 that holds the table: its block, its cells.
-/
import Derived.Test.YtbgombgcjfemmaaCrcRef
import Derived.Deep.MidRow
namespace Go.Proofs.Ytbgombgcjfemmaa
open Go.RowKit
set_option linter.unusedVariables false

theorem xor_u8 (a b : Nat) (ha : a < 256) (hb : b < 256) : bits .xor .u8 (a : Int) (b : Int) = ((a ^^^ b : Nat) : Int) := by
  have hx : a ^^^ b < 2 ^ 8 := Nat.xor_lt_two_pow ha hb
  have h1 : (BitVec.ofInt 8 (a : Int)).toNat = a := by
    rw [BitVec.ofInt_natCast, BitVec.toNat_ofNat]; exact Nat.mod_eq_of_lt ha
  have h2 : (BitVec.ofInt 8 (b : Int)).toNat = b := by
    rw [BitVec.ofInt_natCast, BitVec.toNat_ofNat]; exact Nat.mod_eq_of_lt hb
  show IntKind.u8.wrap ((BitVec.ofInt 8 (a : Int) ^^^ BitVec.ofInt 8 (b : Int)).toNat : Int) = _
  rw [BitVec.toNat_xor, h1, h2, IntKind.wrap_u8]
  omega

theorem xor_u32 (a b : Nat) (ha : a < 4294967296) (hb : b < 4294967296) : bits .xor .u32 (a : Int) (b : Int) = ((a ^^^ b : Nat) : Int) := by
  have hx : a ^^^ b < 2 ^ 32 := Nat.xor_lt_two_pow ha hb
  have h1 : (BitVec.ofInt 32 (a : Int)).toNat = a := by
    rw [BitVec.ofInt_natCast, BitVec.toNat_ofNat]; exact Nat.mod_eq_of_lt ha
  have h2 : (BitVec.ofInt 32 (b : Int)).toNat = b := by
    rw [BitVec.ofInt_natCast, BitVec.toNat_ofNat]; exact Nat.mod_eq_of_lt hb
  show IntKind.u32.wrap ((BitVec.ofInt 32 (a : Int) ^^^ BitVec.ofInt 32 (b : Int)).toNat : Int) = _
  rw [BitVec.toNat_xor, h1, h2, IntKind.wrap_u32]
  omega

/-- The table's entries as cells. -/
def tabL : List Value := (List.range 256).map fun k => .int .u32 (crcN 8 k : Int)
def tabZ : Array Value := Array.replicate 256 (.int .u32 0)

theorem tabL_len : tabL.length = 256 := by unfold tabL; simp
theorem tabA_size : tabL.toArray.size = 256 := tabL_len
theorem tabL_at (k : Nat) (h : k < 256) : tabL[k]? = some (.int .u32 (crcN 8 k : Int)) := by
  unfold tabL
  rw [List.getElem?_map, List.getElem?_range h]
  rfl
theorem tabL_one : ∀ v ∈ tabL, v.oneCell' = true := by
  intro v hv
  unfold tabL at hv
  obtain ⟨k, _, rfl⟩ := List.mem_map.1 hv
  rfl
theorem tabZ_size : tabZ.size = 256 := by unfold tabZ; simp

theorem Try.info256 : (Try.prog.info? 23).map (fun i => (i.zero, i.size)) = some (some (.agg tabZ), 256) := by kernel_rfl

theorem zero256 (W : World) : Sem.run Try.prog (zeroValue 23) W = .ok (.agg tabZ) W := by
  have h := Try.info256
  cases hq : Try.prog.info? 23 with
  | none => rw [hq] at h; cases h
  | some i =>
    rw [hq] at h
    have hz : i.zero = some (.agg tabZ) := by
      have := congrArg (fun x => x.map (·.1)) h
      simpa using this
    simp [zeroValue, typeInfo, hq, hz]

theorem size256 : (Try.prog.info? 23).map (·.size) = some 256 := by
  have h := congrArg (fun x => x.map (·.2)) Try.info256
  simpa using h

/-- The world with the table in a new variable. -/
def tabW (W : World) : World := (W.alloc (.cells tabZ 23)).setCells W.heap.size 0 tabL

theorem there256 (W : World) (t : TypeId) : (W.alloc (.cells tabZ t)).there W.heap.size 0 256 := by
  intro j hj
  refine ⟨?_, by simp⟩
  have := cell_of_row (W.alloc (.cells tabZ t)) W.heap.size (0 + j) tabZ t (0, 0) (heap_alloc_new W _)
  rw [this, Array.getElem?_eq_getElem (by rw [tabZ_size]; omega)]
  rfl

theorem store256 (W : World) : Sem.run Try.prog (storeCells ⟨W.heap.size, 0, none⟩ tabL) (W.alloc (.cells tabZ 23)) = .ok () (tabW W) := by
  have h := run_storeCells_cells (P := Try.prog) W.heap.size 0 tabL 0 (W.alloc (.cells tabZ 23)) (fun j hj => by rw [tabL_len] at hj; rw [Nat.add_zero]; exact (there256 W _ j hj).1) (fun j hj => by simp) tabL_one
  rw [Nat.add_zero] at h
  exact h

theorem setCells_size (b : Nat) : ∀ (l : List Value) (o : Nat) (w : World), (w.setCells b o l).heap.size = w.heap.size
  | [], o, w => rfl
  | v :: r, o, w => by rw [World.setCells, setCells_size b r, World.size_setCell]

theorem setCells_below {B : Nat} {w0 : World} (b : Nat) (hb : B ≤ b) : ∀ (l : List Value) (o : Nat) (w : World), Below B w0 w → Below B w0 (w.setCells b o l)
  | [], o, w, h => h
  | v :: r, o, w, h => setCells_below b hb r (o + 1) _ (h.setCell hb v)

theorem tabW_size (W : World) : (tabW W).heap.size = W.heap.size + 1 := by
  unfold tabW
  rw [setCells_size]
  simp

theorem tabW_below (W : World) : Below W.heap.size W (tabW W) := setCells_below _ (Nat.le_refl _) _ _ _ ((Below.refl _ _).alloc (Nat.le_refl _) _)

theorem tabW_cell (W : World) (k : Nat) (h : k < 256) : (tabW W).cell? ⟨W.heap.size, k, none⟩ = some (.int .u32 (crcN 8 k : Int)) := by
  have h1 := World.cell?_setCells_in W.heap.size tabL 0 (W.alloc (.cells tabZ 23)) (fun j hj => (there256 W _ j (by rw [tabL_len] at hj; exact hj)).1) k (by rw [tabL_len]; exact h)
  rw [Nat.zero_add] at h1
  unfold tabW
  rw [h1, ← tabL_at k h, List.getElem?_eq_getElem (by rw [tabL_len]; exact h)]

theorem tabX_cell (W : World) (k : Nat) (h : k < 256) (x : Ext (tabW W)) : x.world.cell? ⟨W.heap.size, k, none⟩ = some (.int .u32 (crcN 8 k : Int)) := by
  rw [x.cell _ (by rw [tabW_size]; exact Nat.lt_succ_self _)]
  exact tabW_cell W k h
end Go.Proofs.Ytbgombgcjfemmaa
