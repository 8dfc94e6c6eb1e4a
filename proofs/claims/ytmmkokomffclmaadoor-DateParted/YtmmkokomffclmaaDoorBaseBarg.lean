/-
  A slice of bytes that came in as an argument: what it holds; string(it).
-/
import Derived.Test.YtmmkokomffclmaaDoorBaseDraw
import Derived.ChangeSlices
import Derived.SizedLaws
import Derived.Carry
import Derived.OpenShut
import Derived.Laws.BytesString
import Derived.Laws.BytesArg
namespace Go.Proofs.YtmmkokomffclmaaDoor
open Go.RowKit Go.ChangeShapes Go.WideShapes
set_option linter.unusedVariables false

/-- The bytes that a slice holds. -/
def BysAt (w : World) (v : Value) (l : List UInt8) : Prop :=
  (v = .slice none 0 0 ∧ l = []) ∨ ∃ ad cap, v = .slice (some ad) l.length cap ∧ l.length ≤ cap ∧ ∀ j (hj : j < l.length), w.cell? (ad.add j) = some (.int .u8 (l[j].toNat : Int))

theorem BysAt.nil (w : World) : BysAt w (.slice none 0 0) [] := .inl ⟨rfl, rfl⟩

theorem BysAt.keep {w w' : World} {v : Value} {l : List UInt8} (h : BysAt w v l) (hb : Below w.heap.size w w') : BysAt w' v l := by
  rcases h with h | ⟨ad, cap, rfl, hle, hc⟩
  · exact .inl h
  · refine .inr ⟨ad, cap, rfl, hle, fun j hj => ?_⟩
    have h1 := hc j hj
    have hlt := World.block_lt_of_cell? w _ h1
    rw [hb.cell hlt]
    exact h1

/-- Its shape, for a walk. -/
theorem BysAt.shape {w : World} {v : Value} {l : List UInt8} (h : BysAt w v l) : ∃ ao n cap, v = .slice ao n cap ∧ n = l.length ∧ ∀ j (hj : j < l.length), ∃ ad, ao = some ad ∧ w.cell? (ad.add j) = some (.int .u8 (l[j].toNat : Int)) := by
  rcases h with ⟨rfl, rfl⟩ | ⟨ad, cap, rfl, _, hc⟩
  · exact ⟨none, 0, 0, rfl, rfl, fun j hj => by cases hj⟩
  · exact ⟨some ad, l.length, cap, rfl, rfl, fun j hj => ⟨ad, rfl, hc j hj⟩⟩

theorem fold_bytes (l : List UInt8) : (l.map fun c => (c.toNat : Int)).foldl (fun r n => r.push (UInt8.ofNat n.toNat)) ByteArray.empty = ⟨l.toArray⟩ := by
  rw [foldl_push_bytes]
  have e : (fun n : Int => UInt8.ofNat n.toNat) ∘ (fun c : UInt8 => (c.toNat : Int)) = id := by
    funext c
    simp
  rw [List.map_map, e, List.map_id]
  apply ByteArray.ext
  simp [ByteArray.empty, ByteArray.emptyWithCapacity]
  rfl

/-- string(v). -/
theorem BysAt.text {w : World} {v : Value} {l : List UInt8} (h : BysAt w v l) : Sem.run Tryd.prog (convert 30 9 v) w = .ok (.string ⟨l.toArray⟩) w := by
  rcases h with ⟨rfl, rfl⟩ | ⟨ad, cap, rfl, _, hc⟩
  · rw [run_convert_bytes_string w 30 9 5 none 0 0 Tryd.underlying30 Tryd.underlying5 Tryd.underlying9]
    rfl
  · rw [run_convert_bytes_string w 30 9 5 (some ad) l.length cap Tryd.underlying30 Tryd.underlying5 Tryd.underlying9]
    rw [run_bytesToString w ad l.length cap (l.map fun c => (c.toNat : Int)) ?_, fold_bytes]
    have e := run_loadCells_list (P := Tryd.prog) w ad ((l.map fun c => (c.toNat : Int)).map (Value.int .u8)) (fun j v hj => by
      rw [List.map_map, List.getElem?_map] at hj
      cases hl : l[j]? with
      | none => rw [hl] at hj; cases hj
      | some c =>
        rw [hl] at hj
        obtain ⟨h1, h2⟩ := List.getElem?_eq_some_iff.1 hl
        have h3 := hc j h1
        rw [h2] at h3
        rw [h3]
        exact hj)
    simpa using e

theorem Tryd.cellsByte : Tryd.prog.cellsOf 5 = 1 := by kernel_rfl
theorem Tryd.bytesByte : Tryd.prog.bytesOf 5 = 1 := by kernel_rfl
theorem Tryd.laidOutY : laidOutB Tryd.prog = true := by kernel_rfl

/-- An argument that is a slice of bytes. -/
theorem bys_opened {H : Type} {enc : TypeId × Value → H} {W : World} {v : Value} {d : DataW H} {ps : List MemPlace} {ts : List TypeId} {ds : List (DataW H)} {j : Nat}
    (h : DataW.Trod enc Tryd.prog W 0 (fun _ => true) true 30 v d ps) (hv : ∃ a len cap, v = .slice a len cap)
    (hsz : (DataW.weightsEach Tryd.prog ts ds).all (· ≤ reachBytes) = true) (ht : ts[j]? = some 30) (hd : ds[j]? = some d) :
    ∃ l : List UInt8, BysAt W v l ∧ l.length ≤ 140737488351232 := by
  obtain ⟨a0, len, cap, rfl⟩ := hv
  obtain ⟨fuel, hf⟩ := h
  rcases open_ints Tryd.underlying30 Tryd.underlying5 Tryd.cellsByte hf with ⟨hcs, hx⟩ | ⟨a, len', cap', zs, hcs, _, hl, hm, hz, hx, hcell, hws⟩
  · simp [Value.cells] at hcs
    obtain ⟨rfl, rfl, rfl⟩ := hcs
    exact ⟨[], BysAt.nil W, by simp⟩
  · simp [Value.cells] at hcs
    obtain ⟨rfl, rfl, rfl⟩ := hcs
    simp only [if_true] at hz
    have e : d = .slice (lits .u8 (zs.take len)) (lits .u8 (zs.drop len)) := congrArg Prod.fst hx
    have hlen : ((zs.take len).map fun n => UInt8.ofNat n.toNat).length = len := by rw [List.length_map, List.length_take]; omega
    have hw := sized_slice hsz ht (by rw [hd, e]) Tryd.underlying30
    refine ⟨(zs.take len).map fun n => UInt8.ofNat n.toNat, .inr ⟨a, cap, by rw [hlen], by rw [hlen]; exact hl, fun i hi => ?_⟩, ?_⟩
    · have hi' : i < zs.length := by rw [hlen] at hi; omega
      have hb := bounds_u8 (hws zs[i] (List.getElem_mem hi'))
      rw [hcell i hi', List.getElem_map, List.getElem_take, List.getD_eq_getElem?_getD, List.getElem?_eq_getElem hi']
      have e2 : ((UInt8.ofNat zs[i].toNat).toNat : Int) = zs[i] := by
        rw [UInt8.toNat_ofNat']
        omega
      simp only [Option.getD_some]
      rw [e2]
    · rw [Tryd.bytesByte] at hw
      simp only [lits, List.length_map, List.length_take, List.length_drop, reachBytes] at hw
      rw [hlen]
      omega
end Go.Proofs.YtmmkokomffclmaaDoor
