/-
  Slices of texts: what they hold; one that came in as an argument.
-/
import Derived.Test.YtkpdejnhjbojpaaDoorBase
import Derived.SliceStrings
import Derived.SizedLaws
import Derived.Carry
namespace Go.Proofs.YtkpdejnhjbojpaaDoor
open Go.RowKit Go.ChangeShapes Go.WideShapes
set_option linter.unusedVariables false

/-- The texts that a slice of texts holds. -/
def StrsAt (w : World) (v : Value) (l : List ByteArray) : Prop :=
  (v = .slice none 0 0 ∧ l = []) ∨ ∃ ad cap, v = .slice (some ad) l.length cap ∧ l.length ≤ cap ∧ ∀ j (hj : j < l.length), w.cell? (ad.add j) = some (.string l[j])

theorem StrsAt.nil (w : World) : StrsAt w (.slice none 0 0) [] := .inl ⟨rfl, rfl⟩

theorem StrsAt.keep {w w' : World} {v : Value} {l : List ByteArray} (h : StrsAt w v l) (hb : Below w.heap.size w w') : StrsAt w' v l := by
  rcases h with h | ⟨ad, cap, rfl, hle, hc⟩
  · exact .inl h
  · refine .inr ⟨ad, cap, rfl, hle, fun j hj => ?_⟩
    have h1 := hc j hj
    have hlt := World.block_lt_of_cell? w _ h1
    rw [hb.cell hlt]
    exact h1

theorem strs_one (W : World) (s : ByteArray) : StrsAt (W.alloc (.cells #[.string s] 9)) (.slice (some ⟨W.heap.size, 0, none⟩) 1 1) [s] := by
  refine .inr ⟨⟨W.heap.size, 0, none⟩, 1, rfl, by simp, fun j hj => ?_⟩
  have : j = 0 := by simpa using hj
  subst this
  simp [Addr.add]

theorem strs_two (W : World) (s t : ByteArray) : StrsAt (W.alloc (.cells #[.string s, .string t] 9)) (.slice (some ⟨W.heap.size, 0, none⟩) 2 2) [s, t] := by
  refine .inr ⟨⟨W.heap.size, 0, none⟩, 2, rfl, by simp, fun j hj => ?_⟩
  have : j = 0 ∨ j = 1 := by
    have : j < 2 := by simpa using hj
    omega
  rcases this with rfl | rfl <;> simp [Addr.add]

/-- All of them, one behind the other. -/
def catB (l : List ByteArray) : ByteArray := l.foldl (· ++ ·) .empty

theorem cat_foldl : ∀ (l : List ByteArray) (a : ByteArray), (l.foldl (· ++ ·) a).data.toList = a.data.toList ++ l.flatMap (·.data.toList)
  | [], a => by simp
  | s :: r, a => by
    rw [List.foldl_cons, cat_foldl r (a ++ s), app_list]
    simp

theorem cat_list (l : List ByteArray) : (catB l).data.toList = l.flatMap (·.data.toList) := by
  unfold catB
  rw [cat_foldl]
  rfl

theorem cat_one (s : ByteArray) : catB [s] = s := by
  apply ba_ext
  rw [cat_list]
  simp

theorem cat_two (s t : ByteArray) : catB [s, t] = s ++ t := by
  apply ba_ext
  rw [cat_list, app_list]
  simp

theorem cat_snoc (l : List ByteArray) (s : ByteArray) : catB (l ++ [s]) = catB l ++ s := by
  unfold catB
  rw [List.foldl_append]
  rfl

theorem Tryd.cellsStr : Tryd.prog.cellsOf 9 = 1 := by kernel_rfl
theorem Tryd.bytesStr : Tryd.prog.bytesOf 9 = 16 := by kernel_rfl
theorem Tryd.laidOut : laidOutB Tryd.prog = true := by kernel_rfl

theorem weights_strs {H : Type} : ∀ (l : List ByteArray) (s : ByteArray), s ∈ l → s.data.toList.length ∈ DataW.weightsAll Tryd.prog 9 (strs (H := H) l)
  | t :: r, s, h => by
    rcases List.mem_cons.1 h with rfl | h
    · simp [strs, DataW.weightsAll, DataW.weights]
    · have := weights_strs (H := H) r s h
      simp only [strs, List.map_cons, DataW.weightsAll, List.mem_append] at *
      exact .inr this

/-- An argument that is a slice of texts. -/
theorem strs_opened {H : Type} {enc : TypeId × Value → H} {W : World} {v : Value} {d : DataW H} {ps : List MemPlace} {ts : List TypeId} {ds : List (DataW H)} {j : Nat}
    (h : DataW.Trod enc Tryd.prog W 0 (fun _ => true) true 53 v d ps) (hv : ∃ a len cap, v = .slice a len cap)
    (hsz : (DataW.weightsEach Tryd.prog ts ds).all (· ≤ reachBytes) = true) (ht : ts[j]? = some 53) (hd : ds[j]? = some d) :
    ∃ ss : List ByteArray, StrsAt W v ss ∧ ss.length * 16 ≤ 140737488351232 ∧ ∀ s ∈ ss, s.size ≤ 140737488351232 := by
  obtain ⟨a0, len, cap, rfl⟩ := hv
  obtain ⟨fuel, hf⟩ := h
  rcases open_strings Tryd.underlying53 Tryd.underlying9 Tryd.cellsStr hf with ⟨hcs, hx⟩ | ⟨a, len', cap', ss, hcs, _, hl, hm, hz, hx, hcell, hws⟩
  · simp [Value.cells] at hcs
    obtain ⟨rfl, rfl, rfl⟩ := hcs
    exact ⟨[], StrsAt.nil W, by simp, by simp⟩
  · simp [Value.cells] at hcs
    obtain ⟨rfl, rfl, rfl⟩ := hcs
    simp only [if_true] at hz
    have e : d = .slice (strs (ss.take len)) (strs (ss.drop len)) := congrArg Prod.fst hx
    have hlen : (ss.take len).length = len := by rw [List.length_take]; omega
    have hw : ∀ n ∈ d.weights Tryd.prog 53, n ≤ reachBytes := fun n hn => by
      have := List.all_eq_true.1 hsz _ (DataW.weights_mem_each ht hd n hn)
      simpa using this
    rw [e] at hw
    simp only [DataW.weights, Tryd.underlying53] at hw
    refine ⟨ss.take len, .inr ⟨a, cap, by rw [hlen], by rw [hlen]; exact hl, fun i hi => ?_⟩, ?_, fun s hs => ?_⟩
    · have hi' : i < ss.length := by rw [hlen] at hi; omega
      rw [hcell i hi', List.getElem_take, List.getD_eq_getElem?_getD, List.getElem?_eq_getElem hi']
      rfl
    · have := hw _ (List.mem_cons_self ..)
      rw [Tryd.bytesStr] at this
      simp only [strs, List.length_map, List.length_take, List.length_drop, reachBytes] at this
      rw [hlen]
      omega
    · have := hw _ (List.mem_cons_of_mem _ (List.mem_append_left _ (weights_strs (H := H) _ s hs)))
      unfold reachBytes at this
      rw [list_len] at this
      exact this
end Go.Proofs.YtkpdejnhjbojpaaDoor
