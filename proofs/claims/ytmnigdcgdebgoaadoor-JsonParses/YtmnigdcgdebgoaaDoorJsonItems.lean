/-
  An argument that is a slice of the document's items.
-/
import Derived.Test.YtmnigdcgdebgoaaDoorJsonRefS
import Derived.Deep.Slices
import Derived.ChangeSame
import Derived.OpenShut
import Derived.SizedLaws
namespace Go.Proofs.YtmnigdcgdebgoaaDoor
open Go.RowKit Go.ChangeShapes Go.WideShapes Go.Deep
set_option linter.unusedVariables false

theorem Tryd.cellsItR : Tryd.prog.cellsOf 46 = 5 := by kernel_rfl
theorem Tryd.cellsIntI : Tryd.prog.cellsOf 3 = 1 := by kernel_rfl
theorem Tryd.cellsStrI : Tryd.prog.cellsOf 9 = 1 := by kernel_rfl
theorem Tryd.laidOutR : laidOutB Tryd.prog = true := by kernel_rfl

/-- What an int64 is. -/
def int64 (n : Int) : Prop := -9223372036854775808 ≤ n ∧ n ≤ 9223372036854775807
/-- An item that can be. -/
def ItOk (x : It) : Prop := int64 x.depth ∧ int64 x.kind ∧ int64 x.n ∧ x.key.length ≤ 9223372036854775807 ∧ x.text.length ≤ 9223372036854775807

set_option maxRecDepth 100000 in
theorem item_read {H : Type} {enc : TypeId × Value → H} {W : World} {n : Nat} {cs : List Value} {y : DataW H × List MemPlace} (h : DataW.trod enc Tryd.prog W 0 (fun _ => true) true n 46 cs = some y) :
    ∃ x : It, cs = itV x ∧ ItOk x := by
  obtain ⟨xs, m, _, _, hlen, hxs, hf⟩ := DataW.trod_struct Tryd.underlying46 h
  rw [Tryd.cellsItR] at hlen
  have hxs5 : xs.length = 5 := hxs
  match cs, hlen with
  | [c0, c1, c2, c3, c4], _ =>
    match xs, hxs5 with
    | [y0, y1, y2, y3, y4], _ =>
      have f0 := hf 0 _ rfl
      have f1 := hf 1 _ rfl
      have f2 := hf 2 _ rfl
      have f3 := hf 3 _ rfl
      have f4 := hf 4 _ rfl
      have g0 : DataW.trod enc Tryd.prog W 0 (fun _ => true) true m 3 [c0] = some y0 := f0
      have g1 : DataW.trod enc Tryd.prog W 0 (fun _ => true) true m 3 [c1] = some y1 := f1
      have g2 : DataW.trod enc Tryd.prog W 0 (fun _ => true) true m 9 [c2] = some y2 := f2
      have g3 : DataW.trod enc Tryd.prog W 0 (fun _ => true) true m 9 [c3] = some y3 := f3
      have g4 : DataW.trod enc Tryd.prog W 0 (fun _ => true) true m 3 [c4] = some y4 := f4
      obtain ⟨n0, e0, _, w0⟩ := DataW.trod_int Tryd.underlying3 g0
      obtain ⟨n1, e1, _, w1⟩ := DataW.trod_int Tryd.underlying3 g1
      obtain ⟨s2, e2, _, w2⟩ := DataW.trod_string Tryd.underlying9 g2
      obtain ⟨s3, e3, _, w3⟩ := DataW.trod_string Tryd.underlying9 g3
      obtain ⟨n4, e4, _, w4⟩ := DataW.trod_int Tryd.underlying3 g4
      refine ⟨⟨n0, n1, s2.data.toList, s3.data.toList, n4⟩, ?_, bounds_i64 w0, bounds_i64 w1, bounds_i64 w4, ?_, ?_⟩
      · rw [itV_mk, ← List.singleton_inj.1 e0, ← List.singleton_inj.1 e1, ← List.singleton_inj.1 e2, ← List.singleton_inj.1 e3, ← List.singleton_inj.1 e4]
      · show s2.data.toList.length ≤ _
        rw [list_len]
        exact w2
      · show s3.data.toList.length ≤ _
        rw [list_len]
        exact w3

theorem items_opened {H : Type} {enc : TypeId × Value → H} {W : World} {v : Value} {d : DataW H} {ps : List MemPlace}
    (h : DataW.Trod enc Tryd.prog W 0 (fun _ => true) true 22 v d ps) (hv : ∃ a len cap, v = .slice a len cap) :
    ∃ l : List It, ItsAt W v l ∧ l.length ≤ 9223372036854775807 ∧ ∀ x ∈ l, ItOk x := by
  obtain ⟨a0, len, cap, rfl⟩ := hv
  obtain ⟨fuel, hf⟩ := h
  rcases open_slice Tryd.underlying22 hf with ⟨hcs, _⟩ | ⟨a, len', cap', m, n, D, Pl, hcs, _, hl, hm, hmm, _, hi⟩
  · simp [Value.cells] at hcs
    obtain ⟨rfl, rfl, rfl⟩ := hcs
    exact ⟨[], ItsAt.nil W, by simp, by simp⟩
  · simp [Value.cells] at hcs
    obtain ⟨rfl, rfl, rfl⟩ := hcs
    simp only [if_true] at hmm
    subst hmm
    rw [Tryd.cellsItR] at hi
    have hall : ∀ i : Nat, ∃ x : It, i < len → ItOk x ∧ ∀ j u, (itV x)[j]? = some u → W.cell? (a.add (i * 5 + j)) = some u := by
      intro i
      by_cases hil : i < len
      · obtain ⟨cs, hc, ht⟩ := hi i (by omega)
        obtain ⟨x, rfl, hx⟩ := item_read ht
        obtain ⟨_, _, hat⟩ := World.cells?_some hc
        refine ⟨x, fun _ => ⟨hx, fun j u hj => ?_⟩⟩
        have hj5 : j < 5 := by
          have := (List.getElem?_eq_some_iff.1 hj).1
          exact this
        have := hat j hj5
        rw [Go.Deep.add_add] at this
        rw [this]
        exact hj
      · exact ⟨⟨0, 0, [], [], 0⟩, fun h => absurd h hil⟩
    obtain ⟨f, hf⟩ := Classical.axiomOfChoice hall
    have hlen : ((List.range len).map f).length = len := by simp
    refine ⟨(List.range len).map f, .inr ⟨a, _, by rw [hlen], by rw [hlen]; exact hl, fun j u hj => ?_⟩, by rw [hlen]; unfold maxLen at hm; omega, fun x hx => ?_⟩
    · have hjl := (List.getElem?_eq_some_iff.1 hj).1
      rw [itsV_len, hlen] at hjl
      have hi5 : j / 5 < ((List.range len).map f).length := by rw [hlen]; omega
      have e : j = j / 5 * 5 + j % 5 := by omega
      rw [e] at hj ⊢
      rw [itsV_get _ (j / 5) hi5 (j % 5) (by omega)] at hj
      have e2 : ((List.range len).map f)[j / 5] = f (j / 5) := by simp
      rw [e2] at hj
      exact (hf (j / 5) (by rw [hlen] at hi5; exact hi5)).2 _ u hj
    · obtain ⟨i, hi', rfl⟩ := List.mem_map.1 hx
      exact (hf i (List.mem_range.1 hi')).1
end Go.Proofs.YtmnigdcgdebgoaaDoor
