/-
  An address as an argument.
-/
import Derived.Test.YtkpdejnhjbojpaaDoorPatVal
import Derived.Deep.Slices
import Derived.ChangeSame
import Derived.OpenShut
import Derived.SizedLaws
namespace Go.Proofs.YtkpdejnhjbojpaaDoor
open Go.RowKit Go.ChangeShapes Go.WideShapes Go.Deep
set_option linter.unusedVariables false

theorem Tryd.cellsUrl : Tryd.prog.cellsOf 40 = 3 := by kernel_rfl
theorem Tryd.cellsBoolU : Tryd.prog.cellsOf 4 = 1 := by kernel_rfl
theorem Tryd.cellsStrU : Tryd.prog.cellsOf 9 = 1 := by kernel_rfl
theorem Tryd.laidOutU : laidOutB Tryd.prog = true := by kernel_rfl

set_option maxRecDepth 100000 in
theorem url_opened {H : Type} {enc : TypeId × Value → H} {W : World} {v : Value} {base : Nat} {d : DataW H} {ps : List MemPlace}
    (h : DataW.Trod enc Tryd.prog W 0 (fun _ => true) true 40 v d ps) (hv : Value.okWide Tryd.prog W .any base 40 v) : ∃ (s : Bool) (x y : ByteArray), v = urlV s x y ∧ x.size ≤ maxLen ∧ y.size ≤ maxLen := by
  obtain ⟨fuel, h⟩ := h
  have hv' : ∃ cs, v = .agg cs ∧ cs.size = Tryd.prog.cellsOf 40 ∧ Row.okWide Tryd.prog W .any base 40 cs := by
    unfold Value.okWide at hv
    rw [Tryd.underlying40] at hv
    exact hv
  obtain ⟨cs, rfl, hsz, _⟩ := hv'
  obtain ⟨xs, k, _, _, hlen, hxs, hf⟩ := DataW.trod_struct Tryd.underlying40 h
  rw [Tryd.cellsUrl] at hlen
  obtain ⟨l, hl⟩ : ∃ l, l = cs.toList := ⟨_, rfl⟩
  have hcs : cs = l.toArray := by rw [hl]
  subst hcs
  clear hl
  have hlen3 : l.length = 3 := hlen
  have hxs3 : xs.length = 3 := hxs
  match l, hlen3 with
  | [c0, c1, c2], _ =>
    match xs, hxs3 with
    | [y0, y1, y2], _ =>
      have f0 := hf 0 _ rfl
      have f1 := hf 1 _ rfl
      have f2 := hf 2 _ rfl
      have g0 : DataW.trod enc Tryd.prog W 0 (fun _ => true) true k 4 [c0] = some y0 := f0
      have g1 : DataW.trod enc Tryd.prog W 0 (fun _ => true) true k 9 [c1] = some y1 := f1
      have g2 : DataW.trod enc Tryd.prog W 0 (fun _ => true) true k 9 [c2] = some y2 := f2
      obtain ⟨b, e0, _⟩ := DataW.trod_bool Tryd.underlying4 g0
      obtain ⟨x, e1, _, w1⟩ := DataW.trod_string Tryd.underlying9 g1
      obtain ⟨y, e2, _, w2⟩ := DataW.trod_string Tryd.underlying9 g2
      refine ⟨b, x, y, ?_, w1, w2⟩
      obtain rfl := List.singleton_inj.1 e0
      obtain rfl := List.singleton_inj.1 e1
      obtain rfl := List.singleton_inj.1 e2
      rfl
end Go.Proofs.YtkpdejnhjbojpaaDoor
