/-
  A cookie as an argument.
-/
import Derived.Test.YtkpdejnhjbojpaaDoorCkRefG
import Derived.Deep.Slices
import Derived.ChangeSame
import Derived.OpenShut
import Derived.SizedLaws
namespace Go.Proofs.YtkpdejnhjbojpaaDoor
open Go.RowKit Go.ChangeShapes Go.WideShapes Go.Deep
set_option linter.unusedVariables false

theorem Tryd.cellsCk : Tryd.prog.cellsOf 23 = 11 := by kernel_rfl
theorem Tryd.cellsBoolK : Tryd.prog.cellsOf 4 = 1 := by kernel_rfl
theorem Tryd.cellsStrK : Tryd.prog.cellsOf 9 = 1 := by kernel_rfl
theorem Tryd.cellsIntK : Tryd.prog.cellsOf 3 = 1 := by kernel_rfl
theorem Tryd.laidOutK : laidOutB Tryd.prog = true := by kernel_rfl

/-- An int of the machine. -/
def IntOk (n : Int) : Prop := (Lit.int .i64 n).wf = true

set_option maxRecDepth 100000 in
set_option maxHeartbeats 1600000 in
theorem ck_opened {H : Type} {enc : TypeId × Value → H} {W : World} {v : Value} {base : Nat} {d : DataW H} {ps : List MemPlace}
    (h : DataW.Trod enc Tryd.prog W 0 (fun _ => true) true 23 v d ps) (hv : Value.okWide Tryd.prog W .any base 23 v) :
    ∃ c : Ck, v = ckV c ∧ (c.dom.size ≤ maxLen ∧ c.path.size ≤ maxLen ∧ c.name.size ≤ maxLen ∧ c.val.size ≤ maxLen) ∧ (IntOk c.cr ∧ IntOk c.ac ∧ IntOk c.ex ∧ IntOk c.ss) := by
  obtain ⟨fuel, h⟩ := h
  have hv' : ∃ cs, v = .agg cs ∧ cs.size = Tryd.prog.cellsOf 23 ∧ Row.okWide Tryd.prog W .any base 23 cs := by
    unfold Value.okWide at hv
    rw [Tryd.underlying23] at hv
    exact hv
  obtain ⟨cs, rfl, hsz, _⟩ := hv'
  obtain ⟨xs, k, _, _, hlen, hxs, hf⟩ := DataW.trod_struct Tryd.underlying23 h
  rw [Tryd.cellsCk] at hlen
  obtain ⟨l, hl⟩ : ∃ l, l = cs.toList := ⟨_, rfl⟩
  have hcs : cs = l.toArray := by rw [hl]
  subst hcs
  clear hl
  have hlen3 : l.length = 11 := hlen
  have hxs3 : xs.length = 11 := hxs
  match l, hlen3 with
  | [c0, c1, c2, c3, c4, c5, c6, c7, c8, c9, c10], _ =>
    match xs, hxs3 with
    | [y0, y1, y2, y3, y4, y5, y6, y7, y8, y9, y10], _ =>
      have g0 : DataW.trod enc Tryd.prog W 0 (fun _ => true) true k 9 [c0] = some y0 := hf 0 _ rfl
      have g1 : DataW.trod enc Tryd.prog W 0 (fun _ => true) true k 9 [c1] = some y1 := hf 1 _ rfl
      have g2 : DataW.trod enc Tryd.prog W 0 (fun _ => true) true k 9 [c2] = some y2 := hf 2 _ rfl
      have g3 : DataW.trod enc Tryd.prog W 0 (fun _ => true) true k 9 [c3] = some y3 := hf 3 _ rfl
      have g4 : DataW.trod enc Tryd.prog W 0 (fun _ => true) true k 3 [c4] = some y4 := hf 4 _ rfl
      have g5 : DataW.trod enc Tryd.prog W 0 (fun _ => true) true k 3 [c5] = some y5 := hf 5 _ rfl
      have g6 : DataW.trod enc Tryd.prog W 0 (fun _ => true) true k 3 [c6] = some y6 := hf 6 _ rfl
      have g7 : DataW.trod enc Tryd.prog W 0 (fun _ => true) true k 4 [c7] = some y7 := hf 7 _ rfl
      have g8 : DataW.trod enc Tryd.prog W 0 (fun _ => true) true k 4 [c8] = some y8 := hf 8 _ rfl
      have g9 : DataW.trod enc Tryd.prog W 0 (fun _ => true) true k 4 [c9] = some y9 := hf 9 _ rfl
      have g10 : DataW.trod enc Tryd.prog W 0 (fun _ => true) true k 3 [c10] = some y10 := hf 10 _ rfl
      obtain ⟨x0, e0, _, w0⟩ := DataW.trod_string Tryd.underlying9 g0
      obtain ⟨x1, e1, _, w1⟩ := DataW.trod_string Tryd.underlying9 g1
      obtain ⟨x2, e2, _, w2⟩ := DataW.trod_string Tryd.underlying9 g2
      obtain ⟨x3, e3, _, w3⟩ := DataW.trod_string Tryd.underlying9 g3
      obtain ⟨x4, e4, _, w4⟩ := DataW.trod_int Tryd.underlying3 g4
      obtain ⟨x5, e5, _, w5⟩ := DataW.trod_int Tryd.underlying3 g5
      obtain ⟨x6, e6, _, w6⟩ := DataW.trod_int Tryd.underlying3 g6
      obtain ⟨x7, e7, _⟩ := DataW.trod_bool Tryd.underlying4 g7
      obtain ⟨x8, e8, _⟩ := DataW.trod_bool Tryd.underlying4 g8
      obtain ⟨x9, e9, _⟩ := DataW.trod_bool Tryd.underlying4 g9
      obtain ⟨x10, e10, _, w10⟩ := DataW.trod_int Tryd.underlying3 g10
      refine ⟨⟨x0, x1, x2, x3, x4, x5, x6, x7, x8, x9, x10⟩, ?_, ⟨w0, w1, w2, w3⟩, w4, w5, w6, w10⟩
      obtain rfl := List.singleton_inj.1 e0
      obtain rfl := List.singleton_inj.1 e1
      obtain rfl := List.singleton_inj.1 e2
      obtain rfl := List.singleton_inj.1 e3
      obtain rfl := List.singleton_inj.1 e4
      obtain rfl := List.singleton_inj.1 e5
      obtain rfl := List.singleton_inj.1 e6
      obtain rfl := List.singleton_inj.1 e7
      obtain rfl := List.singleton_inj.1 e8
      obtain rfl := List.singleton_inj.1 e9
      obtain rfl := List.singleton_inj.1 e10
      rfl
end Go.Proofs.YtkpdejnhjbojpaaDoor
