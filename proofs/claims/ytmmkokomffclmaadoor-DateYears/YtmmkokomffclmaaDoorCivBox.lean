/-
  A clock in memory, and a clock as an argument.
-/
import Derived.Test.YtmmkokomffclmaaDoorCivRepoch
import Derived.Deep.Slices
import Derived.ChangeSame
import Derived.OpenShut
import Derived.SizedLaws
namespace Go.Proofs.YtmmkokomffclmaaDoor
open Go.RowKit Go.ChangeShapes Go.WideShapes Go.Deep
set_option linter.unusedVariables false

/-- A clock lies in block g. -/
def ClkAt (w : World) (g : Nat) (y m d h i s : Int) : Prop :=
  w.cell? ⟨g, 0, none⟩ = some (.int .i64 y) ∧ w.cell? ⟨g, 1, none⟩ = some (.int .i64 m) ∧ w.cell? ⟨g, 2, none⟩ = some (.int .i64 d) ∧
  w.cell? ⟨g, 3, none⟩ = some (.int .i64 h) ∧ w.cell? ⟨g, 4, none⟩ = some (.int .i64 i) ∧ w.cell? ⟨g, 5, none⟩ = some (.int .i64 s)

theorem ClkAt.new (w : World) (y m d h i s : Int) (t : TypeId) :
    ClkAt (w.alloc (.cells #[.int .i64 y, .int .i64 m, .int .i64 d, .int .i64 h, .int .i64 i, .int .i64 s] t)) w.heap.size y m d h i s := by
  refine ⟨?_, ?_, ?_, ?_, ?_, ?_⟩ <;> simp

theorem ClkAt.keep {w w' : World} {g : Nat} {y m d h i s : Int} (hc : ClkAt w g y m d h i s) (hb : Below w.heap.size w w') : ClkAt w' g y m d h i s := by
  obtain ⟨c0, c1, c2, c3, c4, c5⟩ := hc
  refine ⟨?_, ?_, ?_, ?_, ?_, ?_⟩ <;> rw [hb.cell (World.block_lt_of_cell? w _ (by assumption))] <;> assumption

theorem Tryd.cellsClk : Tryd.prog.cellsOf 44 = 6 := by kernel_rfl
theorem Tryd.cellsIntC : Tryd.prog.cellsOf 3 = 1 := by kernel_rfl
theorem Tryd.laidOutC : laidOutB Tryd.prog = true := by kernel_rfl

/-- What an int64 is. -/
def int64 (n : Int) : Prop := -9223372036854775808 ≤ n ∧ n ≤ 9223372036854775807

set_option maxRecDepth 100000 in
theorem clk_opened {H : Type} {enc : TypeId × Value → H} {W : World} {v : Value} {base : Nat} {d : DataW H} {ps : List MemPlace}
    (h : DataW.Trod enc Tryd.prog W 0 (fun _ => true) true 44 v d ps) (hv : Value.okWide Tryd.prog W .any base 44 v) : ∃ y m d h i s : Int, v = clkV y m d h i s ∧ int64 y ∧ int64 m ∧ int64 d ∧ int64 h ∧ int64 i ∧ int64 s := by
  obtain ⟨fuel, h⟩ := h
  have hv' : ∃ cs, v = .agg cs ∧ cs.size = Tryd.prog.cellsOf 44 ∧ Row.okWide Tryd.prog W .any base 44 cs := by
    unfold Value.okWide at hv
    rw [Tryd.underlying44] at hv
    exact hv
  obtain ⟨cs, rfl, hsz, _⟩ := hv'
  obtain ⟨xs, k, _, _, hlen, hxs, hf⟩ := DataW.trod_struct Tryd.underlying44 h
  rw [Tryd.cellsClk] at hlen
  obtain ⟨l, hl⟩ : ∃ l, l = cs.toList := ⟨_, rfl⟩
  have hcs : cs = l.toArray := by rw [hl]
  subst hcs
  clear hl
  have hlen6 : l.length = 6 := hlen
  have hxs6 : xs.length = 6 := hxs
  match l, hlen6 with
  | [c0, c1, c2, c3, c4, c5], _ =>
    match xs, hxs6 with
    | [y0, y1, y2, y3, y4, y5], _ =>
      have f0 := hf 0 _ rfl
      have f1 := hf 1 _ rfl
      have f2 := hf 2 _ rfl
      have f3 := hf 3 _ rfl
      have f4 := hf 4 _ rfl
      have f5 := hf 5 _ rfl
      have g0 : DataW.trod enc Tryd.prog W 0 (fun _ => true) true k 3 [c0] = some y0 := f0
      have g1 : DataW.trod enc Tryd.prog W 0 (fun _ => true) true k 3 [c1] = some y1 := f1
      have g2 : DataW.trod enc Tryd.prog W 0 (fun _ => true) true k 3 [c2] = some y2 := f2
      have g3 : DataW.trod enc Tryd.prog W 0 (fun _ => true) true k 3 [c3] = some y3 := f3
      have g4 : DataW.trod enc Tryd.prog W 0 (fun _ => true) true k 3 [c4] = some y4 := f4
      have g5 : DataW.trod enc Tryd.prog W 0 (fun _ => true) true k 3 [c5] = some y5 := f5
      obtain ⟨n0, e0, _, w0⟩ := DataW.trod_int Tryd.underlying3 g0
      obtain ⟨n1, e1, _, w1⟩ := DataW.trod_int Tryd.underlying3 g1
      obtain ⟨n2, e2, _, w2⟩ := DataW.trod_int Tryd.underlying3 g2
      obtain ⟨n3, e3, _, w3⟩ := DataW.trod_int Tryd.underlying3 g3
      obtain ⟨n4, e4, _, w4⟩ := DataW.trod_int Tryd.underlying3 g4
      obtain ⟨n5, e5, _, w5⟩ := DataW.trod_int Tryd.underlying3 g5
      refine ⟨n0, n1, n2, n3, n4, n5, ?_, bounds_i64 w0, bounds_i64 w1, bounds_i64 w2, bounds_i64 w3, bounds_i64 w4, bounds_i64 w5⟩
      obtain rfl := List.singleton_inj.1 e0
      obtain rfl := List.singleton_inj.1 e1
      obtain rfl := List.singleton_inj.1 e2
      obtain rfl := List.singleton_inj.1 e3
      obtain rfl := List.singleton_inj.1 e4
      obtain rfl := List.singleton_inj.1 e5
      rfl
end Go.Proofs.YtmmkokomffclmaaDoor
