/-
  A region that draws its order, and whose calls make memory but hand back plain values: ONE walk in the order of the text, in the class of all worlds that are as they were below a block.
-/
import Derived.Test.YtkpdejnhjbojpaaDoorBase
import Derived.BigQuiet
import Derived.Below
namespace Go.Proofs.YtkpdejnhjbojpaaDoor
open Go.RowKit
set_option linter.unusedVariables false

theorem wp_region_below {P : Program} {id : Nat} {Q : Exit → Act → World → Prop} {a : Act} {w w0 : World} {g : Nat} {l : List Oper} (hm : P.follows .mixedOrders = true) (hB : Region.lexB .any l.toArray = true) (hb : Below g w0 w)
    (h : (∃ x, Below g w0 x) → wpQuiet P l.toArray (fun w' => Below g w0 w') (fun a' => ∀ w', Below g w0 w' → Q .normal a' w') l a) : (Code.region id l.toArray true).wp P Q a w :=
  wp_region_quiet (C := fun w' => Below g w0 w') hm hB hb.drew (by simpa using h ⟨w, hb⟩)

/-- A world that is as w0 below its heap's end. -/
structure Ext (w0 : World) where
  world : World
  below : Below w0.heap.size w0 world

instance (w0 : World) : Nonempty (Ext w0) := ⟨⟨w0, Below.refl _ _⟩⟩

theorem Ext.on {w0 : World} (x : Ext w0) {w1 : World} (h : Below x.world.heap.size x.world w1) : ∃ y : Ext w0, w1 = y.world := ⟨⟨w1, chain x.below h⟩, rfl⟩
theorem Ext.same {w0 : World} (x : Ext w0) {w1 : World} (h : x.world = w1) : ∃ y : Ext w0, w1 = y.world := ⟨x, h.symm⟩

theorem Ext.cell {w0 : World} (x : Ext w0) (p : Addr) (h : p.block < w0.heap.size) : x.world.cell? p = w0.cell? p := x.below.cell h

/-- The same, where cells of old blocks are read: a fact 'for every x : Ext w, x.world.cell? p = ..' among the hypotheses serves. -/
theorem wp_region_ext {P : Program} {id : Nat} {Q : Exit → Act → World → Prop} {a : Act} {w : World} {l : List Oper} (hm : P.follows .mixedOrders = true) (hB : Region.lexB .any l.toArray = true)
    (h : wpQuiet P l.toArray (fun w' => ∃ x : Ext w, w' = x.world) (fun a' => ∀ w', (∃ x : Ext w, w' = x.world) → Q .normal a' w') l a) : (Code.region id l.toArray true).wp P Q a w :=
  wp_region_quiet (C := fun w' => ∃ x : Ext w, w' = x.world) hm hB ⟨⟨w.drew, (Below.refl _ _).drew⟩, rfl⟩ (by simpa using h)
/-- The walk stands still before a region that draws: 'go_wp2_with (refine wp_halt ?_)', then 'refine Halt.on ?_'. -/
def Halt (p : Prop) : Prop := p
theorem wp_halt {P : Program} {id : Nat} {ops : Array Oper} {Q : Exit → Act → World → Prop} {a : Act} {w : World} (h : Halt ((Code.region id ops true).wp P Q a w)) : (Code.region id ops true).wp P Q a w := h
theorem Halt.on {p : Prop} (h : p) : Halt p := h

/-- An append whose run is known, guarded or not. -/
theorem wpList_append_run {P : Program} {w : World} {ops : Array Oper} {rest : List Oper} {o : Oper} {a : Act} {Q : Exit → Act → World → Prop} (hw : Region.wanted o (yielded ops a.tmps) = true) (s x : Operand) (t : TypeId)
    (ho : o.op = .call { callee := .builtin .append, args := #[s, x], argTypes := #[t, t] }) {v1 v2 v' : Value} {w' : World} (hs : a.eval s = v1) (hx : a.eval x = v2)
    (hrun : (Builtin.append_ #[t, t] o.type #[v1, v2]).run P w = .ok v' w') (h : wpList P ops Q rest (a.put o.dst v') w') : wpList P ops Q (o :: rest) a w := by
  unfold wpList
  rw [if_pos hw]
  refine .inl ?_
  unfold Oper.wp
  simp [execOp, ho, resolve, invoke, builtin, hs, hx, hrun, Result.andThen]
  exact h
end Go.Proofs.YtkpdejnhjbojpaaDoor
