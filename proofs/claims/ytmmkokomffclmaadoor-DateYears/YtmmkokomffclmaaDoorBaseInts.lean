/-
  Slices of ints: what they hold; rows that a call makes itself; one that came in as an argument.
-/
import Derived.Test.YtmmkokomffclmaaDoorBaseDraw
import Derived.ChangeSlices
import Derived.SizedLaws
import Derived.Carry
import Derived.OpenShut
import Derived.ArgAppend
import Derived.Deep.Upon
namespace Go.Proofs.YtmmkokomffclmaaDoor
open Go.RowKit Go.ChangeShapes Go.WideShapes
set_option linter.unusedVariables false

/-- The numbers that a slice of ints holds. -/
def IntsAt (w : World) (v : Value) (l : List Int) : Prop :=
  (v = .slice none 0 0 ∧ l = []) ∨ ∃ ad cap, v = .slice (some ad) l.length cap ∧ l.length ≤ cap ∧ ∀ j (hj : j < l.length), w.cell? (ad.add j) = some (.int .i64 l[j])

theorem IntsAt.nil (w : World) : IntsAt w (.slice none 0 0) [] := .inl ⟨rfl, rfl⟩

theorem IntsAt.keep {w w' : World} {v : Value} {l : List Int} (h : IntsAt w v l) (hb : Below w.heap.size w w') : IntsAt w' v l := by
  rcases h with h | ⟨ad, cap, rfl, hle, hc⟩
  · exact .inl h
  · refine .inr ⟨ad, cap, rfl, hle, fun j hj => ?_⟩
    have h1 := hc j hj
    have hlt := World.block_lt_of_cell? w _ h1
    rw [hb.cell hlt]
    exact h1

/-- Its shape, for a walk. -/
theorem IntsAt.shape {w : World} {v : Value} {l : List Int} (h : IntsAt w v l) : ∃ ao n cap, v = .slice ao n cap ∧ n = l.length ∧ ∀ j (hj : j < l.length), ∃ ad, ao = some ad ∧ w.cell? (ad.add j) = some (.int .i64 l[j]) := by
  rcases h with ⟨rfl, rfl⟩ | ⟨ad, cap, rfl, _, hc⟩
  · exact ⟨none, 0, 0, rfl, rfl, fun j hj => by cases hj⟩
  · exact ⟨some ad, l.length, cap, rfl, rfl, fun j hj => ⟨ad, rfl, hc j hj⟩⟩

theorem Tryd.infoInt : (Tryd.prog.info? 3).map (fun i => (i.zero, i.size, i.bytes)) = some (some (.int .i64 0), 1, 8) := by kernel_rfl

def i64s (l : List Int) : List Value := l.map fun n => .int .i64 n

/-- The slice v, made from block base on, holds the numbers l. -/
def RowI (w : World) (base : Nat) (v : Value) (l : List Int) : Prop := w.ownsRow base 3 1 v l.length (i64s l)

theorem RowI.nil (w : World) (base : Nat) : RowI w base (.slice none 0 0) [] := World.ownsRow_nil w base 3 1
theorem RowI.alloc {w : World} {base : Nat} {v : Value} {l : List Int} (h : RowI w base v l) (o : Obj) : RowI (w.alloc o) base v l := World.ownsRow.alloc h o
theorem RowI.block {w : World} {base : Nat} {v : Value} {l : List Int} (h : RowI w base v l) : ∀ k, v.ownBlock = some k → base ≤ k := fun k hk => (World.ownsRow.lt h k hk).1

theorem RowI.keep {w w' : World} {base : Nat} {v : Value} {l : List Int} (h : RowI w base v l) (hb : Below w.heap.size w w') : RowI w' base v l := by
  obtain ⟨h1, h2⟩ := h
  refine ⟨h1, ?_⟩
  rcases h2 with h2 | ⟨g, cap, cur, e, hbg, hg, h3⟩
  · exact .inl h2
  · have hlt : g < w.heap.size := (Array.getElem?_eq_some_iff.1 hg).1
    exact .inr ⟨g, cap, cur, e, hbg, by rw [hb.block g hlt]; exact hg, h3⟩

theorem RowI.ints {w : World} {base : Nat} {v : Value} {l : List Int} (h : RowI w base v l) : IntsAt w v l := by
  have h0 := h
  obtain ⟨_, ⟨rfl, hn⟩ | ⟨g, cap, cur, rfl, _, _, hle, _⟩⟩ := h
  · exact .inl ⟨rfl, List.length_eq_zero_iff.1 hn⟩
  · refine .inr ⟨⟨g, 0, none⟩, cap, rfl, hle, fun j hj => ?_⟩
    have hc := World.ownsRow.cellAt h0 j (by omega)
    have e : (⟨g, 0, none⟩ : Addr).add j = ⟨g, j, none⟩ := by cases j <;> simp [Addr.add]
    rw [e, hc]
    simp [i64s, List.getElem?_eq_getElem hj]

/-- append of one int. -/
theorem wpList_pushI {w : World} {ops : Array Oper} {rest : List Oper} {o : Oper} {a : Act} {Q : Exit → Act → World → Prop} (hgd : o.guard = none) (s x : Operand)
    (ho : o.op = .call { callee := .builtin .append, args := #[s, x], argTypes := #[72, 72] }) {base : Nat} {v : Value} {l : List Int} (hown : RowI w base v l) {i : Int}
    (hs : a.eval s = v) (hx : a.eval x = .slice (some ⟨w.heap.size, 0, none⟩) 1 1) (hl : (l.length + 1) * 8 ≤ 140737488355328) (hbase : base ≤ w.heap.size)
    (h : ∀ v' w', RowI w' base v' (l ++ [i]) → (∀ B a0, Below B a0 w → B ≤ base → Below B a0 w') → base ≤ w'.heap.size → wpList Tryd.prog ops Q rest (a.put o.dst v') w') :
    wpList Tryd.prog ops Q (o :: rest) a (w.alloc (.cells #[.int .i64 i] 3)) := by
  obtain ⟨i0, hi, hz0, hz1, hz2⟩ := info_parts Tryd.infoInt
  refine wpList_append_own (P := Tryd.prog) _ hgd s x 72 ho base 3 i0 (.int .i64 0) 1 8 Tryd.underlying72 hi hz0 hz1 hz2 rfl (by decide) v l.length (i64s l) hs (hown.alloc _) ⟨w.heap.size, 0, none⟩ 1 1 [.int .i64 i] hx rfl ?_ ?_ ?_ ?_ ?_ ?_
  · intro j u hj
    match j, hj with
    | 0, hj => simp at hj; subst hj; simp [Addr.add]
  · intro u hu
    simp at hu
    subst hu
    rfl
  · unfold maxLen; omega
  · omega
  · simp; omega
  · intro v' w' hown' hgrow _
    refine h v' w' ?_ ?_ ?_
    · show w'.ownsRow base 3 1 v' (l ++ [i]).length (i64s (l ++ [i]))
      rw [List.length_append]
      have e : i64s (l ++ [i]) = i64s l ++ [.int .i64 i] := by simp [i64s]
      rw [e]
      exact hown'
    · intro B a0 hB hle
      refine (hB.alloc (by omega) _).grown hgrow (by simp; omega) (fun k hk => ?_)
      have := hown.block k hk
      omega
    · have := hgrow.size
      simp at this
      omega

theorem ints_cells {w : World} {ad : Addr} {l : List Int} (h : ∀ j (hj : j < l.length), w.cell? (ad.add j) = some (.int .i64 l[j])) : ∀ j u, (i64s l)[j]? = some u → w.cell? (ad.add j) = some u := by
  intro j u hu
  unfold i64s at hu
  rw [List.getElem?_map] at hu
  cases hj : l[j]? with
  | none => rw [hj] at hu; cases hu
  | some x =>
    rw [hj] at hu
    obtain ⟨h1, h2⟩ := List.getElem?_eq_some_iff.1 hj
    have := h j h1
    rw [h2] at this
    rw [this]
    exact hu

theorem ints_one (l : List Int) : ∀ u ∈ i64s l, u.oneCell' = true := by
  intro u hu
  unfold i64s at hu
  obtain ⟨x, _, rfl⟩ := List.mem_map.1 hu
  rfl

theorem src_none (w : World) (uo : Option Addr) (c : Nat) : Src Tryd.prog 1 72 (.slice uo 0 c) 0 [] w := by
  cases uo with
  | none => exact Src.ofNil w Tryd.underlying72 c
  | some a => exact Src.ofSlice w Tryd.underlying72 a 0 c [] (by simp) (fun j u h => by simp at h) (fun u h => by simp at h)

/-- append(l[:len(l):len(l)], m...). -/
theorem append_ints (w : World) (ty : TypeId) (so : Option Addr) (n : Nat) (hso : so = none → n = 0) (u : Value) (la lb : List Int) (hn : n = la.length) (hs : ∀ b, so = some b → ∀ j (hj : j < la.length), w.cell? (b.add j) = some (.int .i64 la[j])) (hu : IntsAt w u lb) (hz : (la.length + lb.length) * 8 ≤ 140737488355328) :
    ∃ v' w', (Builtin.append_ #[72, 72] ty #[.slice so n n, u]).run Tryd.prog w = .ok v' w' ∧ IntsAt w' v' (la ++ lb) ∧ Below w.heap.size w w' := by
  obtain ⟨i0, hi, hz0, hz1, hz2⟩ := info_parts Tryd.infoInt
  have hself : IntsAt w (.slice so n n) la := by
    cases so with
    | none =>
      have : n = 0 := hso rfl
      subst this
      exact .inl ⟨rfl, List.length_eq_zero_iff.1 hn.symm⟩
    | some b => exact .inr ⟨b, n, by rw [hn], by omega, hs b rfl⟩
  by_cases hb : lb = []
  · subst hb
    have hu' : ∃ uo c, u = .slice uo 0 c := by
      rcases hu with ⟨rfl, _⟩ | ⟨ad, c, rfl, _, _⟩
      · exact ⟨none, 0, rfl⟩
      · exact ⟨some ad, c, rfl⟩
    obtain ⟨uo, c, rfl⟩ := hu'
    have h := run_append_nothing (P := Tryd.prog) w 72 72 ty 3 i0 Tryd.underlying72 hi so n n (Nat.le_refl _) (.slice uo 0 c) (by rw [hz1]; exact src_none w uo c)
    exact ⟨_, _, h, by rw [List.append_nil]; exact hself, Below.refl _ _⟩
  · rcases hu with ⟨_, h⟩ | ⟨ad, c, rfl, _, hc⟩
    · exact absurd h hb
    · have hlb : 0 < lb.length := by
        cases lb with
        | nil => exact absurd rfl hb
        | cons x t => simp
      have done : ∀ v' w' base, base ≥ w.heap.size → w'.ownsRow base 3 1 v' (la.length + lb.length) (i64s la ++ i64s lb) → IntsAt w' v' (la ++ lb) := by
        intro v' w' base _ h
        have h' : RowI w' base v' (la ++ lb) := by
          show w'.ownsRow base 3 1 v' (la ++ lb).length (i64s (la ++ lb))
          rw [List.length_append]
          have e : i64s (la ++ lb) = i64s la ++ i64s lb := by simp [i64s]
          rw [e]
          exact h
        exact h'.ints
      cases so with
      | none =>
        have h0 : n = 0 := hso rfl
        subst h0
        have e : la = [] := List.length_eq_zero_iff.1 hn.symm
        subst e
        obtain ⟨v', w', h1, h2, h3, _⟩ := run_append_own (P := Tryd.prog) (w := w) w.heap.size 72 ty 3 i0 (.int .i64 0) 1 8 Tryd.underlying72 hi hz0 hz1 hz2 rfl (by decide) (.slice none 0 0) 0 [] (World.ownsRow_nil _ _ _ _) ad lb.length c (i64s lb) (by simp [i64s]) (ints_cells hc) (ints_one lb) (by simp at hz; unfold maxLen; omega) (by simpa using hz) (Nat.le_refl _)
        exact ⟨v', w', h1, done v' w' _ (Nat.le_refl _) h2, (Below.refl _ _).grown h3 (Nat.le_refl _) (fun k hk => by cases hk)⟩
      | some b =>
        subst hn
        obtain ⟨v', w', h1, h2, h3⟩ := run_append_arg_grows (P := Tryd.prog) (w := w) 72 ty 3 i0 (.int .i64 0) 1 8 Tryd.underlying72 hi hz0 hz1 hz2 rfl (by decide) b la.length la.length (i64s la) (by simp [i64s]) (ints_cells (hs b rfl)) ad lb.length c (i64s lb) (by simp [i64s]) (ints_cells hc) (by omega) (by unfold maxLen; omega) hz
        exact ⟨v', w', h1, done v' w' _ (Nat.le_refl _) h2, (Below.refl _ _).grown h3 (Nat.le_refl _) (fun k hk => by cases hk)⟩

theorem Tryd.cellsInt : Tryd.prog.cellsOf 3 = 1 := by kernel_rfl
theorem Tryd.bytesInt : Tryd.prog.bytesOf 3 = 8 := by kernel_rfl
theorem Tryd.laidOutI : laidOutB Tryd.prog = true := by kernel_rfl

/-- An argument that is a slice of ints. -/
theorem ints_opened {H : Type} {enc : TypeId × Value → H} {W : World} {v : Value} {d : DataW H} {ps : List MemPlace} {ts : List TypeId} {ds : List (DataW H)} {j : Nat}
    (h : DataW.Trod enc Tryd.prog W 0 (fun _ => true) true 72 v d ps) (hv : ∃ a len cap, v = .slice a len cap)
    (hsz : (DataW.weightsEach Tryd.prog ts ds).all (· ≤ reachBytes) = true) (ht : ts[j]? = some 72) (hd : ds[j]? = some d) :
    ∃ l : List Int, IntsAt W v l ∧ l.length * 8 ≤ 140737488351232 ∧ ∀ n ∈ l, -9223372036854775808 ≤ n ∧ n ≤ 9223372036854775807 := by
  obtain ⟨a0, len, cap, rfl⟩ := hv
  obtain ⟨fuel, hf⟩ := h
  rcases open_ints Tryd.underlying72 Tryd.underlying3 Tryd.cellsInt hf with ⟨hcs, hx⟩ | ⟨a, len', cap', zs, hcs, _, hl, hm, hz, hx, hcell, hws⟩
  · simp [Value.cells] at hcs
    obtain ⟨rfl, rfl, rfl⟩ := hcs
    exact ⟨[], IntsAt.nil W, by simp, by simp⟩
  · simp [Value.cells] at hcs
    obtain ⟨rfl, rfl, rfl⟩ := hcs
    simp only [if_true] at hz
    have e : d = .slice (lits .i64 (zs.take len)) (lits .i64 (zs.drop len)) := congrArg Prod.fst hx
    have hlen : (zs.take len).length = len := by rw [List.length_take]; omega
    have hw := sized_slice hsz ht (by rw [hd, e]) Tryd.underlying72
    refine ⟨zs.take len, .inr ⟨a, cap, by rw [hlen], by rw [hlen]; exact hl, fun i hi => ?_⟩, ?_, fun n hn => ?_⟩
    · have hi' : i < zs.length := by rw [hlen] at hi; omega
      rw [hcell i hi', List.getElem_take, List.getD_eq_getElem?_getD, List.getElem?_eq_getElem hi']
      rfl
    · rw [Tryd.bytesInt] at hw
      simp only [lits, List.length_map, List.length_take, List.length_drop, reachBytes] at hw
      rw [hlen]
      omega
    · exact bounds_i64 (hws n (List.mem_of_mem_take hn))
end Go.Proofs.YtmmkokomffclmaaDoor
