/-
  Slices of texts that a call makes itself, and appends to.
-/
import Derived.Test.YtkpdejnhjbojpaaDoorBaseDraw
import Derived.Test.YtkpdejnhjbojpaaDoorBaseStrs
import Derived.ChangeSlices
import Derived.SizedLaws
import Derived.Carry
import Derived.OpenShut
import Derived.ArgAppend
import Derived.Deep.Upon
namespace Go.Proofs.YtkpdejnhjbojpaaDoor
open Go.RowKit Go.ChangeShapes Go.WideShapes
set_option linter.unusedVariables false

/-- Its shape, for a walk. -/
theorem StrsAt.shape {w : World} {v : Value} {l : List ByteArray} (h : StrsAt w v l) : ∃ ao n cap, v = .slice ao n cap ∧ n = l.length ∧ ∀ j (hj : j < l.length), ∃ ad, ao = some ad ∧ w.cell? (ad.add j) = some (.string l[j]) := by
  rcases h with ⟨rfl, rfl⟩ | ⟨ad, cap, rfl, _, hc⟩
  · exact ⟨none, 0, 0, rfl, rfl, fun j hj => by cases hj⟩
  · exact ⟨some ad, l.length, cap, rfl, rfl, fun j hj => ⟨ad, rfl, hc j hj⟩⟩

theorem Tryd.infoStr : (Tryd.prog.info? 9).map (fun i => (i.zero, i.size, i.bytes)) = some (some (.string ByteArray.empty), 1, 16) := by kernel_rfl

def strV (l : List ByteArray) : List Value := l.map fun s => .string s

/-- The slice v, made from block base on, holds the texts l. -/
def RowS (w : World) (base : Nat) (v : Value) (l : List ByteArray) : Prop := w.ownsRow base 9 1 v l.length (strV l)

theorem RowS.nil (w : World) (base : Nat) : RowS w base (.slice none 0 0) [] := World.ownsRow_nil w base 9 1
theorem RowS.alloc {w : World} {base : Nat} {v : Value} {l : List ByteArray} (h : RowS w base v l) (o : Obj) : RowS (w.alloc o) base v l := World.ownsRow.alloc h o
theorem RowS.block {w : World} {base : Nat} {v : Value} {l : List ByteArray} (h : RowS w base v l) : ∀ k, v.ownBlock = some k → base ≤ k := fun k hk => (World.ownsRow.lt h k hk).1

theorem RowS.keep {w w' : World} {base : Nat} {v : Value} {l : List ByteArray} (h : RowS w base v l) (hb : Below w.heap.size w w') : RowS w' base v l := by
  obtain ⟨h1, h2⟩ := h
  refine ⟨h1, ?_⟩
  rcases h2 with h2 | ⟨g, cap, cur, e, hbg, hg, h3⟩
  · exact .inl h2
  · have hlt : g < w.heap.size := (Array.getElem?_eq_some_iff.1 hg).1
    exact .inr ⟨g, cap, cur, e, hbg, by rw [hb.block g hlt]; exact hg, h3⟩

theorem RowS.strs {w : World} {base : Nat} {v : Value} {l : List ByteArray} (h : RowS w base v l) : StrsAt w v l := by
  have h0 := h
  obtain ⟨_, ⟨rfl, hn⟩ | ⟨g, cap, cur, rfl, _, _, hle, _⟩⟩ := h
  · exact .inl ⟨rfl, List.length_eq_zero_iff.1 hn⟩
  · refine .inr ⟨⟨g, 0, none⟩, cap, rfl, hle, fun j hj => ?_⟩
    have hc := World.ownsRow.cellAt h0 j (by omega)
    have e : (⟨g, 0, none⟩ : Addr).add j = ⟨g, j, none⟩ := by cases j <;> simp [Addr.add]
    rw [e, hc]
    simp [strV, List.getElem?_eq_getElem hj]

/-- append of one text. -/
theorem wpList_pushS {w : World} {ops : Array Oper} {rest : List Oper} {o : Oper} {a : Act} {Q : Exit → Act → World → Prop} (hgd : o.guard = none) (s x : Operand)
    (ho : o.op = .call { callee := .builtin .append, args := #[s, x], argTypes := #[53, 53] }) {base : Nat} {v : Value} {l : List ByteArray} (hown : RowS w base v l) {i : ByteArray}
    (hs : a.eval s = v) (hx : a.eval x = .slice (some ⟨w.heap.size, 0, none⟩) 1 1) (hl : (l.length + 1) * 16 ≤ 140737488355328) (hbase : base ≤ w.heap.size)
    (h : ∀ v' w', RowS w' base v' (l ++ [i]) → (∀ B a0, Below B a0 w → B ≤ base → Below B a0 w') → base ≤ w'.heap.size → wpList Tryd.prog ops Q rest (a.put o.dst v') w') :
    wpList Tryd.prog ops Q (o :: rest) a (w.alloc (.cells #[.string i] 9)) := by
  obtain ⟨i0, hi, hz0, hz1, hz2⟩ := info_parts Tryd.infoStr
  refine wpList_append_own (P := Tryd.prog) _ hgd s x 53 ho base 9 i0 (.string ByteArray.empty) 1 16 Tryd.underlying53 hi hz0 hz1 hz2 rfl (by decide) v l.length (strV l) hs (hown.alloc _) ⟨w.heap.size, 0, none⟩ 1 1 [.string i] hx rfl ?_ ?_ ?_ ?_ ?_ ?_
  · intro j u hj
    match j, hj with
    | 0, hj => simp at hj; subst hj; simp [Addr.add]
  · intro u hu
    simp at hu
    subst hu
    rfl
  · unfold maxLen; omega
  · omega
  · simp; omega
  · intro v' w' hown' hgrow _
    refine h v' w' ?_ ?_ ?_
    · show w'.ownsRow base 9 1 v' (l ++ [i]).length (strV (l ++ [i]))
      rw [List.length_append]
      have e : strV (l ++ [i]) = strV l ++ [.string i] := by simp [strV]
      rw [e]
      exact hown'
    · intro B a0 hB hle
      refine (hB.alloc (by omega) _).grown hgrow (by simp; omega) (fun k hk => ?_)
      have := hown.block k hk
      omega
    · have := hgrow.size
      simp at this
      omega

theorem strs_cells {w : World} {ad : Addr} {l : List ByteArray} (h : ∀ j (hj : j < l.length), w.cell? (ad.add j) = some (.string l[j])) : ∀ j u, (strV l)[j]? = some u → w.cell? (ad.add j) = some u := by
  intro j u hu
  unfold strV at hu
  rw [List.getElem?_map] at hu
  cases hj : l[j]? with
  | none => rw [hj] at hu; cases hu
  | some x =>
    rw [hj] at hu
    obtain ⟨h1, h2⟩ := List.getElem?_eq_some_iff.1 hj
    have := h j h1
    rw [h2] at this
    rw [this]
    exact hu

theorem strs_ones (l : List ByteArray) : ∀ u ∈ strV l, u.oneCell' = true := by
  intro u hu
  unfold strV at hu
  obtain ⟨x, _, rfl⟩ := List.mem_map.1 hu
  rfl

theorem src_noneS (w : World) (uo : Option Addr) (c : Nat) : Src Tryd.prog 1 53 (.slice uo 0 c) 0 [] w := by
  cases uo with
  | none => exact Src.ofNil w Tryd.underlying53 c
  | some a => exact Src.ofSlice w Tryd.underlying53 a 0 c [] (by simp) (fun j u h => by simp at h) (fun u h => by simp at h)

/-- append(l[:len(l):len(l)], m...). -/
theorem append_strs (w : World) (ty : TypeId) (so : Option Addr) (n : Nat) (hso : so = none → n = 0) (u : Value) (la lb : List ByteArray) (hn : n = la.length) (hs : ∀ b, so = some b → ∀ j (hj : j < la.length), w.cell? (b.add j) = some (.string la[j])) (hu : StrsAt w u lb) (hz : (la.length + lb.length) * 16 ≤ 140737488355328) :
    ∃ v' w', (Builtin.append_ #[53, 53] ty #[.slice so n n, u]).run Tryd.prog w = .ok v' w' ∧ StrsAt w' v' (la ++ lb) ∧ Below w.heap.size w w' := by
  obtain ⟨i0, hi, hz0, hz1, hz2⟩ := info_parts Tryd.infoStr
  have hself : StrsAt w (.slice so n n) la := by
    cases so with
    | none =>
      have : n = 0 := hso rfl
      subst this
      exact .inl ⟨rfl, List.length_eq_zero_iff.1 hn.symm⟩
    | some b => exact .inr ⟨b, n, by rw [hn], by omega, hs b rfl⟩
  by_cases hb : lb = []
  · subst hb
    have hu' : ∃ uo c, u = .slice uo 0 c := by
      rcases hu with ⟨rfl, _⟩ | ⟨ad, c, rfl, _, _⟩
      · exact ⟨none, 0, rfl⟩
      · exact ⟨some ad, c, rfl⟩
    obtain ⟨uo, c, rfl⟩ := hu'
    have h := run_append_nothing (P := Tryd.prog) w 53 53 ty 9 i0 Tryd.underlying53 hi so n n (Nat.le_refl _) (.slice uo 0 c) (by rw [hz1]; exact src_noneS w uo c)
    exact ⟨_, _, h, by rw [List.append_nil]; exact hself, Below.refl _ _⟩
  · rcases hu with ⟨_, h⟩ | ⟨ad, c, rfl, _, hc⟩
    · exact absurd h hb
    · have hlb : 0 < lb.length := by
        cases lb with
        | nil => exact absurd rfl hb
        | cons x t => simp
      have done : ∀ v' w' base, base ≥ w.heap.size → w'.ownsRow base 9 1 v' (la.length + lb.length) (strV la ++ strV lb) → StrsAt w' v' (la ++ lb) := by
        intro v' w' base _ h
        have h' : RowS w' base v' (la ++ lb) := by
          show w'.ownsRow base 9 1 v' (la ++ lb).length (strV (la ++ lb))
          rw [List.length_append]
          have e : strV (la ++ lb) = strV la ++ strV lb := by simp [strV]
          rw [e]
          exact h
        exact h'.strs
      cases so with
      | none =>
        have h0 : n = 0 := hso rfl
        subst h0
        have e : la = [] := List.length_eq_zero_iff.1 hn.symm
        subst e
        obtain ⟨v', w', h1, h2, h3, _⟩ := run_append_own (P := Tryd.prog) (w := w) w.heap.size 53 ty 9 i0 (.string ByteArray.empty) 1 16 Tryd.underlying53 hi hz0 hz1 hz2 rfl (by decide) (.slice none 0 0) 0 [] (World.ownsRow_nil _ _ _ _) ad lb.length c (strV lb) (by simp [strV]) (strs_cells hc) (strs_ones lb) (by simp at hz; unfold maxLen; omega) (by simpa using hz) (Nat.le_refl _)
        exact ⟨v', w', h1, done v' w' _ (Nat.le_refl _) h2, (Below.refl _ _).grown h3 (Nat.le_refl _) (fun k hk => by cases hk)⟩
      | some b =>
        subst hn
        obtain ⟨v', w', h1, h2, h3⟩ := run_append_arg_grows (P := Tryd.prog) (w := w) 53 ty 9 i0 (.string ByteArray.empty) 1 16 Tryd.underlying53 hi hz0 hz1 hz2 rfl (by decide) b la.length la.length (strV la) (by simp [strV]) (strs_cells (hs b rfl)) ad lb.length c (strV lb) (by simp [strV]) (strs_cells hc) (by omega) (by unfold maxLen; omega) hz
        exact ⟨v', w', h1, done v' w' _ (Nat.le_refl _) h2, (Below.refl _ _).grown h3 (Nat.le_refl _) (fun k hk => by cases hk)⟩
end Go.Proofs.YtkpdejnhjbojpaaDoor
