/-
  An address in memory; what stands ahead of a byte of some kind.
-/
import Derived.Test.YthempdglmhmfeaaDoorPatRefT
namespace Go.Proofs.YthempdglmhmfeaaDoor
open Go.RowKit
set_option linter.unusedVariables false

/-- An address lies in block g, and may be written. -/
def UrlAt (w : World) (g : Nat) (s : Bool) (h p : ByteArray) : Prop :=
  (w.cell? ⟨g, 0, none⟩ = some (.bool s) ∧ w.cell? ⟨g, 1, none⟩ = some (.string h) ∧ w.cell? ⟨g, 2, none⟩ = some (.string p)) ∧ w.frozen? ⟨g, 0, none⟩ = false ∧ w.frozen? ⟨g, 1, none⟩ = false ∧ w.frozen? ⟨g, 2, none⟩ = false

theorem UrlAt.new (w : World) (s : Bool) (h p : ByteArray) (t : TypeId) : UrlAt (w.alloc (.cells #[.bool s, .string h, .string p] t)) w.heap.size s h p := by
  refine ⟨⟨?_, ?_, ?_⟩, ?_, ?_, ?_⟩ <;> simp

theorem frozen_keepU {w w' : World} {g j : Nat} (hb : Below w.heap.size w w') (hg : g < w.heap.size) : w'.frozen? ⟨g, j, none⟩ = w.frozen? ⟨g, j, none⟩ := by
  unfold World.frozen?
  rw [hb.block g hg]

theorem UrlAt.keep {w w' : World} {g : Nat} {s : Bool} {h p : ByteArray} (hu : UrlAt w g s h p) (hb : Below w.heap.size w w') : UrlAt w' g s h p := by
  obtain ⟨⟨c0, c1, c2⟩, f0, f1, f2⟩ := hu
  have hg : g < w.heap.size := World.block_lt_of_cell? w _ c0
  refine ⟨⟨?_, ?_, ?_⟩, ?_, ?_, ?_⟩
  · rw [hb.cell hg]; exact c0
  · rw [hb.cell hg]; exact c1
  · rw [hb.cell hg]; exact c2
  · rw [frozen_keepU hb hg]; exact f0
  · rw [frozen_keepU hb hg]; exact f1
  · rw [frozen_keepU hb hg]; exact f2

theorem until_at (p : UInt8 → Bool) (l : List UInt8) (n : Nat) (h2 : (l.take n).any p = false) (h3 : l.length ≤ n ∨ ∃ h : n < l.length, p l[n] = true) : untilL p l = l.take n := by
  rcases h3 with h3 | ⟨h, hp⟩
  · rw [List.take_of_length_le h3] at h2 ⊢
    exact until_all p l h2
  · have e : l = l.take n ++ l[n] :: l.drop (n + 1) := by rw [← List.drop_eq_getElem_cons h, List.take_append_drop]
    have := until_app p l[n] hp (l.take n) (l.drop (n + 1))
    rw [← e] at this
    rw [this]
    exact until_all p _ h2

/-- How far the walk has come from f on: no byte of that kind yet. -/
def FarAt (p : UInt8 → Bool) (s : ByteArray) (f : Nat) (w0 : World) (gk : Nat) (i : Value) (wr : World) : Prop :=
  ∃ k : Nat, i = .int .i64 (k : Int) ∧ k + gk = s.size + 1 ∧ 1 ≤ gk ∧ f ≤ k ∧ ((s.data.toList.drop f).take (k - f)).any p = false ∧ wr = w0

theorem far_step (p : UInt8 → Bool) (s : ByteArray) (f k : Nat) (hf : f ≤ k) (hk : k < s.size) (h : ((s.data.toList.drop f).take (k - f)).any p = false) (hp : p s[k] = false) : ((s.data.toList.drop f).take (k + 1 - f)).any p = false := by
  have hl : k - f < (s.data.toList.drop f).length := by rw [List.length_drop, list_len]; omega
  rw [show k + 1 - f = k - f + 1 by omega]
  refine any_step _ p _ hl h ?_
  rw [List.getElem_drop]
  have : f + (k - f) = k := by omega
  simp only [this]
  rw [bget s k hk]
  exact hp

theorem far_done (p : UInt8 → Bool) (s : ByteArray) (f k : Nat) (hf : f ≤ k) (h : ((s.data.toList.drop f).take (k - f)).any p = false) (he : s.size ≤ k ∨ ∃ hk : k < s.size, p s[k] = true) : untilL p (s.data.toList.drop f) = (s.extract f k).data.toList := by
  rw [extract_list]
  refine until_at p _ _ h ?_
  rcases he with he | ⟨hk, hp⟩
  · exact .inl (by rw [List.length_drop, list_len]; omega)
  · refine .inr ⟨by rw [List.length_drop, list_len]; omega, ?_⟩
    rw [List.getElem_drop]
    have : f + (k - f) = k := by omega
    simp only [this]
    rw [bget s k hk]
    exact hp

theorem ends_slash (c : UInt8) (h : c = 47) : endsC c = true := by unfold endsC; rw [decide_eq_true h]; rfl
theorem ends_asks (c : UInt8) (h : ¬ c = 47) (b : Bool) (hb : asksC c = b) : endsC c = b := by unfold endsC; rw [decide_eq_false h, hb]; rfl

/-- What Parse answers. -/
def adV (a : Ad) : Value := .tuple #[urlV a.sec ⟨a.host.toArray⟩ ⟨a.path.toArray⟩, .int .i64 a.e]

theorem adV_no (e : Int) : adV (adNo e) = .tuple #[urlV false ⟨#[]⟩ ⟨#[]⟩, .int .i64 e] := rfl

theorem rest_no (sec : Bool) (r : List UInt8) (x : ByteArray) (hE : untilL endsC r = x.data.toList) (hh : ¬ hostB (lowB x).data.toList = true) : adV (restA sec r) = .tuple #[urlV false ⟨#[]⟩ ⟨#[]⟩, .int .i64 121] := by
  have hh' : ¬ hostB (x.data.toList.map lowC) = true := hh
  unfold restA
  rw [hE, if_neg hh']
  rfl

theorem rest_path (sec : Bool) (r : List UInt8) (x y q : ByteArray) (hE : untilL endsC r = x.data.toList) (hh : hostB (lowB x).data.toList = true) (hD : untilL asksC (r.drop x.data.toList.length) = y.data.toList)
    (hq : q.data.toList = if y.data.toList = [] then [47] else y.data.toList) :
    (rightB q.data.toList = true → adV (restA sec r) = .tuple #[urlV sec (lowB x) q, .int .i64 0]) ∧ (rightB q.data.toList = false → adV (restA sec r) = .tuple #[urlV false ⟨#[]⟩ ⟨#[]⟩, .int .i64 122]) := by
  have e : restA sec r = if rightB q.data.toList = true then ⟨0, sec, (lowB x).data.toList, q.data.toList⟩ else adNo 122 := by
    have hh' : hostB (x.data.toList.map lowC) = true := hh
    unfold restA
    rw [hE, if_pos hh', hD, hq]
    rfl
  rw [e]
  constructor
  · intro h
    rw [if_pos h]
    rfl
  · intro h
    rw [if_neg (by rw [h]; decide)]
    rfl

theorem drop_part (s : ByteArray) (f k : Nat) (hf : f ≤ k) (hk : k ≤ s.size) : (s.data.toList.drop f).drop (s.extract f k).data.toList.length = s.data.toList.drop k := by
  rw [extract_list, List.length_take, List.length_drop, list_len, List.drop_drop]
  congr 1
  omega

theorem UrlAt.set12 {w : World} {g : Nat} {s : Bool} {h p : ByteArray} (hu : UrlAt w g s h p) (h' p' : ByteArray) : UrlAt ((w.setCell ⟨g, 1, none⟩ (.string h')).setCell ⟨g, 2, none⟩ (.string p')) g s h' p' := by
  obtain ⟨⟨c0, c1, c2⟩, f0, f1, f2⟩ := hu
  have n1 : (⟨g, 1, none⟩ : Addr) ≠ ⟨g, 0, none⟩ := fun h => by injection h with _ h2 _; cases h2
  refine ⟨⟨?_, ?_, ?_⟩, ?_, ?_, ?_⟩
  · rw [World.cell?_setCell_other _ _ _ _ (fun h => by injection h with _ h2 _; cases h2), World.cell?_setCell_other _ _ _ _ (fun h => by injection h with _ h2 _; cases h2)]; exact c0
  · rw [World.cell?_setCell_other _ _ _ _ (fun h => by injection h with _ h2 _; cases h2)]; exact World.cell?_setCell_same w _ _ c1
  · refine World.cell?_setCell_same _ _ _ (u := .string p) ?_
    rw [World.cell?_setCell_other _ _ _ _ (fun h => by injection h with _ h2 _; cases h2)]; exact c2
  · rw [World.frozen?_setCell, World.frozen?_setCell]; exact f0
  · rw [World.frozen?_setCell, World.frozen?_setCell]; exact f1
  · rw [World.frozen?_setCell, World.frozen?_setCell]; exact f2

theorem UrlAt.set2 {w : World} {g : Nat} {s : Bool} {h p : ByteArray} (hu : UrlAt w g s h p) (p' : ByteArray) : UrlAt (w.setCell ⟨g, 2, none⟩ (.string p')) g s h p' := by
  obtain ⟨⟨c0, c1, c2⟩, f0, f1, f2⟩ := hu
  refine ⟨⟨?_, ?_, World.cell?_setCell_same w _ _ c2⟩, ?_, ?_, ?_⟩
  · rw [World.cell?_setCell_other _ _ _ _ (fun h => by injection h with _ h2 _; cases h2)]; exact c0
  · rw [World.cell?_setCell_other _ _ _ _ (fun h => by injection h with _ h2 _; cases h2)]; exact c1
  · rw [World.frozen?_setCell]; exact f0
  · rw [World.frozen?_setCell]; exact f1
  · rw [World.frozen?_setCell]; exact f2

theorem UrlAt.other {w : World} {g r j : Nat} {s : Bool} {h p : ByteArray} {v : Value} (hu : UrlAt w g s h p) (hne : ¬ r = g) : UrlAt (w.setCell ⟨r, j, none⟩ v) g s h p := by
  obtain ⟨⟨c0, c1, c2⟩, f0, f1, f2⟩ := hu
  have n : ∀ k, (⟨r, j, none⟩ : Addr) ≠ ⟨g, k, none⟩ := fun k h => by injection h with h1 _ _; exact hne h1
  refine ⟨⟨?_, ?_, ?_⟩, ?_, ?_, ?_⟩
  · rw [World.cell?_setCell_other _ _ _ _ (fun h => by injection h with h1 _ _; exact hne (by first | exact h1 | exact h1.symm))]; exact c0
  · rw [World.cell?_setCell_other _ _ _ _ (fun h => by injection h with h1 _ _; exact hne (by first | exact h1 | exact h1.symm))]; exact c1
  · rw [World.cell?_setCell_other _ _ _ _ (fun h => by injection h with h1 _ _; exact hne (by first | exact h1 | exact h1.symm))]; exact c2
  · rw [World.frozen?_setCell]; exact f0
  · rw [World.frozen?_setCell]; exact f1
  · rw [World.frozen?_setCell]; exact f2
end Go.Proofs.YthempdglmhmfeaaDoor
