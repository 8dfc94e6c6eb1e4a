/-
  A region that draws its order, by an invariant: each operation, whenever it may come up, keeps it.
-/
import Derived.Test.YtkpdejnhjbojpaaDoorBaseDraw
import Derived.Deep.RegionHeld
namespace Go.Proofs.YtkpdejnhjbojpaaDoor
open Go.RowKit
set_option linter.unusedVariables false

section
variable {P : Program} {ops : Array Oper} {md : Region.Mode} {Q : Exit → Act → World → Prop}

/-- What has run, as a function. -/
def ran (listed : Array Bool) (j : Nat) : Bool := listed.getD j false

theorem ran_set {listed : Array Bool} {i : Nat} (h : i < listed.size) : ran (listed.setIfInBounds i true) = fun j => if j = i then true else ran listed j := by
  funext j
  unfold ran
  by_cases e : j = i
  · subst e
    simp [h]
  · rw [if_neg e, getD_set_ne false (fun h => e h.symm)]

/-- Each operation waits for earlier ones alone. -/
def ordB (md : Region.Mode) (ops : Array Oper) : Bool :=
  (List.range ops.size).all fun j => match ops[j]? with | some o => o.after.all (fun e => !Region.binds md e || decide (e.on < j)) | none => true

theorem ordB_spec (h : ordB md ops = true) (j : Nat) (o : Oper) (ho : ops[j]? = some o) (e : Edge) (he : e ∈ o.after) (hb : Region.binds md e = true) : e.on < j := by
  unfold ordB at h
  rw [List.all_eq_true] at h
  have h1 := h j (List.mem_range.2 (Array.getElem?_eq_some_iff.1 ho).1)
  simp only [ho, Array.all_eq_true_iff_forall_mem] at h1
  have h2 := h1 e he
  rw [hb] at h2
  simpa using h2

/-- How many have not run. -/
def still (ops : Array Oper) (listed : Array Bool) : Nat := ((List.range ops.size).filter fun j => !ran listed j).length

theorem still_set {listed : Array Bool} {i : Nat} (hi : i < ops.size) (hs : listed.size = ops.size) (hn : ran listed i = false) : still ops (listed.setIfInBounds i true) + 1 = still ops listed := by
  unfold still
  rw [ran_set (by omega)]
  have key : ∀ (l : List Nat), l.Nodup → i ∈ l → (l.filter fun j => !(if j = i then true else ran listed j)).length + 1 = (l.filter fun j => !ran listed j).length := by
    intro l
    induction l with
    | nil => intro _ h; cases h
    | cons x t ih =>
      intro hd hm
      rw [List.nodup_cons] at hd
      by_cases e : x = i
      · subst e
        have h2 : (t.filter fun j => !(if j = x then true else ran listed j)) = t.filter fun j => !ran listed j := by
          apply List.filter_congr
          intro y hy
          have hne : y ≠ x := fun h => hd.1 (by rw [← h]; exact hy)
          rw [if_neg hne]
        rw [List.filter_cons_of_neg (by simp), List.filter_cons_of_pos (by simp [hn]), h2]
        rfl
      · have hm' : i ∈ t := by
          rcases List.mem_cons.1 hm with h | h
          · exact absurd h.symm e
          · exact h
        have h3 := ih hd.2 hm'
        cases hx : ran listed x with
        | true => rw [List.filter_cons_of_neg (by simp [e, hx]), List.filter_cons_of_neg (by simp [hx])]; exact h3
        | false => rw [List.filter_cons_of_pos (by simp [e, hx]), List.filter_cons_of_pos (by simp [hx])]; simp only [List.length_cons]; omega
  exact key _ List.nodup_range (List.mem_range.2 hi)

theorem still_none {listed : Array Bool} (h : still ops listed = 0) (j : Nat) (hj : j < ops.size) : ran listed j = true := by
  unfold still at h
  have h1 := List.length_eq_zero_iff.1 h
  rw [List.filter_eq_nil_iff] at h1
  have := h1 j (List.mem_range.2 hj)
  simpa using this

theorem ready_ran {listed : Array Bool} {i : Nat} (hs : listed.size = ops.size) (h : i ∈ Region.ready md ops listed) : i < ops.size ∧ ran listed i = false := by
  obtain ⟨h1, o, ho, _⟩ := mem_ready.1 h
  have hi := (Array.getElem?_eq_some_iff.1 ho).1
  refine ⟨hi, ?_⟩
  unfold ran
  have hl : i < listed.size := by omega
  simp only [Array.getD, hl, dite_true] at h1 ⊢
  exact h1

theorem all_ran {listed : Array Bool} (hB : ordB md ops = true) (hs : listed.size = ops.size) (h : Region.ready md ops listed = []) : ∀ j, j < ops.size → ran listed j = true := by
  intro j
  induction j using Nat.strongRecOn with
  | _ j ih =>
    intro hj
    cases hr : ran listed j with
    | true => rfl
    | false =>
      exfalso
      have hm : j ∈ Region.ready md ops listed := by
        refine mem_ready.2 ⟨?_, ops[j], by simp [hj], fun e he hb => ?_⟩
        · have hl : j < listed.size := by omega
          unfold ran at hr
          simp only [Array.getD, hl, dite_true] at hr ⊢
          exact hr
        · have hlt := ordB_spec hB j ops[j] (by simp [hj]) e he hb
          exact ih e.on hlt (by omega)
      rw [h] at hm
      cases hm

theorem wpAny_inv {I : (Nat → Bool) → Act → World → Prop} (hB : ordB md ops = true)
    (hstep : ∀ i o, ops[i]? = some o → ∀ (L : Nat → Bool) (a : Act) (w : World), I L a w → L i = false → (∀ e ∈ o.after, Region.binds md e = true → L e.on = true) →
      ∀ K' : Act → World → Prop, Hid (∀ a w, I (fun j => if j = i then true else L j) a w → K' a w) → if Region.wanted o (yielded ops a.tmps) = true then Oper.wp P o a w K' Q else K' (a.put o.dst undef) w)
    (hdone : ∀ L a w, I L a w → (∀ j, j < ops.size → L j = true) → Q .normal a w) :
    ∀ (fuel : Nat) (listed : Array Bool) (a : Act) (w : World), listed.size = ops.size → still ops listed = fuel → I (ran listed) a w → wpAny P md ops Q fuel listed a w
  | 0, listed, a, w, hs, hf, hI => by
    have hall := still_none hf
    refine ⟨?_, hdone _ _ _ hI hall⟩
    cases hr : Region.ready md ops listed with
    | nil => rfl
    | cons i t =>
      have := ready_ran hs (show i ∈ Region.ready md ops listed by rw [hr]; simp)
      rw [hall i this.1] at this
      cases this.2
  | fuel + 1, listed, a, w, hs, hf, hI => by
    refine ⟨fun hr => hdone _ _ _ hI (all_ran hB hs hr), fun i hi => ?_⟩
    obtain ⟨hlt, hn⟩ := ready_ran hs hi
    obtain ⟨_, o, ho, hall⟩ := mem_ready.1 hi
    refine wpOp_step ho (fun K' hK => hstep i o ho (ran listed) a w hI hn hall K' (fun a' w' h' => hK a' w' ?_))
    refine wpAny_inv hB hstep hdone fuel _ a' w' (by simpa using hs) ?_ ?_
    · have := still_set (listed := listed) hlt hs hn
      omega
    · rw [ran_set (by omega)]
      exact h'

end

theorem wp_region_inv {P : Program} {id : Nat} {ops : Array Oper} {Q : Exit → Act → World → Prop} {a : Act} {w : World} (I : (Nat → Bool) → Act → World → Prop) (hm : P.follows .mixedOrders = true) (hB : ordB .any ops = true)
    (h0 : I (fun _ => false) a w.drew)
    (hstep : ∀ i o, ops[i]? = some o → ∀ (L : Nat → Bool) (a : Act) (w : World), I L a w → L i = false → (∀ e ∈ o.after, Region.binds .any e = true → L e.on = true) →
      ∀ K' : Act → World → Prop, Hid (∀ a w, I (fun j => if j = i then true else L j) a w → K' a w) → if Region.wanted o (yielded ops a.tmps) = true then Oper.wp P o a w K' Q else K' (a.put o.dst undef) w)
    (hdone : ∀ L a w, I L a w → (∀ j, j < ops.size → L j = true) → Q .normal a w) : (Code.region id ops true).wp P Q a w := by
  have hr : ran (Array.replicate ops.size false) = fun _ => false := by
    funext j
    unfold ran
    rcases Nat.lt_or_ge j ops.size with h | h <;> simp [Array.getD, h]
  refine wp_region_any hm (wpAny_inv hB hstep hdone ops.size _ a _ (by simp) ?_ ?_)
  · unfold still
    rw [hr]
    simp only [Bool.not_false]
    rw [List.filter_eq_self.2 (fun _ _ => rfl), List.length_range]
  · rw [hr]
    exact h0
end Go.Proofs.YtkpdejnhjbojpaaDoor
