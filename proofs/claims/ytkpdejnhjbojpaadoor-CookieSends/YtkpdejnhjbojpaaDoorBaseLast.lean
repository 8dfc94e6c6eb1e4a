/-
  A region that draws its order, quiet but for its last operations, which wait for all the others and for one another.
-/
import Derived.Test.YtkpdejnhjbojpaaDoorBaseDraw
namespace Go.Proofs.YtkpdejnhjbojpaaDoor
open Go.RowKit
set_option linter.unusedVariables false

section
variable {P : Program} {ops : Array Oper} {md : Region.Mode} {C : World → Prop} {z : Nat}

/-- What is listed has all listed for which it waits. -/
def Shut (md : Region.Mode) (ops : Array Oper) (listed : Array Bool) : Prop :=
  ∀ j o, ops[j]? = some o → listed.getD j false = true → ∀ e ∈ o.after, Region.binds md e = true → listed.getD e.on false = true

theorem Shut.set {listed : Array Bool} {i : Nat} (h : Shut md ops listed) (hr : i ∈ Region.ready md ops listed) : Shut md ops (listed.setIfInBounds i true) := by
  intro j o ho hj e he hb
  by_cases hij : i = j
  · subst hij
    obtain ⟨_, o', ho', hall⟩ := mem_ready.1 hr
    have : o' = o := by simpa [ho] using ho'.symm
    subst this
    exact getD_set_true (hall e he hb)
  · rw [getD_set_ne false hij] at hj
    exact getD_set_true (h j o ho hj e he hb)

theorem Shut.none (n : Nat) : Shut md ops (Array.replicate n false) := by
  intro j o ho hj
  rcases Nat.lt_or_ge j n with h | h <;> simp [Array.getD, h] at hj

/-- Each operation before z is waited for by a later one, z's number at the most. -/
def toppedB (md : Region.Mode) (ops : Array Oper) (z : Nat) : Bool :=
  (List.range z).all fun j => (List.range (z + 1)).any fun k => decide (j < k) && (match ops[k]? with | some o => o.after.any (fun e => Region.binds md e && e.on == j) | none => false)

theorem toppedB_spec (h : toppedB md ops z = true) (j : Nat) (hj : j < z) : ∃ k o e, j < k ∧ k ≤ z ∧ ops[k]? = some o ∧ e ∈ o.after ∧ Region.binds md e = true ∧ e.on = j := by
  unfold toppedB at h
  rw [List.all_eq_true] at h
  have h1 := h j (List.mem_range.2 hj)
  rw [List.any_eq_true] at h1
  obtain ⟨k, hk, h2⟩ := h1
  rw [Bool.and_eq_true] at h2
  cases ho : ops[k]? with
  | none => simp [ho] at h2
  | some o =>
    simp only [ho] at h2
    obtain ⟨e, he, hb⟩ := Array.any_eq_true'.1 h2.2
    simp only [Bool.and_eq_true, beq_iff_eq] at hb
    have := List.mem_range.1 hk
    exact ⟨k, o, e, by simpa using h2.1, by omega, ho, he, hb.1, hb.2⟩

/-- Operation j has all listed for which it waits. -/
def Ripe (md : Region.Mode) (ops : Array Oper) (listed : Array Bool) (j : Nat) : Prop :=
  ∃ o, ops[j]? = some o ∧ ∀ e ∈ o.after, Region.binds md e = true → listed.getD e.on false = true

theorem waited {listed : Array Bool} (ht : toppedB md ops z = true) (hS : Shut md ops listed) (hz : Ripe md ops listed z) :
    ∀ d j, j < z → z - j ≤ d → listed.getD j false = true := by
  intro d
  induction d with
  | zero => intro j h1 h2; omega
  | succ d ih =>
    intro j h1 h2
    obtain ⟨k, o, e, hjk, hkz, ho, he, hb, rfl⟩ := toppedB_spec ht j h1
    rcases Nat.lt_or_ge k z with h | h
    · exact hS k o ho (ih k h (by omega)) e he hb
    · have : k = z := by omega
      subst this
      obtain ⟨o', ho', hall⟩ := hz
      have : o' = o := by simpa [ho] using ho'.symm
      subst this
      exact hall e he hb

/-- Each operation behind z waits for one of z and what lies between. -/
def tailedB (md : Region.Mode) (ops : Array Oper) (z : Nat) : Bool :=
  (List.range ops.size).all fun j => decide (j ≤ z) || (match ops[j]? with | some o => o.after.any (fun e => Region.binds md e && decide (z ≤ e.on) && decide (e.on < j)) | none => false)

theorem tailedB_spec (h : tailedB md ops z = true) (j : Nat) (hj : z < j) (o : Oper) (ho : ops[j]? = some o) : ∃ e, e ∈ o.after ∧ Region.binds md e = true ∧ z ≤ e.on ∧ e.on < j := by
  unfold tailedB at h
  rw [List.all_eq_true] at h
  have h1 := h j (List.mem_range.2 (Array.getElem?_eq_some_iff.1 ho).1)
  simp only [ho, Bool.or_eq_true, decide_eq_true_eq] at h1
  rcases h1 with h1 | h1
  · omega
  · obtain ⟨e, he, hb⟩ := Array.any_eq_true'.1 h1
    simp only [Bool.and_eq_true, decide_eq_true_eq] at hb
    exact ⟨e, he, hb.1.1, hb.1.2, hb.2⟩

theorem ripe_down {listed : Array Bool} (ht : tailedB md ops z = true) (hS : Shut md ops listed) : ∀ d j, z ≤ j → j ≤ z + d → Ripe md ops listed j → Ripe md ops listed z := by
  intro d
  induction d with
  | zero => intro j h1 h2 h; rwa [show j = z by omega] at h
  | succ d ih =>
    intro j h1 h2 h
    rcases Nat.lt_or_ge z j with hj | hj
    · obtain ⟨o, ho, hall⟩ := h
      obtain ⟨e, he, hb, h3, h4⟩ := tailedB_spec ht j hj o ho
      have hl := hall e he hb
      have hlt : e.on < ops.size := Nat.lt_trans h4 (Array.getElem?_eq_some_iff.1 ho).1
      exact ih e.on h3 (by omega) ⟨ops[e.on], by simp [hlt], fun e' he' hb' => hS e.on _ (by simp [hlt]) hl e' he' hb'⟩
    · rwa [show j = z by omega] at h

theorem not_yet {listed : Array Bool} {i j : Nat} (ht : toppedB md ops z = true) (ht2 : tailedB md ops z = true) (hS : Shut md ops listed) (hi : i ∈ Region.ready md ops listed) (hiz : i < z)
    (hj : j ∈ Region.ready md ops listed) : j < z := by
  rcases Nat.lt_or_ge j z with h | h
  · exact h
  exfalso
  have h1 := waited ht hS (ripe_down ht2 hS (j - z) j h (by omega) (mem_ready.1 hj).2) z i hiz (by omega)
  have h2 := (mem_ready.1 hi).1
  rcases Nat.lt_or_ge i listed.size with h | h
  · simp [Array.getD, h] at h1 h2
    rw [h1] at h2; cases h2
  · simp [Array.getD, Nat.not_lt.2 h] at h2

/-- The last r operations come in their order. -/
def tailB (md : Region.Mode) (ops : Array Oper) : Nat → Nat → Array Bool → Bool
  | 0, _, listed => (Region.ready md ops listed).isEmpty
  | r + 1, z, listed => decide (Region.ready md ops listed = [z]) && tailB md ops r (z + 1) (listed.setIfInBounds z true)

/-- What they leave. -/
def wpTail (P : Program) (ops : Array Oper) (Q : Exit → Act → World → Prop) : Nat → Nat → Act → World → Prop
  | 0, _, a, w => Q .normal a w
  | r + 1, z, a, w => wpOp P ops Q z (wpTail P ops Q r (z + 1)) a w

theorem wpAny_tail {Q : Exit → Act → World → Prop} : ∀ (r z : Nat) (listed : Array Bool) (a : Act) (w : World), tailB md ops r z listed = true → wpTail P ops Q r z a w → wpAny P md ops Q r listed a w
  | 0, _, _, _, _, hB, h => ⟨by simpa [tailB] using hB, h⟩
  | r + 1, z, listed, a, w, hB, h => by
    simp only [tailB, Bool.and_eq_true, decide_eq_true_eq] at hB
    refine ⟨fun h0 => absurd (hB.1 ▸ h0) (by simp), fun i hi => ?_⟩
    have : i = z := by rw [hB.1] at hi; simpa using hi
    subst this
    exact wpOp_mono (fun a' w' h => wpAny_tail r (i + 1) _ a' w' hB.2 h) h

/-- Whatever order is picked from here on, up to z. -/
def wpAnyZ (P : Program) (md : Region.Mode) (ops : Array Oper) (C : World → Prop) (r z : Nat) (F : Act → Prop) : Nat → Array Bool → Act → Prop
  | 0, listed, a => (∀ i ∈ Region.ready md ops listed, ¬ i < z) ∧ tailB md ops r z listed = true ∧ F a
  | fuel + 1, listed, a =>
    Region.ready md ops listed ≠ [] ∧
    ∀ i ∈ Region.ready md ops listed, qOp P ops C i (wpAnyZ P md ops C r z F fuel (listed.setIfInBounds i true)) a

theorem wpAny_of_last {r : Nat} {F : Act → Prop} {Q : Exit → Act → World → Prop} (hF : ∀ a w, C w → F a → wpTail P ops Q r z a w) :
    ∀ (fuel : Nat) (listed : Array Bool) (a : Act) (w : World), C w → wpAnyZ P md ops C r z F fuel listed a → wpAny P md ops Q (r + fuel) listed a w
  | 0, listed, a, w, hw, h => wpAny_tail r z listed a w h.2.1 (hF a w hw h.2.2)
  | fuel + 1, _, _, _, hw, h => ⟨fun h0 => absurd h0 h.1, fun i hi => wpOp_of_qOp hw (fun a' w' hw' => wpAny_of_last hF fuel _ a' w' hw') (h.2 i hi)⟩

theorem wpAnyZ_first {r : Nat} {F : Act → Prop} {i : Nat} {oi : Oper} {v : Value} (ht : toppedB md ops z = true) (ht2 : tailedB md ops z = true) (hiz : i < z) (hi : ops[i]? = some oi) (hsel : ∀ (j : Nat) (o : Oper) cs b, ops[j]? = some o → o.op ≠ .select cs b) :
    ∀ (fuel : Nat) (listed : Array Bool) (a : Act), Shut md ops listed →
      (∀ j oj, ops[j]? = some oj → j ≠ i → listed.getD j true = false → (∀ e ∈ oj.after, Region.binds md e = true → e.on ≠ i) → oi.apart ops oj = true) →
      i ∈ Region.ready md ops listed → YieldsIn P ops C oi v a →
      wpAnyZ P md ops C r z F fuel (listed.setIfInBounds i true) (a.put oi.dst v) → wpAnyZ P md ops C r z F (fuel + 1) listed a := by
  intro fuel
  induction fuel with
  | zero =>
    intro listed a hS _ hr hy H
    refine ⟨fun h => (by rw [h] at hr; cases hr), fun j hj => ?_⟩
    by_cases hji : j = i
    · subst hji; exact hy.qOp hi H
    · exact absurd (not_yet ht ht2 hS hr hiz hj) (H.1 j (ready_mono hj hji))
  | succ fuel ih =>
    intro listed a hS hfree hr hy H
    refine ⟨fun h => (by rw [h] at hr; cases hr), fun j hj => ?_⟩
    by_cases hji : j = i
    · subst hji; exact hy.qOp hi H
    · have h1 := H.2 j (ready_mono hj hji)
      obtain ⟨hjun, oj, hoj, hall⟩ := mem_ready.1 hj
      have hnot : ∀ e ∈ oj.after, Region.binds md e = true → e.on ≠ i := fun e he hb heq => by
        have h1 := hall e he hb
        have h0 := (mem_ready.1 hr).1
        rw [heq] at h1
        rcases Nat.lt_or_ge i listed.size with h' | h'
        · simp [h'] at h0 h1; rw [h0] at h1; cases h1
        · simp [Array.getElem?_eq_none h'] at h1
      have h2 := qOp_put hoj (hfree j oj hoj hji hjun hnot) (fun cs b => hsel i oi cs b hi) (fun cs b => hsel j oj cs b hoj) hy h1
      have hfree' : ∀ k ok, ops[k]? = some ok → k ≠ i → (listed.setIfInBounds j true).getD k true = false →
          (∀ e ∈ ok.after, Region.binds md e = true → e.on ≠ i) → oi.apart ops ok = true := fun k ok hk hki hun hno => by
        refine hfree k ok hk hki ?_ hno
        by_cases hjk : j = k
        · subst hjk; exact hjun
        · rw [getD_set_ne true hjk] at hun; exact hun
      refine qOp_mono (fun a' h3 => ih (listed.setIfInBounds j true) a' (hS.set hj) hfree' (ready_mono hr (Ne.symm hji)) h3.1 ?_) h2
      rw [Array.setIfInBounds_comm _ _ hji]
      exact h3.2

/-- The order of the text serves, up to z. -/
def lexTop (md : Region.Mode) (ops : Array Oper) (r z : Nat) : Nat → Nat → Array Bool → Bool
  | 0, _, listed => (Region.ready md ops listed).all (fun i => !decide (i < z)) && tailB md ops r z listed
  | fuel + 1, k, listed => (Region.ready md ops listed).contains k && Region.free md ops listed k && lexTop md ops r z fuel (k + 1) (listed.setIfInBounds k true)

theorem wpAnyZ_lex {r : Nat} {F : Act → Prop} (ht : toppedB md ops z = true) (ht2 : tailedB md ops z = true) (hs : Region.noSelect ops = true) : ∀ (l : List Oper) (k : Nat) (listed : Array Bool) (a : Act), (∀ j, j < l.length → l[j]? = ops[k + j]?) → k + l.length = z → Shut md ops listed →
    lexTop md ops r z l.length k listed = true → wpQuiet P ops C F l a → wpAnyZ P md ops C r z F l.length listed a
  | [], _, _, _, _, _, _, hB, h => by
    simp only [lexTop, List.length_nil, Bool.and_eq_true, List.all_eq_true] at hB
    exact ⟨fun i hi => by simpa using hB.1 i hi, hB.2, h⟩
  | o :: l, k, listed, a, hl, hk, hS, hB, h => by
    have h0 : ops[k]? = some o := by simpa using (hl 0 (by simp)).symm
    simp only [List.length_cons, lexTop, Bool.and_eq_true] at hB
    obtain ⟨⟨hr, hf⟩, hB'⟩ := hB
    have hr' : k ∈ Region.ready md ops listed := by simpa using hr
    have hst : qOp P ops C k (wpQuiet P ops C F l) a := by unfold qOp; simp only [h0]; exact h
    obtain ⟨v, hy, hK⟩ := yieldsIn_of_qOp h0 hst
    simp only [List.length_cons] at hk
    exact wpAnyZ_first ht ht2 (by omega) h0 (Region.noSelect_spec hs) l.length listed a hS (Region.free_spec h0 hf) hr' hy
      (wpAnyZ_lex ht ht2 hs l (k + 1) _ _ (fun j hj => by have := hl (j + 1) (by simpa using hj); simpa [Nat.add_assoc, Nat.add_comm 1 j] using this) (by omega) (hS.set hr') hB' hK)

end

/-- The Bool of it all: quiet up to z, then r operations in their order. -/
def lastB (ops : Array Oper) (z r : Nat) : Bool :=
  decide (ops.size = r + z) && toppedB .any ops z && tailedB .any ops z && Region.noSelect ops && lexTop .any ops r z z 0 (Array.replicate ops.size false)

/-- One walk of the order of the text up to z; the last r from each world of the class. -/
theorem wp_region_last {P : Program} {id : Nat} {Q : Exit → Act → World → Prop} {a : Act} {w : World} {l l' : List Oper} {z r : Nat} (hm : P.follows .mixedOrders = true) (hB : lastB l.toArray z r = true) (hl : l.take z = l')
    (h : wpQuiet P l.toArray (fun w' => ∃ x : Ext w, w' = x.world) (fun a' => ∀ w', (∃ x : Ext w, w' = x.world) → wpTail P l.toArray Q r z a' w') l' a) : (Code.region id l.toArray true).wp P Q a w := by
  subst hl
  simp only [lastB, Bool.and_eq_true, decide_eq_true_eq] at hB
  obtain ⟨⟨⟨⟨hz, ht⟩, ht2⟩, hs⟩, hx⟩ := hB
  have hz' : l.length = r + z := by simpa using hz
  have hlen : (l.take z).length = z := by simp; omega
  refine wp_region_any hm ?_
  have hF := wpAnyZ_lex ht ht2 hs (l.take z) 0 (Array.replicate l.toArray.size false) a (fun j hj => by rw [hlen] at hj; simp [hj]) (by omega) (Shut.none _) (by rw [hlen]; exact hx) h
  rw [hlen] at hF
  have hR := wpAny_of_last (Q := Q) (fun a w' hw' h => h w' hw') z _ a { w with drawn := w.drawn + 1 } ⟨⟨w.drew, (Below.refl _ _).drew⟩, rfl⟩ hF
  rw [← hz] at hR
  exact hR

theorem wpTail_eq {P : Program} {ops : Array Oper} {Q : Exit → Act → World → Prop} : ∀ (r z : Nat), wpTail P ops Q r z = wpOps P ops Q (List.range' z r)
  | 0, z => by funext a w; simp [wpTail, wpOps]
  | r + 1, z => by
    funext a w
    rw [List.range'_succ, wpOps_cons, ← wpTail_eq r (z + 1)]
    rfl

/-- The same, the last ones as a list to be walked. -/
theorem wp_region_lastL {P : Program} {id : Nat} {Q : Exit → Act → World → Prop} {a : Act} {w : World} {l l' l2 : List Oper} {z r : Nat} (hm : P.follows .mixedOrders = true) (hB : lastB l.toArray z r = true) (hl : l.take z = l') (hd : l.drop z = l2)
    (h : wpQuiet P l.toArray (fun w' => ∃ x : Ext w, w' = x.world) (fun a' => ∀ w', (∃ x : Ext w, w' = x.world) → wpList P l.toArray Q l2 a' w') l' a) : (Code.region id l.toArray true).wp P Q a w := by
  have hz : l.toArray.size = r + z := by
    simp only [lastB, Bool.and_eq_true, decide_eq_true_eq] at hB
    exact hB.1.1.1.1
  have hz' : l.length = r + z := by simpa using hz
  have e : wpTail P l.toArray Q r z = wpList P l.toArray Q l2 := by
    subst hd
    have hlen : (l.drop z).length = r := by simp; omega
    have := wpOps_eq_wpList (P := P) (ops := l.toArray) (Q := Q) (l.drop z) z (by intro j; simp)
    rw [hlen] at this
    rw [wpTail_eq, this]
  refine wp_region_last hm hB hl ?_
  rw [e]
  exact h
end Go.Proofs.YtkpdejnhjbojpaaDoor
