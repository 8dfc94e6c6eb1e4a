/-
  Values as rows of items (json): the document's way to ask whether a row is a value's, by holders, is the machine over what is open: plain facts.
-/
import Derived.Test.YtmnigdcgdebgoaaDoorMathN
namespace Go.Proofs.YtmnigdcgdebgoaaDoor
set_option linter.unusedVariables false

def itL (l : List It) (i : Nat) : It := l.getD i ⟨0, 0, [], [], 0⟩
theorem itL_get (l : List It) (i : Nat) (h : i < l.length) : itL l i = l[i] := by
  unfold itL
  rw [List.getD_eq_getElem?_getD, List.getElem?_eq_getElem h]
  rfl
/-- May an item be, by itself? -/
def mayU (x : It) : Bool := decide (1 ≤ x.kind) && decide (x.kind ≤ 7) && (decide (x.kind = 4) || decide (x.n = 0)) && (decide (x.kind = 5) || x.text.isEmpty) && decide (x.depth ≤ 64) && (decide (x.kind < 6) || decide (x.depth < 64)) && validU x.key && validU x.text
/-- Where the last item ahead of k is that has a depth. -/
def holdN (l : List It) (D : Int) : Nat → Int
  | 0 => -1
  | k + 1 => if (itL l k).depth = D then (k : Int) else holdN l D k
def AloneAt (l : List It) (k : Nat) (h : Int) : Prop := ∀ i : Nat, h < (i : Int) → i < k → ¬ ((itL l i).depth = (itL l k).depth ∧ (itL l i).key = (itL l k).key)
def mostAt (l : List It) (k : Nat) : Int := (itL l (k - 1)).depth + (if 6 ≤ (itL l (k - 1)).kind then 1 else 0)
def holdAt (l : List It) (k : Nat) : Int := holdN l ((itL l k).depth - 1) k
def FitsAt (l : List It) (k : Nat) : Prop := mayU (itL l k) = true ∧ 1 ≤ (itL l k).depth ∧ (itL l k).depth ≤ mostAt l k
def DocStep (l : List It) (k : Nat) : Prop :=
  FitsAt l k ∧ ((itL l (holdAt l k).toNat).kind = 6 → (itL l k).key = []) ∧ ((itL l (holdAt l k).toNat).kind = 7 → AloneAt l k (holdAt l k))
def DocHead (l : List It) : Prop := l ≠ [] ∧ (itL l 0).depth = 0 ∧ (itL l 0).key = [] ∧ mayU (itL l 0) = true

theorem mayU_yes (x : It) : mayU x = true ↔ wholeU x = true ∧ x.depth ≤ 64 ∧ validU x.key = true := by
  unfold mayU wholeU
  simp only [Bool.and_eq_true, Bool.or_eq_true, decide_eq_true_eq]
  constructor
  · rintro ⟨⟨⟨⟨⟨⟨⟨h1, h2⟩, h3⟩, h4⟩, h5⟩, h6⟩, h7⟩, h8⟩
    exact ⟨⟨⟨⟨⟨⟨h1, h2⟩, h4⟩, h8⟩, h3⟩, h6⟩, h5, h7⟩
  · rintro ⟨⟨⟨⟨⟨⟨h1, h2⟩, h4⟩, h8⟩, h3⟩, h6⟩, h5, h7⟩
    exact ⟨⟨⟨⟨⟨⟨⟨h1, h2⟩, h3⟩, h4⟩, h5⟩, h6⟩, h7⟩, h8⟩

theorem holdN_at (l : List It) (D : Int) (k h : Nat) (hk : h < k) (hd : (itL l h).depth = D) (hn : ∀ i, h < i → i < k → (itL l i).depth ≠ D) : holdN l D k = (h : Int) := by
  induction k with
  | zero => omega
  | succ k ih =>
    unfold holdN
    by_cases e : h = k
    · subst e
      rw [if_pos hd]
    · rw [if_neg (hn k (by omega) (by omega))]
      exact ih (by omega) (fun i h1 h2 => hn i h1 (by omega))

/-- Keys of the items of a depth between two places. -/
def keysN (l : List It) (D : Int) (h : Nat) : Nat → List (List UInt8)
  | 0 => []
  | k + 1 => if h < k ∧ (itL l k).depth = D then keysN l D h k ++ [(itL l k).key] else keysN l D h k
theorem keysN_mem (l : List It) (D : Int) (h k : Nat) (x : List UInt8) : x ∈ keysN l D h k ↔ ∃ i, h < i ∧ i < k ∧ (itL l i).depth = D ∧ (itL l i).key = x := by
  induction k with
  | zero =>
    constructor
    · intro h; cases h
    · rintro ⟨i, _, h, _⟩; omega
  | succ k ih =>
    unfold keysN
    by_cases c : h < k ∧ (itL l k).depth = D
    · rw [if_pos c, List.mem_append, ih, List.mem_singleton]
      constructor
      · rintro (⟨i, h1, h2, h3, h4⟩ | rfl)
        · exact ⟨i, h1, by omega, h3, h4⟩
        · exact ⟨k, c.1, by omega, c.2, rfl⟩
      · rintro ⟨i, h1, h2, h3, h4⟩
        by_cases e : i = k
        · subst e
          exact .inr h4.symm
        · exact .inl ⟨i, h1, by omega, h3, h4⟩
    · rw [if_neg c, ih]
      constructor
      · rintro ⟨i, h1, h2, h3, h4⟩
        exact ⟨i, h1, by omega, h3, h4⟩
      · rintro ⟨i, h1, h2, h3, h4⟩
        have : i ≠ k := fun e => c (by subst e; exact ⟨h1, h3⟩)
        exact ⟨i, h1, by omega, h3, h4⟩
theorem keysN_low (l : List It) (D : Int) (h k : Nat) (hk : k ≤ h + 1) : keysN l D h k = [] := by
  induction k with
  | zero => rfl
  | succ k ih =>
    unfold keysN
    rw [if_neg (by omega)]
    exact ih (by omega)

/-- What is open, by the row so far. -/
structure OpenAt (l : List It) (k : Nat) (st : St) : Prop where
  len : (st.length : Int) = mostAt l k
  most : st.length ≤ 64
  at_ : ∀ (j : Nat) (o : Bool) (ks : List (List UInt8)), st[j]? = some (o, ks) → ∃ h, h < k ∧ (itL l h).depth = (j : Int) ∧ (∀ i, h < i → i < k → (itL l i).depth ≠ (j : Int)) ∧ (itL l h).kind = kindO o ∧ ks = if o then keysN l ((j : Int) + 1) h k else []

theorem take_last (st : St) (D : Nat) (h1 : 1 ≤ D) (hl : D ≤ st.length) : ∃ o ks, st[D - 1]? = some (o, ks) ∧ st.take D = st.take (D - 1) ++ [(o, ks)] := by
  have hlt : D - 1 < st.length := by omega
  refine ⟨(st[D - 1]).1, (st[D - 1]).2, by rw [List.getElem?_eq_getElem hlt], ?_⟩
  have := List.take_succ_eq_append_getElem hlt
  rw [show D - 1 + 1 = D by omega] at this
  exact this

theorem open_step {l : List It} {k : Nat} {st : St} (hk : 1 ≤ k) (H : OpenAt l k st) : (∀ st', stepU k st (itL l k) = some st' → DocStep l k ∧ OpenAt l (k + 1) st') ∧ (DocStep l k → ∃ st', stepU k st (itL l k) = some st') ∧ (FitsAt l k → ∃ h : Nat, h < k ∧ holdAt l k = (h : Int)) := by
  have hD : 1 ≤ (itL l k).depth → (itL l k).depth ≤ (st.length : Int) → ∃ (D : Nat) (o : Bool) (ks : List (List UInt8)) (h : Nat), (itL l k).depth = (D : Int) ∧ 1 ≤ D ∧ D ≤ st.length ∧ st[D - 1]? = some (o, ks) ∧ st.take D = st.take (D - 1) ++ [(o, ks)] ∧ h < k ∧ (itL l h).depth = ((D - 1 : Nat) : Int) ∧ (∀ i, h < i → i < k → (itL l i).depth ≠ ((D - 1 : Nat) : Int)) ∧ (itL l h).kind = kindO o ∧ (ks = if o then keysN l (((D - 1 : Nat) : Int) + 1) h k else []) ∧ holdAt l k = (h : Int) := by
    intro h1 h2
    obtain ⟨D, hDe⟩ : ∃ D : Nat, (itL l k).depth = (D : Int) := ⟨(itL l k).depth.toNat, by omega⟩
    obtain ⟨o, ks, e1, e2⟩ := take_last st D (by omega) (by omega)
    obtain ⟨h, a1, a2, a3, a4, a5⟩ := H.at_ _ _ _ e1
    refine ⟨D, o, ks, h, hDe, by omega, by omega, e1, e2, a1, a2, a3, a4, a5, ?_⟩
    unfold holdAt
    refine holdN_at l _ k h a1 (by rw [a2]; omega) (fun i b1 b2 => ?_)
    have := a3 i b1 b2
    omega
  have hal : ∀ (D : Nat) (h : Nat) (ks : List (List UInt8)), (itL l k).depth = (D : Int) → 1 ≤ D → ks = keysN l (((D - 1 : Nat) : Int) + 1) h k → ((itL l k).key ∉ ks ↔ AloneAt l k (h : Int)) := by
    intro D h ks hDe h1 hks
    subst hks
    rw [keysN_mem]
    have e : (((D - 1 : Nat) : Int) + 1) = (D : Int) := by omega
    rw [e]
    constructor
    · intro hn i b1 b2 hb
      exact hn ⟨i, by omega, b2, by rw [hb.1, hDe], hb.2⟩
    · rintro ha ⟨i, b1, b2, b3, b4⟩
      exact ha i (by omega) b2 ⟨by rw [b3, hDe], b4⟩
  refine ⟨?_, ?_, ?_⟩
  · intro st' hs
    obtain ⟨h0, hle, hw, hkey, hst⟩ := stepU_yes hs
    have hone : (1 : Int) ≤ (itL l k).depth := by
      unfold stepU at hs
      by_cases hc : ((if k = 0 then 0 else 1 : Int) ≤ (itL l k).depth ∧ (itL l k).depth ≤ (st.length : Int)) ∧ wholeU (itL l k) = true
      · have := hc.1.1
        rw [if_neg (by omega)] at this
        exact this
      · rw [if_neg hc] at hs
        cases hs
    obtain ⟨D, o, ks, h, hDe, d1, d2, e1, e2, a1, a2, a3, a4, a5, a6⟩ := hD hone hle
    have hDn : (itL l k).depth.toNat = D := by omega
    rw [hDn, e2, keyedU_snoc] at hkey
    rw [hDn, e2, noteU_snoc] at hst
    have hlen64 := H.most
    obtain ⟨w1, w7, _, _, _, w64⟩ : 1 ≤ (itL l k).kind ∧ (itL l k).kind ≤ 7 ∧ True ∧ True ∧ True ∧ ((itL l k).kind < 6 ∨ (itL l k).depth < 64) := by
      unfold wholeU at hw
      simp only [Bool.and_eq_true, Bool.or_eq_true, decide_eq_true_eq] at hw
      exact ⟨hw.1.1.1.1.1, hw.1.1.1.1.2, trivial, trivial, trivial, hw.2⟩
    have hvk : validU (itL l k).key = true := by
      cases o with
      | true => simp at hkey; exact hkey.2
      | false =>
        have : (itL l k).key = [] := by simpa using hkey
        rw [this]
        exact valid_nil
    have hfit : FitsAt l k := ⟨(mayU_yes _).2 ⟨hw, by omega, hvk⟩, hone, by rw [← H.len]; exact hle⟩
    have hmost : mostAt l (k + 1) = (D : Int) + (if 6 ≤ (itL l k).kind then 1 else 0) := by
      unfold mostAt
      rw [Nat.add_sub_cancel, hDe]
    have htl : (st.take (D - 1)).length = D - 1 := by rw [List.length_take]; omega
    refine ⟨⟨hfit, ?_, ?_⟩, ?_, ?_, ?_⟩
    · rw [a6, Int.toNat_natCast, a4]
      intro h6
      cases o with
      | true => exact absurd h6 (by decide)
      | false => simpa using hkey
    · rw [a6, Int.toNat_natCast, a4]
      intro h7
      cases o with
      | false => exact absurd h7 (by decide)
      | true =>
        simp at hkey
        exact (hal D h ks hDe d1 (by simpa using a5)).1 hkey.1
    · rw [hmost]
      split at hst
      · rename_i h6
        rw [hst, if_pos h6, List.length_append, List.length_append, htl]
        simp
        omega
      · rename_i h6
        rw [hst, if_neg h6, List.length_append, htl]
        simp
        omega
    · split at hst
      · rename_i h6
        rw [hst, List.length_append, List.length_append, htl]
        simp
        omega
      · rw [hst, List.length_append, htl]
        simp
        omega
    · have old : ∀ (j : Nat) (o2 : Bool) (ks2 : List (List UInt8)), (st.take (D - 1) ++ [(o, if o then ks ++ [(itL l k).key] else ks)])[j]? = some (o2, ks2) → ∃ h, h < k + 1 ∧ (itL l h).depth = (j : Int) ∧ (∀ i, h < i → i < k + 1 → (itL l i).depth ≠ (j : Int)) ∧ (itL l h).kind = kindO o2 ∧ ks2 = if o2 then keysN l ((j : Int) + 1) h (k + 1) else [] := by
        intro j o2 ks2 hj
        by_cases hjD : j < D - 1
        · rw [List.getElem?_append_left (by omega), List.getElem?_take_of_lt hjD] at hj
          obtain ⟨g, b1, b2, b3, b4, b5⟩ := H.at_ j o2 ks2 hj
          refine ⟨g, by omega, b2, fun i c1 c2 => ?_, b4, ?_⟩
          · by_cases e : i = k
            · rw [e]
              omega
            · exact b3 i c1 (by omega)
          · rw [b5]
            cases o2 with
            | false => rfl
            | true =>
              simp only [if_true]
              rw [keysN, if_neg (by omega)]
        · rw [List.getElem?_append_right (by omega), htl] at hj
          have hj0 : j - (D - 1) = 0 := by
            by_cases e : j - (D - 1) = 0
            · exact e
            · rw [List.getElem?_eq_none (by simp; omega)] at hj
              cases hj
          rw [hj0] at hj
          simp at hj
          obtain ⟨rfl, hks2⟩ := hj
          have hjD2 : j = D - 1 := by omega
          subst hjD2
          refine ⟨h, by omega, a2, fun i c1 c2 => ?_, a4, ?_⟩
          · by_cases e : i = k
            · rw [e]
              omega
            · exact a3 i c1 (by omega)
          · rw [← hks2]
            cases o with
            | false => simpa using a5
            | true =>
              have a5' : ks = keysN l (((D - 1 : Nat) : Int) + 1) h k := by simpa using a5
              simp only [if_true]
              rw [keysN, if_pos ⟨a1, by omega⟩, a5']
      intro j o2 ks2 hj
      split at hst
      · rename_i h6
        rw [hst] at hj
        by_cases hjD : j < D
        · rw [List.getElem?_append_left (by rw [List.length_append, htl]; simp; omega)] at hj
          exact old j o2 ks2 hj
        · have hl2 : (st.take (D - 1) ++ [(o, if o then ks ++ [(itL l k).key] else ks)]).length = D := by rw [List.length_append, htl]; simp; omega
          rw [List.getElem?_append_right (by omega), hl2] at hj
          have hj0 : j - D = 0 := by
            by_cases e : j - D = 0
            · exact e
            · rw [List.getElem?_eq_none (by simp; omega)] at hj
              cases hj
          rw [hj0] at hj
          simp at hj
          obtain ⟨ho2, hks2⟩ := hj
          have hjD2 : j = D := by omega
          subst hjD2
          refine ⟨k, by omega, hDe, fun i c1 c2 => by omega, ?_, ?_⟩
          · subst ho2
            by_cases e7 : (itL l k).kind = 7
            · simp [e7, kindO]
            · have : (itL l k).kind = 6 := by omega
              simp [this, kindO]
          · rw [keysN_low l _ k (k + 1) (by omega)]
            simp [hks2]
      · rw [hst] at hj
        exact old j o2 ks2 hj
  · rintro ⟨⟨hm, hone, hle⟩, h6, h7⟩
    obtain ⟨hw, h64, hvk⟩ := (mayU_yes _).1 hm
    rw [← H.len] at hle
    obtain ⟨D, o, ks, h, hDe, d1, d2, e1, e2, a1, a2, a3, a4, a5, a6⟩ := hD hone hle
    refine ⟨_, step_ok k st (itL l k) D hDe (fun _ => d1) d2 hw ?_⟩
    rw [e2, keyedU_snoc]
    rw [a6, Int.toNat_natCast, a4] at h6 h7
    cases o with
    | false =>
      have := h6 rfl
      simp [this]
    | true =>
      have := (hal D h ks hDe d1 (by simpa using a5)).2 (h7 rfl)
      simp [this, hvk]
  · rintro ⟨hm, hone, hle⟩
    rw [← H.len] at hle
    obtain ⟨D, o, ks, h, hDe, d1, d2, e1, e2, a1, a2, a3, a4, a5, a6⟩ := hD hone hle
    exact ⟨h, a1, a6⟩

/-- Behind the first item. -/
theorem open_head (l : List It) (H : DocHead l) : ∃ st, stepU 0 [] (itL l 0) = some st ∧ OpenAt l 1 st := by
  obtain ⟨hne, hd, hk, hm⟩ := H
  obtain ⟨hw, _, _⟩ := (mayU_yes _).1 hm
  refine ⟨_, step_ok 0 [] (itL l 0) 0 (by rw [hd]; rfl) (fun h => absurd rfl h) (Nat.le_refl _) hw (by rw [hk]; rfl), ?_⟩
  have w64 : (itL l 0).kind ≤ 7 := by
    unfold wholeU at hw
    simp only [Bool.and_eq_true, Bool.or_eq_true, decide_eq_true_eq] at hw
    exact hw.1.1.1.1.2
  have hmost : mostAt l 1 = (if 6 ≤ (itL l 0).kind then 1 else 0) := by
    unfold mostAt
    rw [Nat.sub_self, hd]
    omega
  rw [List.take_zero]
  have hn : noteU [] (itL l 0).key = [] := rfl
  rw [hn]
  by_cases h6 : 6 ≤ (itL l 0).kind
  · rw [if_pos h6]
    refine ⟨by rw [hmost, if_pos h6]; rfl, by simp, ?_⟩
    intro j o ks hj
    have hj0 : j = 0 := by
      by_cases e : j = 0
      · exact e
      · rw [List.getElem?_eq_none (by simp; omega)] at hj
        cases hj
    subst hj0
    simp at hj
    obtain ⟨ho, hks⟩ := hj
    refine ⟨0, by omega, by rw [hd]; rfl, fun i c1 c2 => by omega, ?_, ?_⟩
    · subst ho
      by_cases e7 : (itL l 0).kind = 7
      · simp [e7, kindO]
      · have : (itL l 0).kind = 6 := by omega
        simp [this, kindO]
    · rw [keysN_low l _ 0 1 (by omega)]
      simp [hks]
  · rw [if_neg h6]
    refine ⟨by rw [hmost, if_neg h6]; rfl, by simp, ?_⟩
    intro j o ks hj
    simp at hj
theorem head_of_step (l : List It) (hne : l ≠ []) (st : St) (h : stepU 0 [] (itL l 0) = some st) : DocHead l := by
  obtain ⟨h0, hle, hw, hkey, hst⟩ := stepU_yes h
  have hd : (itL l 0).depth = 0 := by
    have : (([] : St).length : Int) = 0 := rfl
    omega
  rw [hd] at hkey
  have hk : (itL l 0).key = [] := by
    have : (itL l 0).key.isEmpty = true := hkey
    simpa using this
  exact ⟨hne, hd, hk, (mayU_yes _).2 ⟨hw, by omega, by rw [hk]; exact valid_nil⟩⟩

theorem run_doc (l : List It) : ∀ (n k : Nat) (st : St), 1 ≤ k → k + n = l.length → OpenAt l k st → (runU k st (l.drop k) = true ↔ ∀ i, k ≤ i → i < l.length → DocStep l i) := by
  intro n
  induction n with
  | zero =>
    intro k st hk hn H
    rw [List.drop_of_length_le (by omega)]
    exact ⟨fun _ i h1 h2 => by omega, fun _ => by rw [runU]⟩
  | succ n ih =>
    intro k st hk hn H
    have hlt : k < l.length := by omega
    rw [List.drop_eq_getElem_cons hlt, ← itL_get l k hlt]
    obtain ⟨s1, s2, _⟩ := open_step hk H
    constructor
    · intro hr i h1 h2
      obtain ⟨st', hs, hr2⟩ : ∃ st', stepU k st (itL l k) = some st' ∧ runU (k + 1) st' (l.drop (k + 1)) = true := by
        rw [runU] at hr
        cases hs : stepU k st (itL l k) with
        | none => rw [hs] at hr; cases hr
        | some st' => rw [hs] at hr; exact ⟨st', rfl, hr⟩
      obtain ⟨d, O⟩ := s1 st' hs
      by_cases e : i = k
      · subst e
        exact d
      · exact (ih (k + 1) st' (by omega) (by omega) O).1 hr2 i (by omega) h2
    · intro h
      obtain ⟨st', hs⟩ := s2 (h k (Nat.le_refl _) hlt)
      obtain ⟨_, O⟩ := s1 st' hs
      rw [run_cons k st st' _ _ hs]
      exact (ih (k + 1) st' (by omega) (by omega) O).2 (fun i h1 h2 => h i (by omega) h2)

/-- The document's way is the machine's. -/
theorem right_doc (l : List It) : rightU l = true ↔ DocHead l ∧ ∀ i, 1 ≤ i → i < l.length → DocStep l i := by
  cases hl : l with
  | nil =>
    constructor
    · intro h; cases h
    · rintro ⟨⟨h, _⟩, _⟩; exact absurd rfl h
  | cons x t =>
    rw [← hl]
    have hne : l ≠ [] := by rw [hl]; simp
    have hx : itL l 0 = x := by rw [hl]; rfl
    have ht : l.drop 1 = t := by rw [hl]; rfl
    have hlen : 1 + t.length = l.length := by rw [hl]; simp; omega
    have e : rightU l = runU 0 [] (x :: t) := by rw [hl]; unfold rightU; simp
    rw [e]
    constructor
    · intro hr
      obtain ⟨st, hs, hr2⟩ : ∃ st', stepU 0 [] x = some st' ∧ runU 1 st' t = true := by
        rw [runU] at hr
        cases hs : stepU 0 [] x with
        | none => rw [hs] at hr; cases hr
        | some st' => rw [hs] at hr; exact ⟨st', rfl, hr⟩
      have hH := head_of_step l hne st (by rw [hx]; exact hs)
      obtain ⟨st2, hs2, O⟩ := open_head l hH
      rw [hx, hs] at hs2
      cases hs2
      refine ⟨hH, ?_⟩
      exact (run_doc l t.length 1 st (Nat.le_refl _) hlen O).1 (by rw [ht]; exact hr2)
    · rintro ⟨hH, hd⟩
      obtain ⟨st, hs, O⟩ := open_head l hH
      rw [hx] at hs
      rw [run_cons 0 [] st x t hs]
      have := (run_doc l t.length 1 st (Nat.le_refl _) hlen O).2 hd
      rw [ht] at this
      exact this

/-- While all is right so far, a holder is there, and it is an array or an object. -/
theorem open_at (l : List It) (H : DocHead l) : ∀ k, 1 ≤ k → (∀ i, 1 ≤ i → i < k → DocStep l i) → ∃ st, OpenAt l k st := by
  intro k
  induction k with
  | zero => intro h; omega
  | succ k ih =>
    intro _ hd
    by_cases e : k = 0
    · subst e
      obtain ⟨st, _, O⟩ := open_head l H
      exact ⟨st, O⟩
    · obtain ⟨st, O⟩ := ih (by omega) (fun i h1 h2 => hd i h1 (by omega))
      obtain ⟨s1, s2, _⟩ := open_step (by omega) O
      obtain ⟨st', hs⟩ := s2 (hd k (by omega) (by omega))
      exact ⟨st', (s1 st' hs).2⟩
theorem hold_there (l : List It) (H : DocHead l) (k : Nat) (hk : 1 ≤ k) (hd : ∀ i, 1 ≤ i → i < k → DocStep l i) (hf : FitsAt l k) : ∃ h : Nat, h < k ∧ holdAt l k = (h : Int) := by
  obtain ⟨st, O⟩ := open_at l H k hk hd
  exact (open_step hk O).2.2 hf
end Go.Proofs.YtmnigdcgdebgoaaDoor
