/-
  Values as rows of items (json): what stands behind a text, and the fuel of its reading: plain facts.
  Values as rows of items (json): what stands behind a value's text does not matter to it: plain facts.
  Values as rows of items (json): blanks around a text, and an array around it: plain facts.
  Values as rows of items (json): a right row is a good tree's: plain facts.
-/
import Derived.Test.YtmnigdcgdebgoaaDoorPlainM
import Derived.Test.YtmnigdcgdebgoaaDoorJsF
import Derived.Test.YtmnigdcgdebgoaaDoorMathN
namespace Go.Proofs.YtmnigdcgdebgoaaDoor
set_option linter.unusedVariables false

def Blanks (y : List UInt8) : Prop := ∀ c ∈ y, blankN c.toNat = true

theorem skip_blanks (y : List UInt8) (h : Blanks y) : skipL y = [] := by
  have := skip_app y [] h
  rw [List.append_nil] at this
  rw [this, skipL]

theorem skip_behind (y : List UInt8) : ∀ l : List UInt8, (∀ c t, skipL l = c :: t → skipL (l ++ y) = c :: (t ++ y)) ∧ (skipL l = [] → skipL (l ++ y) = skipL y)
  | [] => ⟨(fun c t h => by rw [skipL] at h; cases h), fun _ => rfl⟩
  | x :: l => by
    have ih := skip_behind y l
    cases hx : blankN x.toNat with
    | true =>
      have e : ∀ z, skipL (x :: z) = skipL z := fun z => by
        show (if blankN x.toNat = true then skipL z else _) = _
        rw [if_pos hx]
      rw [List.cons_append, e, e]
      exact ih
    | false =>
      rw [List.cons_append, skip_not x l hx, skip_not x (l ++ y) hx]
      refine ⟨fun c t h => ?_, fun h => by cases h⟩
      cases h
      rfl

/-! ## Pieces of a text in quotes, cut behind their end -/

theorem numQ_cut (l : List UInt8) (n j : Nat) (h : numQ l = some n) (hj : 5 ≤ j) : numQ (l.take j) = some n := by
  obtain ⟨i, rfl⟩ : ∃ i, j = i + 5 := ⟨j - 5, by omega⟩
  match l, h with
  | u :: a :: b :: c :: d :: r, h => exact h
theorem pairQ_cut (n : Nat) (l : List UInt8) (r j : Nat) (h : pairQ n l = some r) (hj : 6 ≤ j) : pairQ n (l.take j) = some r := by
  obtain ⟨i, rfl⟩ : ∃ i, j = i + 1 := ⟨j - 1, by omega⟩
  cases l with
  | nil => cases h
  | cons c t =>
    unfold pairQ at h
    rw [List.take_succ_cons]
    unfold pairQ
    simp only at h ⊢
    by_cases hc : c.toNat = 92
    · rw [if_pos hc] at h ⊢
      cases hm : numQ t with
      | none => rw [hm] at h; cases h
      | some m =>
        rw [hm] at h
        rw [numQ_cut t m i hm (by omega)]
        exact h
    · rw [if_neg hc] at h
      cases h
theorem escQ_cut (l : List UInt8) (r n : Nat) (h : escQ l = some (r, n)) : escQ (l.take (n - 1)) = some (r, n) := by
  cases l with
  | nil => cases h
  | cons c t =>
    unfold escQ at h
    simp only at h
    cases hb : backN c.toNat with
    | some x =>
      rw [hb] at h
      cases h
      show escQ [c] = _
      unfold escQ
      simp only
      rw [hb]
    | none =>
      rw [hb] at h
      simp only at h
      cases hm : numQ (c :: t) with
      | none => rw [hm] at h; cases h
      | some m =>
        rw [hm] at h
        simp only at h
        by_cases h1 : 56320 ≤ m ∧ m ≤ 57343
        · rw [if_pos h1] at h
          cases h
        · rw [if_neg h1] at h
          by_cases h2 : m < 55296 ∨ 57343 < m
          · rw [if_pos h2] at h
            cases h
            have e := numQ_cut (c :: t) r 5 hm (by omega)
            show escQ (c :: t.take 4) = _
            unfold escQ
            simp only
            rw [hb]
            simp only
            have e' : numQ (c :: t.take 4) = some r := e
            rw [e']
            simp only
            rw [if_neg h1, if_pos h2]
          · rw [if_neg h2] at h
            cases hp : pairQ m (t.drop 4) with
            | none => rw [hp] at h; cases h
            | some q =>
              rw [hp] at h
              cases h
              have e : numQ (c :: t.take 10) = some m := numQ_cut (c :: t) m 11 hm (by omega)
              show escQ (c :: t.take 10) = _
              unfold escQ
              simp only
              rw [hb]
              simp only
              rw [e]
              simp only
              rw [if_neg h1, if_neg h2]
              have e2 : (t.take 10).drop 4 = (t.drop 4).take 6 := by rw [List.drop_take]
              rw [e2, pairQ_cut m _ r 6 hp (by omega)]
              rfl
theorem piece_cut (l : List UInt8) (h : (pieceQ l).1 = 0) : pieceQ (l.take (pieceQ l).2.2) = pieceQ l := by
  cases l with
  | nil => cases h
  | cons c t =>
    by_cases h1 : c.toNat < 32
    · simp only [pieceQ] at h
      rw [if_pos h1] at h
      cases h
    · by_cases h2 : c.toNat = 92
      · cases he : escQ t with
        | none =>
          simp only [pieceQ] at h
          rw [if_neg h1, if_pos h2, he] at h
          cases h
        | some p =>
          obtain ⟨r, n⟩ := p
          have hn := (escQ_yes t r n he).2.1
          rw [pieceQ_esc c t r n h2 he]
          obtain ⟨i, rfl⟩ : ∃ i, n = i + 1 := ⟨n - 1, by omega⟩
          show pieceQ ((c :: t).take (i + 1)) = _
          rw [List.take_succ_cons]
          exact pieceQ_esc c _ r (i + 1) h2 (escQ_cut t r (i + 1) he)
      · by_cases h3 : (takeU (c :: t)).2.2 = true
        · obtain ⟨r, n, hrn⟩ : ∃ r n, takeU (c :: t) = (r, n, true) := ⟨(takeU (c :: t)).1, (takeU (c :: t)).2.1, by rw [← h3]⟩
          have hy := takeU_yes _ _ _ hrn
          rw [pieceQ_take c t r n h1 h2 hrn]
          show pieceQ ((c :: t).take n) = _
          have e := takeU_put r [] hy.1
          rw [List.append_nil, ← hy.2.2.1, hy.2.1] at e
          obtain ⟨i, rfl⟩ : ∃ i, n = i + 1 := ⟨n - 1, by omega⟩
          rw [List.take_succ_cons] at e ⊢
          rw [pieceQ_take c (t.take i) r (i + 1) h1 h2 e]
          rw [List.take_succ_cons, List.take_take, Nat.min_self]
        · simp only [pieceQ] at h
          rw [if_neg h1, if_neg h2, if_neg h3] at h
          cases h

/-- What is read ends with a quote, and what stands behind does not matter. -/
theorem readR_cut : ∀ (m : Nat) (l out : List UInt8) (k : Nat) (u : List UInt8) (n : Nat), l.length ≤ m → readR l out k = (0, u, n) → ∃ i, l[i]? = some 34 ∧ readR (l.take (i + 1)) out k = (0, u, n)
  | 0, l, out, k, u, n, hl, h => by
    have e : l = [] := List.length_eq_zero_iff.1 (by omega)
    subst e
    rw [readR_err [] out k (by simp) (by decide)] at h
    cases h
  | m + 1, l, out, k, u, n, hl, h => by
    by_cases h1 : l.head? = some 34
    · rw [readR_end l out k h1] at h
      cases l with
      | nil => cases h1
      | cons c t =>
        refine ⟨0, h1, ?_⟩
        rw [← h]
        exact readR_end _ _ _ h1
    · by_cases h2 : (pieceQ l).1 = 0
      · have hy := pieceQ_yes l h2
        rw [readR_step l out k h1 h2] at h
        obtain ⟨i, hi, hr⟩ := readR_cut m _ _ _ u n (by rw [List.length_drop]; omega) h
        rw [List.getElem?_drop] at hi
        refine ⟨(pieceQ l).2.2 + i, hi, ?_⟩
        have e : l.take ((pieceQ l).2.2 + i + 1) = l.take (pieceQ l).2.2 ++ (l.drop (pieceQ l).2.2).take (i + 1) := by
          rw [Nat.add_assoc, List.take_add]
        have hc := piece_cut l h2
        have hy2 := (pieceQ_yes (l.take (pieceQ l).2.2) (by rw [hc]; exact h2)).2.2.2 ((l.drop (pieceQ l).2.2).take (i + 1))
        rw [hc] at hy2
        have hh : (l.take ((pieceQ l).2.2 + i + 1)).head? ≠ some 34 := by
          cases l with
          | nil => simp
          | cons c t => exact h1
        rw [e] at hh ⊢
        rw [readR_step _ out k hh (by rw [hy2]; exact h2), hy2]
        have el : (l.take (pieceQ l).2.2).length = (pieceQ l).2.2 := by rw [List.length_take]; omega
        rw [List.drop_left' el]
        exact hr
      · rw [readR_err l out k h1 h2] at h
        exact absurd (congrArg Prod.fst h) h2

theorem readQ_less (l y : List UInt8) (hy : Blanks y) (h : (readQ (l ++ y)).1 = 0) : (readQ l).1 = 0 := by
  cases l with
  | nil =>
    exfalso
    unfold readQ at h
    cases y with
    | nil => cases h
    | cons c t =>
      have hc : c ≠ 34 := by
        intro e
        have := hy c List.mem_cons_self
        rw [e] at this
        exact absurd this (by decide)
      rw [if_neg (by show some c ≠ some 34; intro e; exact hc (Option.some.inj e))] at h
      cases h
  | cons c t =>
    unfold readQ at h ⊢
    by_cases hc : (c :: t).head? = some 34
    · rw [if_pos hc]
      have hc' : (c :: t ++ y).head? = some 34 := hc
      rw [if_pos hc'] at h
      have h' : (readR (t ++ y) [] 1).1 = 0 := h
      obtain ⟨i, hi, hr⟩ := readR_cut _ (t ++ y) [] 1 (readR (t ++ y) [] 1).2.1 (readR (t ++ y) [] 1).2.2 (Nat.le_refl _) (by rw [← h'])
      have hlt : i < t.length := by
        by_cases hlt : i < t.length
        · exact hlt
        · exfalso
          rw [List.getElem?_append_right (by omega)] at hi
          have := hy _ (List.mem_of_getElem? hi)
          exact absurd this (by decide)
      rw [List.take_append_of_le_length (by omega)] at hr
      show (readR t [] 1).1 = 0
      rcases readR_cases _ (t.take (i + 1)) [] 1 (Nat.le_refl _) with ⟨e, he, h2⟩ | ⟨rs, n, _, _, _, h3, h4⟩
      · rw [hr] at h2
        exact absurd (congrArg Prod.fst h2).symm he
      · have := h4 (t.drop (i + 1))
        rw [List.take_append_drop] at this
        rw [this, hr]
    · have hc' : ¬ (c :: t ++ y).head? = some 34 := hc
      rw [if_neg hc'] at h
      cases h
end Go.Proofs.YtmnigdcgdebgoaaDoor
namespace Go.Proofs.YtmnigdcgdebgoaaDoor
set_option linter.unusedVariables false

/-- An answer q at a text with y behind it, against p at the text. -/
def BehY {α : Type} (y : List UInt8) (p q : Nat × α × List UInt8) : Prop := (p.1 = 0 → q = (0, p.2.1, p.2.2 ++ y)) ∧ (Blanks y → q.1 = 0 → p.1 = 0)

theorem behy_err {α : Type} (y : List UInt8) (p q : Nat × α × List UInt8) (h1 : p.1 ≠ 0) (h2 : Blanks y → q.1 ≠ 0) : BehY y p q := ⟨fun h => absurd h h1, fun hy h => absurd h (h2 hy)⟩
theorem behy_ok {α : Type} (y : List UInt8) (x : α) (r : List UInt8) : BehY y (0, x, r) (0, x, r ++ y) := ⟨fun _ => rfl, fun _ _ => rfl⟩

theorem behy_then {α : Type} (y : List UInt8) (p q : Nat × α × List UInt8) (f g : α → List UInt8 → Nat × List It × List UInt8) (h : BehY y p q) (hf : ∀ x r, BehY y (f x r) (g x (r ++ y))) : BehY y (okThen p f) (okThen q g) := by
  unfold okThen
  by_cases hp : p.1 = 0
  · rw [if_pos hp, h.1 hp, if_pos rfl]
    exact hf _ _
  · rw [if_neg hp]
    refine behy_err y _ _ hp fun hy => ?_
    have hq : ¬ q.1 = 0 := fun hq => hp (h.2 hy hq)
    rw [if_neg hq]
    exact hq

theorem quot_behy (y l : List UInt8) : BehY y (quotF l) (quotF (l ++ y)) := by
  refine ⟨fun h => ?_, fun hy h => readQ_less l y hy h⟩
  have h' : (readQ l).1 = 0 := h
  rcases readQ_cases l with ⟨e, he, hr⟩ | ⟨rs, n, hl, h1, h2, hr, h3⟩
  · rw [hr] at h'
    exact absurd h' he
  · unfold quotF
    rw [h3 y, hr]
    show (0, textU rs, (l ++ y).drop n) = (0, textU rs, l.drop n ++ y)
    rw [List.drop_append_of_le_length h2]

theorem pref_less (w a y : List UInt8) (hw : ∀ c ∈ w, blankN c.toNat = false) (hy : Blanks y) (h : w.isPrefixOf (a ++ y) = true) : w.isPrefixOf a = true := by
  rw [List.isPrefixOf_iff_prefix] at h ⊢
  obtain ⟨t, ht⟩ := h
  by_cases hl : w.length ≤ a.length
  · refine ⟨a.drop w.length, ?_⟩
    have e1 : w = (a ++ y).take w.length := by rw [← ht, List.take_left]
    rw [List.take_append_of_le_length hl] at e1
    have e2 : w ++ a.drop w.length = a.take w.length ++ a.drop w.length := by rw [← e1]
    rw [e2, List.take_append_drop]
  · exfalso
    have e1 : w[a.length]? = y[0]? := by
      have e2 : (w ++ t)[a.length]? = (a ++ y)[a.length]? := by rw [ht]
      rw [List.getElem?_append_left (by omega), List.getElem?_append_right (Nat.le_refl _), Nat.sub_self] at e2
      exact e2
    rw [List.getElem?_eq_getElem (by omega)] at e1
    have m1 := hy _ (List.mem_of_getElem? e1.symm)
    have m2 := hw _ (List.getElem_mem (l := w) (n := a.length) (by omega))
    rw [m1] at m2
    cases m2

theorem word_white (k : Nat) : ∀ c ∈ wordL k, blankN c.toNat = false := by
  unfold wordL
  split
  · decide
  · split <;> decide

theorem word_behy (y : List UInt8) (d : Nat) (key l : List UInt8) : BehY y (wordF d key l) (wordF d key (l ++ y)) := by
  have back : ∀ k, 1 ≤ k → k ≤ 3 → (wordL k).isPrefixOf l = true → BehY y (wordF d key l) (wordF d key (l ++ y)) := by
    intro k h1 h3 hp
    rw [List.isPrefixOf_iff_prefix] at hp
    obtain ⟨r, rfl⟩ := hp
    rw [List.append_assoc, word_back d key k r h1 h3, word_back d key k (r ++ y) h1 h3]
    exact behy_ok y _ r
  by_cases w1 : (wordL 1).isPrefixOf l = true
  · exact back 1 (by omega) (by omega) w1
  by_cases w2 : (wordL 2).isPrefixOf l = true
  · exact back 2 (by omega) (by omega) w2
  by_cases w3 : (wordL 3).isPrefixOf l = true
  · exact back 3 (by omega) (by omega) w3
  refine behy_err y _ _ ?_ fun hy => ?_
  · unfold wordF
    rw [if_neg w1, if_neg w2, if_neg w3]
    decide
  · unfold wordF
    rw [if_neg fun h => w1 (pref_less _ _ _ (word_white 1) hy h), if_neg fun h => w2 (pref_less _ _ _ (word_white 2) hy h), if_neg fun h => w3 (pref_less _ _ _ (word_white 3) hy h)]
    decide

theorem span_stop (y : List UInt8) (hy : Stop y) : ∀ a : List UInt8, (a ++ y).takeWhile numC = a.takeWhile numC ∧ (a ++ y).dropWhile numC = a.dropWhile numC ++ y
  | [] => by
    cases y with
    | nil => exact ⟨rfl, rfl⟩
    | cons c t =>
      have h := hy c t rfl
      constructor
      · show (c :: t).takeWhile numC = []
        rw [List.takeWhile_cons, h]
        rfl
      · show (c :: t).dropWhile numC = c :: t
        rw [List.dropWhile_cons, h]
        rfl
  | x :: a => by
    have ih := span_stop y hy a
    rw [List.cons_append, List.takeWhile_cons, List.takeWhile_cons, List.dropWhile_cons, List.dropWhile_cons]
    cases numC x with
    | true => simpa using ih
    | false => simp

theorem key_behy (y : List UInt8) (keys : List (List UInt8)) (l : List UInt8) : BehY y (keyF keys l) (keyF keys (l ++ y)) := by
  have hs := skip_behind y l
  cases hl : skipL l with
  | nil =>
    refine behy_err y _ _ ?_ fun hy => ?_
    · unfold keyF
      rw [hl, if_neg (by simp)]
      decide
    · unfold keyF
      rw [hs.2 hl, skip_blanks y hy, if_neg (by simp)]
      decide
  | cons c t =>
    have hl2 := hs.1 c t hl
    unfold keyF
    rw [hl, hl2]
    by_cases hc : c = 34
    · subst hc
      have g1 : (34 :: t).head? = some (34 : UInt8) := rfl
      have g2 : (34 :: (t ++ y)).head? = some (34 : UInt8) := rfl
      rw [if_pos g1, if_pos g2]
      have hq := quot_behy y (34 :: t)
      by_cases h0 : (quotF (34 :: t)).1 = 0
      · have e := hq.1 h0
        rw [List.cons_append] at e
        rw [if_pos h0, e]
        simp only [if_true]
        by_cases hk : keys.contains (quotF (34 :: t)).2.1 = true
        · rw [if_pos hk, if_pos hk]
          exact behy_err y _ _ (by decide) fun _ => by decide
        · rw [if_neg hk, if_neg hk]
          have hs2 := skip_behind y (quotF (34 :: t)).2.2
          cases hr : skipL (quotF (34 :: t)).2.2 with
          | nil =>
            refine behy_err y _ _ ?_ fun hy => ?_
            · rw [if_neg (by simp)]
              decide
            · rw [hs2.2 hr, skip_blanks y hy, if_neg (by simp)]
              decide
          | cons x r =>
            rw [hs2.1 x r hr]
            by_cases hx : x = 58
            · subst hx
              have g1 : (58 :: r).head? = some (58 : UInt8) := rfl
              have g2 : (58 :: (r ++ y)).head? = some (58 : UInt8) := rfl
              rw [if_pos g1, if_pos g2]
              exact behy_ok y _ r
            · have g1 : ¬ (x :: r).head? = some 58 := fun h => hx (Option.some.inj h)
              have g2 : ¬ (x :: (r ++ y)).head? = some 58 := fun h => hx (Option.some.inj h)
              rw [if_neg g1, if_neg g2]
              exact behy_err y _ _ (by decide) fun _ => by decide
      · rw [if_neg h0]
        refine behy_err y _ _ h0 fun hy => ?_
        have h1 : ¬ (quotF (34 :: (t ++ y))).1 = 0 := fun h => h0 (hq.2 hy h)
        rw [if_neg h1]
        exact h1
    · have g1 : ¬ (c :: t).head? = some 34 := fun h => hc (Option.some.inj h)
      have g2 : ¬ (c :: (t ++ y)).head? = some 34 := fun h => hc (Option.some.inj h)
      rw [if_neg g1, if_neg g2]
      exact behy_err y _ _ (by decide) fun _ => by decide

theorem list_blank (R : List UInt8 → Option Int) (f d : Nat) (o : Bool) (keys : List (List UInt8)) (l : List UInt8) (h : skipL l = []) : (listF R f d o keys l).1 ≠ 0 := by
  cases f with
  | zero =>
    rw [listF]
    decide
  | succ f =>
    rw [listF]
    cases o with
    | true =>
      have e : keyF keys l = (80, [], []) := by
        unfold keyF
        rw [h, if_neg (by simp)]
      rw [if_pos rfl, e]
      show (80 : Nat) ≠ 0
      decide
    | false =>
      rw [if_neg (by decide), okThen_ok]
      cases f with
      | zero =>
        rw [valueF]
        show (80 : Nat) ≠ 0
        decide
      | succ f =>
        rw [value_nil R f d [] l h]
        show (80 : Nat) ≠ 0
        decide

theorem value_behy (R : List UInt8 → Option Int) (y : List UInt8) (hy : Stop y) : ∀ f : Nat,
    (∀ d key l, BehY y (valueF R f d key l) (valueF R f d key (l ++ y))) ∧
    (∀ d o keys l, BehY y (listF R f d o keys l) (listF R f d o keys (l ++ y))) := by
  intro f
  induction f with
  | zero =>
    refine ⟨fun d key l => ?_, fun d o keys l => ?_⟩
    · rw [valueF, valueF]
      exact behy_err y _ _ (by decide) fun _ => by decide
    · rw [listF, listF]
      exact behy_err y _ _ (by decide) fun _ => by decide
  | succ f ih =>
    refine ⟨fun d key l => ?_, fun d o keys l => ?_⟩
    · have hs := skip_behind y l
      cases hl : skipL l with
      | nil =>
        rw [value_nil R f d key l hl]
        refine behy_err y _ _ (by decide) fun hb => ?_
        rw [value_nil R f d key (l ++ y) (by rw [hs.2 hl, skip_blanks y hb])]
        decide
      | cons c t =>
        rw [value_cons R f d key l c t hl, value_cons R f d key (l ++ y) c (t ++ y) (hs.1 c t hl)]
        by_cases h1 : c.toNat = 91 ∨ c.toNat = 123
        · rw [if_pos h1, if_pos h1]
          by_cases h2 : 64 ≤ d
          · rw [if_pos h2, if_pos h2]
            exact behy_err y _ _ (by decide) fun _ => by decide
          · rw [if_neg h2, if_neg h2]
            have hs2 := skip_behind y t
            cases ht : skipL t with
            | nil =>
              rw [if_neg (by simp)]
              have e1 : ∀ z, skipL z = [] → (okThen (listF R f (d + 1) (c.toNat == 123) [] z) fun m r => (0, (⟨d, kindO (c.toNat == 123), key, [], 0⟩ : It) :: m, r)).1 ≠ 0 := by
                intro z hz
                unfold okThen
                rw [if_neg (list_blank R f _ _ _ z hz)]
                exact list_blank R f _ _ _ z hz
              refine behy_err y _ _ (e1 t ht) fun hb => ?_
              have e2 : skipL (t ++ y) = [] := by rw [hs2.2 ht, skip_blanks y hb]
              rw [e2, if_neg (by simp)]
              exact e1 _ e2
            | cons x r =>
              rw [hs2.1 x r ht]
              by_cases hx : x = shutO (c.toNat == 123)
              · rw [if_pos (by rw [hx]; rfl), if_pos (by rw [hx]; rfl)]
                exact behy_ok y _ r
              · have g1 : ¬ (x :: r).head? = some (shutO (c.toNat == 123)) := fun h => hx (Option.some.inj h)
                have g2 : ¬ (x :: (r ++ y)).head? = some (shutO (c.toNat == 123)) := fun h => hx (Option.some.inj h)
                rw [if_neg g1, if_neg g2]
                exact behy_then y _ _ _ _ (ih.2 _ _ _ t) fun m r => behy_ok y _ r
        · rw [if_neg h1, if_neg h1]
          by_cases h2 : c.toNat = 34
          · rw [if_pos h2, if_pos h2]
            exact behy_then y _ _ _ _ (quot_behy y (c :: t)) fun u r => behy_ok y _ r
          · rw [if_neg h2, if_neg h2]
            by_cases h3 : numH c = true
            · rw [if_pos h3, if_pos h3]
              have e := span_stop y hy (c :: t)
              rw [List.cons_append] at e
              rw [e.1, e.2]
              cases R ((c :: t).takeWhile numC) with
              | none => exact behy_err y _ _ (show (83 : Nat) ≠ 0 by decide) fun _ => (show (83 : Nat) ≠ 0 by decide)
              | some n => exact behy_ok y _ _
            · rw [if_neg h3, if_neg h3]
              exact word_behy y d key (c :: t)
    · rw [listF, listF]
      refine behy_then y _ _ _ _ ?_ fun k r => behy_then y _ _ _ _ (ih.1 d k r) fun v r2 => ?_
      · cases o with
        | true => exact key_behy y keys l
        | false => exact behy_ok y _ l
      · have hs := skip_behind y r2
        cases hr : skipL r2 with
        | nil =>
          refine behy_err y _ _ (show (80 : Nat) ≠ 0 by decide) fun hb => ?_
          rw [hs.2 hr, skip_blanks y hb]
          show (80 : Nat) ≠ 0
          decide
        | cons c r3 =>
          rw [hs.1 c r3 hr]
          by_cases h1 : c = shutO o
          · simp only [if_pos h1]
            exact behy_ok y _ r3
          · simp only [if_neg h1]
            by_cases h2 : c.toNat = 44
            · simp only [if_pos h2]
              exact behy_then y _ _ _ _ (ih.2 d o _ r3) fun m r4 => behy_ok y _ r4
            · simp only [if_neg h2]
              exact behy_err y _ _ (by decide) fun _ => by decide
end Go.Proofs.YtmnigdcgdebgoaaDoor
namespace Go.Proofs.YtmnigdcgdebgoaaDoor
set_option linter.unusedVariables false

theorem okThen_congr {α : Type} (p : Nat × α × List UInt8) (f g : α → List UInt8 → Nat × List It × List UInt8) (h : p.1 = 0 → f p.2.1 p.2.2 = g p.2.1 p.2.2) : okThen p f = okThen p g := by
  unfold okThen
  by_cases hp : p.1 = 0
  · rw [if_pos hp, if_pos hp, h hp]
  · rw [if_neg hp, if_neg hp]

/-- Enough fuel is enough. -/
theorem value_fuel (R : List UInt8 → Option Int) : ∀ f : Nat,
    (∀ g d key l, 2 * l.length + 1 ≤ f → 2 * l.length + 1 ≤ g → valueF R f d key l = valueF R g d key l) ∧
    (∀ g d o keys l, 2 * l.length + 2 ≤ f → 2 * l.length + 2 ≤ g → listF R f d o keys l = listF R g d o keys l) := by
  intro f
  induction f with
  | zero => exact ⟨fun g d key l h => absurd h (by omega), fun g d o keys l h => absurd h (by omega)⟩
  | succ f ih =>
    refine ⟨fun g d key l hf hg => ?_, fun g d o keys l hf hg => ?_⟩
    · obtain ⟨g, rfl⟩ : ∃ i, g = i + 1 := ⟨g - 1, by omega⟩
      cases hl : skipL l with
      | nil => rw [value_nil R f d key l hl, value_nil R g d key l hl]
      | cons c t =>
        have ht := skip_cons_len l c t hl
        rw [value_cons R f d key l c t hl, value_cons R g d key l c t hl, ih.2 g (d + 1) (c.toNat == 123) [] t (by omega) (by omega)]
    · obtain ⟨g, rfl⟩ : ∃ i, g = i + 1 := ⟨g - 1, by omega⟩
      rw [listF, listF]
      refine okThen_congr _ _ _ fun h0 => ?_
      have hr : (if o = true then keyF keys l else (0, [], l)).2.2.length ≤ l.length := by
        cases o with
        | true =>
          rw [if_pos rfl] at h0 ⊢
          have := key_len keys l (keyF keys l).2.1 (keyF keys l).2.2 (Prod.ext h0 rfl)
          omega
        | false => exact Nat.le_refl _
      generalize (if o = true then keyF keys l else (0, [], l)) = p at h0 hr
      rw [ih.1 g d p.2.1 p.2.2 (by omega) (by omega)]
      refine okThen_congr _ _ _ fun h1 => ?_
      have hc := (value_count R g).1 d p.2.1 p.2.2 (valueF R g d p.2.1 p.2.2).2.1 (valueF R g d p.2.1 p.2.2).2.2 (Prod.ext h1 rfl)
      generalize valueF R g d p.2.1 p.2.2 = q at h1 hc
      cases hs : skipL q.2.2 with
      | nil => rfl
      | cons c r3 =>
        have h3 := skip_cons_len _ c r3 hs
        show (if c = shutO o then _ else if c.toNat = 44 then _ else _) = (if c = shutO o then _ else if c.toNat = 44 then _ else _)
        rw [ih.2 g d o (keys ++ [p.2.1]) r3 (by omega) (by omega)]

/-- One deeper. -/
def upI (x : It) : It := { x with depth := x.depth + 1 }
def upL (l : List It) : List It := l.map upI

theorem word_up (d : Nat) (key l : List UInt8) (x : List It) (r : List UInt8) (h : wordF d key l = (0, x, r)) : wordF (d + 1) key l = (0, upL x, r) := by
  unfold wordF at h ⊢
  repeat' split at h
  all_goals first
    | (cases h; done)
    | (cases h; simp_all [upL, upI])

theorem value_deep (R : List UInt8 → Option Int) : ∀ f : Nat,
    (∀ d key l x r, valueF R f d key l = (0, x, r) → valueF R f (d + 1) key l = (0, upL x, r) ∨ valueF R f (d + 1) key l = (81, [], [])) ∧
    (∀ d o keys l x r, listF R f d o keys l = (0, x, r) → listF R f (d + 1) o keys l = (0, upL x, r) ∨ listF R f (d + 1) o keys l = (81, [], [])) := by
  intro f
  induction f with
  | zero =>
    refine ⟨fun d key l x r h => ?_, fun d o keys l x r h => ?_⟩
    · rw [valueF] at h
      cases h
    · rw [listF] at h
      cases h
  | succ f ih =>
    refine ⟨fun d key l x r h => ?_, fun d o keys l x r h => ?_⟩
    · cases hl : skipL l with
      | nil =>
        rw [value_nil R f d key l hl] at h
        cases h
      | cons c t =>
        rw [value_cons R f d key l c t hl] at h
        rw [value_cons R f (d + 1) key l c t hl]
        by_cases h1 : c.toNat = 91 ∨ c.toNat = 123
        · rw [if_pos h1] at h ⊢
          by_cases h2 : 64 ≤ d
          · rw [if_pos h2] at h
            cases h
          · rw [if_neg h2] at h
            by_cases h3 : 64 ≤ d + 1
            · rw [if_pos h3]
              exact .inr rfl
            · rw [if_neg h3]
              by_cases h4 : (skipL t).head? = some (shutO (c.toNat == 123))
              · rw [if_pos h4] at h ⊢
                cases h
                exact .inl rfl
              · rw [if_neg h4] at h ⊢
                obtain ⟨h5, h6⟩ := okThen_yes h
                rcases ih.2 (d + 1) _ _ _ (listF R f (d + 1) (c.toNat == 123) [] t).2.1 (listF R f (d + 1) (c.toNat == 123) [] t).2.2 (Prod.ext h5 rfl) with h7 | h7
                · rw [h7, okThen_ok]
                  cases h6
                  exact .inl rfl
                · rw [h7]
                  exact .inr rfl
        · rw [if_neg h1] at h ⊢
          by_cases h2 : c.toNat = 34
          · rw [if_pos h2] at h ⊢
            obtain ⟨h5, h6⟩ := okThen_yes h
            have e : quotF (c :: t) = (0, (quotF (c :: t)).2.1, (quotF (c :: t)).2.2) := Prod.ext h5 rfl
            rw [e, okThen_ok]
            cases h6
            exact .inl rfl
          · rw [if_neg h2] at h ⊢
            by_cases h3 : numH c = true
            · rw [if_pos h3] at h ⊢
              cases hn : R ((c :: t).takeWhile numC) with
              | none =>
                rw [hn] at h
                cases h
              | some n =>
                rw [hn] at h
                cases h
                exact .inl rfl
            · rw [if_neg h3] at h ⊢
              exact .inl (word_up d key _ x r h)
    · rw [listF] at h ⊢
      obtain ⟨h1, h2⟩ := okThen_yes h
      have e : (if o = true then keyF keys l else (0, [], l)) = (0, (if o = true then keyF keys l else (0, [], l)).2.1, (if o = true then keyF keys l else (0, [], l)).2.2) := Prod.ext h1 rfl
      rw [e, okThen_ok]
      generalize (if o = true then keyF keys l else (0, [], l)) = p at h1 h2
      obtain ⟨h3, h4⟩ := okThen_yes h2
      rcases ih.1 d p.2.1 p.2.2 (valueF R f d p.2.1 p.2.2).2.1 (valueF R f d p.2.1 p.2.2).2.2 (Prod.ext h3 rfl) with h5 | h5
      · rw [h5, okThen_ok]
        generalize valueF R f d p.2.1 p.2.2 = q at h3 h4
        cases hs : skipL q.2.2 with
        | nil =>
          rw [hs] at h4
          cases h4
        | cons c r3 =>
          rw [hs] at h4
          simp only at h4 ⊢
          by_cases g1 : c = shutO o
          · rw [if_pos g1] at h4 ⊢
            cases h4
            exact .inl rfl
          · rw [if_neg g1] at h4 ⊢
            by_cases g2 : c.toNat = 44
            · rw [if_pos g2] at h4 ⊢
              obtain ⟨h6, h7⟩ := okThen_yes h4
              rcases ih.2 d o _ r3 (listF R f d o (keys ++ [p.2.1]) r3).2.1 (listF R f d o (keys ++ [p.2.1]) r3).2.2 (Prod.ext h6 rfl) with h8 | h8
              · rw [h8, okThen_ok]
                cases h7
                left
                show (0, upL q.2.1 ++ upL _, _) = (0, upL (q.2.1 ++ _), _)
                rw [upL, upL, upL, List.map_append]
              · rw [h8]
                exact .inr rfl
            · rw [if_neg g2] at h4
              cases h4
      · rw [h5]
        exact .inr rfl

/-- Parse, with any fuel that is enough. -/
def parseF (R : List UInt8 → Option Int) (f : Nat) (l : List UInt8) : Nat × List It :=
  if (valueF R f 0 [] l).1 = 0 then (if skipL (valueF R f 0 [] l).2.2 = [] then (0, (valueF R f 0 [] l).2.1) else (80, [])) else ((valueF R f 0 [] l).1, [])
theorem parse_fuel (R : List UInt8 → Option Int) (f : Nat) (l : List UInt8) (h : 2 * l.length + 1 ≤ f) : parseL R l = parseF R f l := by
  unfold parseL parseF
  rw [(value_fuel R _).1 f 0 [] l (by omega) h]

theorem parse_ahead (R : List UInt8 → Option Int) (a l : List UInt8) (ha : Blanks a) : parseL R (a ++ l) = parseL R l := by
  rw [parse_fuel R (2 * (a ++ l).length + 1) (a ++ l) (Nat.le_refl _), parse_fuel R (2 * (a ++ l).length + 1) l (by rw [List.length_append]; omega)]
  unfold parseF
  rw [← value_skip, skip_app a l ha, value_skip]

theorem blank_stop (y : List UInt8) (hy : Blanks y) (z : List UInt8) (hz : Stop z) : Stop (y ++ z) := by
  intro c t e
  cases y with
  | nil => exact hz c t e
  | cons x y =>
    have e1 : x = c := by injection e
    have hc := hy x List.mem_cons_self
    rw [e1] at hc
    unfold blankN at hc
    unfold numC
    simp at hc ⊢
    omega

theorem parse_behind (R : List UInt8 → Option Int) (l b : List UInt8) (hb : Blanks b) : ((parseL R (l ++ b)).1 = 0 ↔ (parseL R l).1 = 0) ∧ (parseL R (l ++ b)).2 = (parseL R l).2 := by
  have hs : Stop b := by
    have := blank_stop b hb [] (fun c t e => by cases e)
    rw [List.append_nil] at this
    exact this
  rw [parse_fuel R (2 * (l ++ b).length + 1) (l ++ b) (Nat.le_refl _), parse_fuel R (2 * (l ++ b).length + 1) l (by rw [List.length_append]; omega)]
  have he := (value_behy R b hs (2 * (l ++ b).length + 1)).1 0 [] l
  unfold parseF
  generalize valueF R (2 * (l ++ b).length + 1) 0 [] (l ++ b) = q at he
  generalize valueF R (2 * (l ++ b).length + 1) 0 [] l = p at he
  by_cases hp : p.1 = 0
  · rw [he.1 hp, if_pos rfl, if_pos hp]
    have h2 := skip_behind b p.2.2
    cases hr : skipL p.2.2 with
    | nil =>
      rw [if_pos rfl, if_pos (by rw [h2.2 hr]; exact skip_blanks b hb)]
      exact ⟨Iff.rfl, rfl⟩
    | cons c t =>
      rw [if_neg (by rw [h2.1 c t hr]; simp), if_neg (by simp)]
      exact ⟨Iff.rfl, rfl⟩
  · have hq : ¬ q.1 = 0 := fun h => hp (he.2 hb h)
    rw [if_neg hp, if_neg hq]
    exact ⟨⟨fun h => absurd h hq, fun h => absurd h hp⟩, rfl⟩

mutual
theorem J.rows_up (d : Nat) (key : List UInt8) : (j : J) → j.rows (d + 1) key = upL (j.rows d key)
  | .word k => by rw [J.rows, J.rows]; rfl
  | .num n => by rw [J.rows, J.rows]; rfl
  | .str t => by rw [J.rows, J.rows]; rfl
  | .node o m => by
    rw [J.rows, J.rows, Js.rows_up (d + 1) m]
    rfl
theorem Js.rows_up (d : Nat) : (m : Js) → m.rows (d + 1) = upL (m.rows d)
  | .nil => by rw [Js.rows, Js.rows]; rfl
  | .cons k v m => by
    rw [Js.rows, Js.rows, J.rows_up d k v, Js.rows_up d m, upL, upL, upL, List.map_append]
end
mutual
theorem J.good_less (d : Nat) : (j : J) → j.good (d + 1) → j.good d
  | .word k, h => by rw [J.good] at h ⊢; exact h
  | .num n, h => by rw [J.good] at h ⊢; exact h
  | .str t, h => by rw [J.good] at h ⊢; exact h
  | .node o m, h => by
    rw [J.good] at h ⊢
    exact ⟨by omega, h.2.1, Js.good_less (d + 1) o m h.2.2⟩
theorem Js.good_less (d : Nat) (o : Bool) : (m : Js) → m.good (d + 1) o → m.good d o
  | .nil, h => by rw [Js.good]; trivial
  | .cons k v m, h => by
    rw [Js.good] at h ⊢
    exact ⟨h.1, h.2.1, J.good_less d v h.2.2.1, Js.good_less d o m h.2.2.2⟩
end
theorem up_inj (a b : List It) (h : upL a = upL b) : a = b := by
  refine (List.map_inj_right fun x y e => ?_).1 h
  cases x
  cases y
  unfold upI at e
  simp at e
  simp
  omega

/-- The same, in an array. -/
theorem parse_array (l a b : List UInt8) (r : List It) (ha : Blanks a) (hb : Blanks b) (h : parseL readD l = (0, r)) :
    parseL readD (91 :: (a ++ (l ++ (b ++ [93])))) = (81, []) ∨ ∃ n, parseL readD (91 :: (a ++ (l ++ (b ++ [93])))) = (0, n) ∧ n.length = r.length + 1 ∧ printU n = 91 :: (printU r ++ [93]) := by
  obtain ⟨f, hf⟩ : ∃ f, f = 2 * (91 :: (a ++ (l ++ (b ++ [93])))).length + 1 := ⟨_, rfl⟩
  have hlen : (91 :: (a ++ (l ++ (b ++ [93])))).length = a.length + l.length + b.length + 2 := by simp; omega
  obtain ⟨g, rfl⟩ : ∃ g, f = g + 1 + 1 := ⟨f - 2, by omega⟩
  have hst : Stop (b ++ [93]) := blank_stop b hb [93] (fun c t e => by cases e; decide)
  rw [parse_fuel readD (g + 1 + 1) _ (by omega)]
  rw [parse_fuel readD g l (by omega)] at h
  unfold parseF at h
  by_cases h0 : (valueF readD g 0 [] l).1 = 0
  · rw [if_pos h0] at h
    by_cases hr : skipL (valueF readD g 0 [] l).2.2 = []
    · rw [if_pos hr] at h
      have hx : (valueF readD g 0 [] l).2.1 = r := congrArg Prod.snd h
      have he := ((value_behy readD (b ++ [93]) hst g).1 0 [] l).1 h0
      rw [hx] at he
      have hd := (value_deep readD g).1 0 [] (l ++ (b ++ [93])) _ _ he
      have hv : valueF readD g 1 [] (a ++ (l ++ (b ++ [93]))) = valueF readD g 1 [] (l ++ (b ++ [93])) := by
        rw [← value_skip, skip_app a _ ha, value_skip]
      have hsk : skipL ((valueF readD g 0 [] l).2.2 ++ (b ++ [93])) = [93] := by
        rw [(skip_behind _ _).2 hr, skip_app b _ hb]
        rfl
      have hhead : ¬ (skipL (a ++ (l ++ (b ++ [93])))).head? = some 93 := by
        rw [skip_app a _ ha]
        obtain ⟨i, rfl⟩ : ∃ i, g = i + 1 := ⟨g - 1, by omega⟩
        cases hl : skipL l with
        | nil =>
          rw [value_nil readD i 0 [] l hl] at h0
          cases h0
        | cons c t =>
          rw [(skip_behind _ _).1 c t hl]
          intro e
          have e1 : c = 93 := Option.some.inj e
          subst e1
          rw [value_cons readD i 0 [] l 93 t hl] at h0
          rw [if_neg (by decide), if_neg (by decide), if_neg (by decide)] at h0
          unfold wordF wordL at h0
          simp at h0
      have hval : valueF readD (g + 1 + 1) 0 [] (91 :: (a ++ (l ++ (b ++ [93])))) = okThen (listF readD (g + 1) 1 false [] (a ++ (l ++ (b ++ [93])))) fun m r => (0, (⟨0, 6, [], [], 0⟩ : It) :: m, r) := by
        rw [value_cons readD (g + 1) 0 [] _ 91 _ (skip_not 91 _ (by decide)), if_pos (by decide), if_neg (by decide)]
        have hhead' : ¬ (skipL (a ++ (l ++ (b ++ [93])))).head? = some (shutO ((91 : UInt8).toNat == 123)) := hhead
        rw [if_neg hhead']
        rfl
      rw [listF, if_neg (by decide), okThen_ok, hv] at hval
      rcases hd with hd | hd
      · right
        rw [hd, okThen_ok, hsk] at hval
        have hval2 : valueF readD (g + 1 + 1) 0 [] (91 :: (a ++ (l ++ (b ++ [93])))) = (0, (⟨0, 6, [], [], 0⟩ : It) :: upL r, []) := hval
        obtain ⟨j, hj, hjr⟩ := (parse_tree numInt g).1 1 [] _ _ _ hd
        have e1 : r = j.rows 0 [] := up_inj _ _ (by rw [← J.rows_up]; exact hjr)
        have hj0 := j.good_less 0 hj
        have hg : (J.node false (.cons [] j .nil)).good 0 := by
          rw [J.good, Js.good, Js.good]
          exact ⟨by omega, (fun e => by cases e), (fun e => by cases e), fun _ => rfl, hj, trivial⟩
        have e2 : (⟨0, 6, [], [], 0⟩ : It) :: upL r = (J.node false (.cons [] j .nil)).rows 0 [] := by
          rw [J.rows, Js.rows, Js.rows, List.append_nil, ← hjr]
          rfl
        refine ⟨(⟨0, 6, [], [], 0⟩ : It) :: upL r, ?_, ?_, ?_⟩
        · unfold parseF
          rw [hval2]
          rfl
        · rw [List.length_cons, upL, List.length_map]
        · rw [e2, J.printed _ hg, e1, J.printed j hj0, J.text, Js.text, Js.text]
          simp [openO, shutO]
      · left
        rw [hd] at hval
        unfold parseF
        rw [hval]
        rfl
    · rw [if_neg hr] at h
      cases h
  · rw [if_neg h0] at h
    exact absurd (congrArg Prod.fst h) h0
end Go.Proofs.YtmnigdcgdebgoaaDoor
namespace Go.Proofs.YtmnigdcgdebgoaaDoor
set_option linter.unusedVariables false

/-- Numbers are ints. -/
def IntsU (l : List It) : Prop := ∀ x ∈ l, -9223372036854775808 ≤ x.n ∧ x.n ≤ 9223372036854775807
/-- The first item, if there is one, is no deeper than d. -/
def HeadLe (t : List It) (d : Nat) : Prop := ∀ x r, t = x :: r → x.depth ≤ (d : Int)
def HeadLt (t : List It) (d : Nat) : Prop := ∀ x r, t = x :: r → x.depth < (d : Int)

theorem run_head (i : Nat) (st : St) (x : It) (t : List It) (h : runU i st (x :: t) = true) : ∃ st', stepU i st x = some st' ∧ runU (i + 1) st' t = true := by
  rw [runU] at h
  cases hs : stepU i st x with
  | none => rw [hs] at h; cases h
  | some st' => rw [hs] at h; exact ⟨st', rfl, h⟩
theorem head_le (i : Nat) (st : St) (t : List It) (h : runU i st t = true) : HeadLe t st.length := by
  intro x r e
  subst e
  obtain ⟨st', h1, _⟩ := run_head i st x r h
  exact (stepU_yes h1).2.1

theorem wholeU_yes (x : It) (h : wholeU x = true) : 1 ≤ x.kind ∧ x.kind ≤ 7 ∧ (x.kind = 5 ∨ x.text = []) ∧ validU x.text = true ∧ (x.kind = 4 ∨ x.n = 0) ∧ (x.kind < 6 ∨ x.depth < 64) := by
  unfold wholeU at h
  simp only [Bool.and_eq_true, Bool.or_eq_true, decide_eq_true_eq, List.isEmpty_iff] at h
  obtain ⟨⟨⟨⟨⟨h1, h2⟩, h3⟩, h4⟩, h5⟩, h6⟩ := h
  exact ⟨h1, h2, h3, h4, h5, h6⟩

/-- A leaf. -/
theorem leaf_tree (x : It) (d : Nat) (hd : x.depth = (d : Int)) (hw : wholeU x = true) (h6 : x.kind < 6) (hn : -9223372036854775808 ≤ x.n ∧ x.n ≤ 9223372036854775807) : ∃ j : J, j.good d ∧ j.rows d x.key = [x] := by
  obtain ⟨h1, h7, ht, hv, hn0, _⟩ := wholeU_yes x hw
  obtain ⟨xd, xk, xkey, xt, xn⟩ := x
  simp only at hd h1 h7 ht hv hn0 h6 hn ⊢
  subst hd
  have hc : xk = 1 ∨ xk = 2 ∨ xk = 3 ∨ xk = 4 ∨ xk = 5 := by omega
  rcases hc with rfl | rfl | rfl | rfl | rfl
  · have e1 : xt = [] := ht.resolve_left (by omega)
    have e2 : xn = 0 := hn0.resolve_left (by omega)
    subst e1 e2
    exact ⟨.word 1, by rw [J.good]; omega, by rw [J.rows]; rfl⟩
  · have e1 : xt = [] := ht.resolve_left (by omega)
    have e2 : xn = 0 := hn0.resolve_left (by omega)
    subst e1 e2
    exact ⟨.word 2, by rw [J.good]; omega, by rw [J.rows]; rfl⟩
  · have e1 : xt = [] := ht.resolve_left (by omega)
    have e2 : xn = 0 := hn0.resolve_left (by omega)
    subst e1 e2
    exact ⟨.word 3, by rw [J.good]; omega, by rw [J.rows]; rfl⟩
  · have e1 : xt = [] := ht.resolve_left (by omega)
    subst e1
    exact ⟨.num xn, by rw [J.good]; exact hn, by rw [J.rows]⟩
  · have e2 : xn = 0 := hn0.resolve_left (by omega)
    subst e2
    exact ⟨.str xt, by rw [J.good]; exact (valid_iff xt).1 hv, by rw [J.rows]⟩

/-- A key that may be. -/
theorem keyed_snoc_yes (base : St) (o : Bool) (ks : List (List UInt8)) (key : List UInt8) (h : keyedU (base ++ [(o, ks)]) key = true) : (o = true → validL key ∧ key ∉ ks) ∧ (o = false → key = []) := by
  rw [keyedU_snoc] at h
  cases o with
  | true =>
    simp at h
    exact ⟨fun _ => ⟨(valid_iff key).1 h.2, h.1⟩, (fun h => by cases h)⟩
  | false =>
    simp at h
    exact ⟨(fun h => by cases h), fun _ => h⟩

theorem down_list : ∀ (n : Nat) (t : List It), t.length ≤ n → IntsU t → ∀ (i : Nat) (st : St) (d : Nat) (base : St) (o : Bool) (ks : List (List UInt8)), i ≠ 0 → 1 ≤ d → d ≤ 64 → d ≤ st.length → base.length + 1 = d → st.take d = base ++ [(o, ks)] → (o = true → ks.Nodup) → HeadLe t d → runU i st t = true →
    ∃ (m : Js) (rest : List It) (st' : St) (i' : Nat), t = m.rows d ++ rest ∧ m.good d o ∧ (o = true → (ks ++ m.keys).Nodup) ∧ HeadLt rest d ∧ runU i' st' rest = true ∧ i' ≠ 0 ∧ d ≤ st'.length ∧ st'.take (d - 1) = base := by
  intro n
  induction n with
  | zero =>
    intro t ht hints i st d base o ks hi h1 h64 hl hb htk hnd hle hrun
    have e : t = [] := List.length_eq_zero_iff.1 (by omega)
    subst e
    refine ⟨.nil, [], st, i, by rw [Js.rows]; rfl, by rw [Js.good]; trivial, fun ho => by rw [Js.keys, List.append_nil]; exact hnd ho, (fun x r e => by cases e), hrun, hi, hl, ?_⟩
    have e2 : st.take (d - 1) = (st.take d).take (d - 1) := by rw [List.take_take]; congr 1; omega
    rw [e2, htk, List.take_left' (by omega)]
  | succ n ih =>
    intro t ht hints i st d base o ks hi h1 h64 hl hb htk hnd hle hrun
    have stop : HeadLt t d → ∃ (m : Js) (rest : List It) (st' : St) (i' : Nat), t = m.rows d ++ rest ∧ m.good d o ∧ (o = true → (ks ++ m.keys).Nodup) ∧ HeadLt rest d ∧ runU i' st' rest = true ∧ i' ≠ 0 ∧ d ≤ st'.length ∧ st'.take (d - 1) = base := by
      intro hlt
      refine ⟨.nil, t, st, i, by rw [Js.rows]; rfl, by rw [Js.good]; trivial, fun ho => by rw [Js.keys, List.append_nil]; exact hnd ho, hlt, hrun, hi, hl, ?_⟩
      have e2 : st.take (d - 1) = (st.take d).take (d - 1) := by rw [List.take_take]; congr 1; omega
      rw [e2, htk, List.take_left' (by omega)]
    cases t with
    | nil => exact stop (fun x r e => by cases e)
    | cons x t =>
      by_cases hlt : x.depth < (d : Int)
      · exact stop (fun y r e => by cases e; exact hlt)
      · have hxd : x.depth = (d : Int) := by
          have := hle x t rfl
          omega
        obtain ⟨st1, hs1, hr1⟩ := run_head i st x t hrun
        obtain ⟨_, _, hw, hk, hst1⟩ := stepU_yes hs1
        have hdn : x.depth.toNat = d := by omega
        rw [hdn, htk] at hk hst1
        have hkey := keyed_snoc_yes base o ks x.key hk
        rw [noteU_snoc] at hst1
        have hnd2 : o = true → (ks ++ [x.key]).Nodup := by
          intro ho
          rw [List.nodup_append]
          exact ⟨hnd ho, by simp, fun a ha b hb e => by rw [List.mem_singleton.1 hb] at e; exact (hkey.1 ho).2 (e ▸ ha)⟩
        have hints2 : IntsU t := fun y hy => hints y (List.mem_cons_of_mem _ hy)
        have htl : t.length ≤ n := by simpa using ht
        have fin : ∀ (v : J) (t2 : List It) (st2 : St) (i2 : Nat), v.good d → x :: t = v.rows d x.key ++ t2 → t2.length ≤ n → IntsU t2 → i2 ≠ 0 → d ≤ st2.length → st2.take d = base ++ [(o, if o then ks ++ [x.key] else ks)] → HeadLe t2 d → runU i2 st2 t2 = true →
            ∃ (m : Js) (rest : List It) (st' : St) (i' : Nat), x :: t = m.rows d ++ rest ∧ m.good d o ∧ (o = true → (ks ++ m.keys).Nodup) ∧ HeadLt rest d ∧ runU i' st' rest = true ∧ i' ≠ 0 ∧ d ≤ st'.length ∧ st'.take (d - 1) = base := by
          intro v t2 st2 i2 hv he ht2 hi2 hne hl2 htk2 hle2 hr2
          obtain ⟨m, rest, st', i', r1, r2, r3, r4, r5, r6, r7, r8⟩ := ih t2 ht2 hi2 i2 st2 d base o (if o then ks ++ [x.key] else ks) hne h1 h64 hl2 hb htk2 (fun ho => by rw [if_pos ho]; exact hnd2 ho) hle2 hr2
          refine ⟨.cons x.key v m, rest, st', i', ?_, ?_, ?_, r4, r5, r6, r7, r8⟩
          · rw [he, r1, Js.rows, List.append_assoc]
          · rw [Js.good]
            exact ⟨fun ho => (hkey.1 ho).1, hkey.2, hv, r2⟩
          · intro ho
            have := r3 ho
            rw [if_pos ho] at this
            rw [Js.keys]
            simpa using this
        by_cases h6 : x.kind < 6
        · obtain ⟨v, hv1, hv2⟩ := leaf_tree x d hxd hw h6 (hints x List.mem_cons_self)
          rw [if_neg (by omega)] at hst1
          have hlen : st1.length = d := by rw [hst1, List.length_append]; exact hb
          refine fin v t st1 (i + 1) hv1 (by rw [hv2]; rfl) htl hints2 (by omega) (by omega) ?_ ?_ hr1
          · rw [List.take_of_length_le (by omega), hst1]
          · have := head_le _ _ _ hr1
            rw [hlen] at this
            exact this
        · rw [if_pos (by omega)] at hst1
          obtain ⟨g1, g7, gt, gv, gn, gd⟩ := wholeU_yes x hw
          have hd64 : x.depth < 64 := by omega
          have hxk : ∃ o1 : Bool, x = ⟨(d : Int), kindO o1, x.key, [], 0⟩ ∧ decide (x.kind = 7) = o1 := by
            obtain ⟨xd, xk, xkey, xt, xn⟩ := x
            simp only at hxd g1 g7 gt gn h6 ⊢
            have e1 : xt = [] := gt.resolve_left (by omega)
            have e2 : xn = 0 := gn.resolve_left (by omega)
            subst e1 e2 hxd
            have hc : xk = 6 ∨ xk = 7 := by omega
            rcases hc with rfl | rfl
            · exact ⟨false, rfl, rfl⟩
            · exact ⟨true, rfl, rfl⟩
          obtain ⟨o1, hx1, hx2⟩ := hxk
          rw [hx2] at hst1
          have hbl : (base ++ [(o, if o then ks ++ [x.key] else ks)]).length = d := by rw [List.length_append]; exact hb
          have hlen : st1.length = d + 1 := by rw [hst1, List.length_append, hbl]; rfl
          obtain ⟨m1, rest1, st2, i2, r1, r2, r3, r4, r5, r6, r7, r8⟩ := ih t htl hints2 (i + 1) st1 (d + 1) (base ++ [(o, if o then ks ++ [x.key] else ks)]) o1 [] (by omega) (by omega) (by omega) (by omega) (by rw [hbl]) (by rw [List.take_of_length_le (by omega), hst1]) (fun _ => List.nodup_nil) (by have := head_le _ _ _ hr1; rw [hlen] at this; exact this) hr1
          have hr1l : rest1.length ≤ n := by
            have := congrArg List.length r1
            rw [List.length_append] at this
            omega
          refine fin (.node o1 m1) rest1 st2 i2 ?_ ?_ hr1l (fun y hy => hints2 y (by rw [r1]; exact List.mem_append_right _ hy)) r6 (by omega) ?_ ?_ r5
          · rw [J.good]
            exact ⟨by omega, fun ho => by simpa using r3 ho, r2⟩
          · rw [J.rows, ← hx1, r1]
            rfl
          · rw [Nat.add_sub_cancel] at r8
            exact r8
          · intro y r e
            have := r4 y r e
            omega

/-- A right row is a good tree's. -/
theorem right_tree (l : List It) (h : rightU l = true) (hn : IntsU l) : ∃ j : J, j.good 0 ∧ l = j.rows 0 [] := by
  unfold rightU at h
  cases l with
  | nil => cases h
  | cons x t =>
    have hr : runU 0 [] (x :: t) = true := by simpa using h
    obtain ⟨st1, hs1, hr1⟩ := run_head 0 [] x t hr
    obtain ⟨h0, hle, hw, hk, hst1⟩ := stepU_yes hs1
    have hxd : x.depth = ((0 : Nat) : Int) := by
      have : ([] : St).length = 0 := rfl
      rw [this] at hle
      omega
    have hdn : x.depth.toNat = 0 := by omega
    rw [hdn, List.take_zero] at hk hst1
    have hkey : x.key = [] := by
      have : x.key.isEmpty = true := hk
      simpa using this
    have hno : ∀ (i : Nat) (st : St) (rest : List It), i ≠ 0 → runU i st rest = true → HeadLt rest 1 → rest = [] := by
      intro i st rest hi hrun hlt
      cases rest with
      | nil => rfl
      | cons y r =>
        exfalso
        obtain ⟨st', hs, _⟩ := run_head i st y r hrun
        have hy := hlt y r rfl
        unfold stepU at hs
        by_cases hc : ((if i = 0 then 0 else 1 : Int) ≤ y.depth ∧ y.depth ≤ (st.length : Int)) ∧ wholeU y = true
        · have := hc.1.1
          rw [if_neg hi] at this
          omega
        · rw [if_neg hc] at hs
          cases hs
    by_cases h6 : x.kind < 6
    · rw [if_neg (by omega)] at hst1
      have hst : st1 = [] := hst1
      obtain ⟨j, hj, hjr⟩ := leaf_tree x 0 hxd hw h6 (hn x List.mem_cons_self)
      have hle2 := head_le _ _ _ hr1
      rw [hst] at hle2
      have ht : t = [] := hno 1 st1 t (by omega) hr1 (fun y r e => by have := hle2 y r e; show y.depth < 1; simp at this; omega)
      refine ⟨j, hj, ?_⟩
      rw [← hkey, hjr, ht]
    · rw [if_pos (by omega)] at hst1
      obtain ⟨g1, g7, gt, gv, gn, gd⟩ := wholeU_yes x hw
      obtain ⟨o1, hx1, hx2⟩ : ∃ o1 : Bool, x = ⟨((0 : Nat) : Int), kindO o1, [], [], 0⟩ ∧ decide (x.kind = 7) = o1 := by
        obtain ⟨xd, xk, xkey, xt, xn⟩ := x
        simp only at hxd g1 g7 gt gn h6 hkey ⊢
        have e1 : xt = [] := gt.resolve_left (by omega)
        have e2 : xn = 0 := gn.resolve_left (by omega)
        subst e1 e2 hxd hkey
        have hc : xk = 6 ∨ xk = 7 := by omega
        rcases hc with rfl | rfl
        · exact ⟨false, rfl, rfl⟩
        · exact ⟨true, rfl, rfl⟩
      rw [hx2] at hst1
      have hst : st1 = [(o1, [])] := hst1
      have hle2 := head_le _ _ _ hr1
      rw [hst] at hle2
      obtain ⟨m, rest, st', i', r1, r2, r3, r4, r5, r6, r7, r8⟩ := down_list t.length t (Nat.le_refl _) (fun y hy => hn y (List.mem_cons_of_mem _ hy)) 1 st1 1 [] o1 [] (by omega) (by omega) (by omega) (by rw [hst]; exact Nat.le_refl _) rfl (by rw [hst]; rfl) (fun _ => List.nodup_nil) hle2 hr1
      have hrest : rest = [] := hno i' st' rest r6 r5 r4
      refine ⟨.node o1 m, ?_, ?_⟩
      · rw [J.good]
        exact ⟨by omega, fun ho => by simpa using r3 ho, r2⟩
      · rw [J.rows, ← hx1, r1, hrest, List.append_nil]
end Go.Proofs.YtmnigdcgdebgoaaDoor
