/-
  Values as rows of items (json): numbers as dec has them: plain facts.
  Values as rows of items (json): a row's text, item by item: plain facts.
  Values as rows of items (json): a good tree's row is right, and its text is the tree's: plain facts.
-/
import Derived.Test.YtmnigdcgdebgoaaDoorPlainM
import Derived.Test.YtmnigdcgdebgoaaDoorDecM
namespace Go.Proofs.YtmnigdcgdebgoaaDoor
set_option linter.unusedVariables false

/-- The number that a text may be, and the number that it is. -/
def candD (l : List UInt8) : Int := if l.head? = some 45 then -((valN l.tail : Nat) : Int) else ((valN l : Nat) : Int)
def readD (l : List UInt8) : Option Int := if -9223372036854775808 ≤ candD l ∧ candD l ≤ 9223372036854775807 ∧ printL (candD l) = l then some (candD l) else none

theorem cand_print (n : Int) (h1 : -9223372036854775808 ≤ n) (h2 : n ≤ 9223372036854775807) : candD (printL n) = n := by
  have hb := int_bound n h1 h2
  unfold printL
  by_cases hn : n < 0
  · rw [if_pos hn]
    unfold candD
    rw [if_pos (by rfl)]
    show -((valN (padK n.natAbs (nd n.natAbs)) : Nat) : Int) = n
    rw [valN_pad, Nat.mod_eq_of_lt (nd_spec _ hb.1).2.1]
    omega
  · rw [if_neg hn]
    unfold candD
    have hs := nd_spec n.toNat hb.2
    have hh : (padK n.toNat (nd n.toNat)).head? ≠ some 45 := by
      intro e
      cases hp : padK n.toNat (nd n.toNat) with
      | nil => rw [hp] at e; cases e
      | cons c r =>
        rw [hp] at e
        have := Option.some.inj e
        subst this
        exact padK_head n.toNat (nd n.toNat) hs.1 r hp
    rw [if_neg hh, valN_pad, Nat.mod_eq_of_lt hs.2.1]
    omega

theorem readD_print (n : Int) (h1 : -9223372036854775808 ≤ n) (h2 : n ≤ 9223372036854775807) : readD (printL n) = some n := by
  unfold readD
  rw [cand_print n h1 h2, if_pos ⟨h1, h2, rfl⟩]
theorem readD_some {l : List UInt8} {n : Int} (h : readD l = some n) : -9223372036854775808 ≤ n ∧ n ≤ 9223372036854775807 ∧ printL n = l := by
  unfold readD at h
  split at h
  · rename_i hc
    have := Option.some.inj h
    subst this
    exact hc
  · cases h
theorem readD_none {l : List UInt8} (h : readD l = none) : ∀ n : Int, -9223372036854775808 ≤ n → n ≤ 9223372036854775807 → printL n ≠ l := by
  intro n h1 h2 e
  rw [← e, readD_print n h1 h2] at h
  cases h

theorem numInt : NumInt readD := fun l n h => ⟨(readD_some h).1, (readD_some h).2.1⟩

theorem isD_numC (c : UInt8) (h : isD c = true) : numC c = true ∧ numH c = true := by
  unfold isD at h
  unfold numC numH
  simp at h ⊢
  omega
theorem padK_numC (n k : Nat) : ∀ x ∈ padK n k, numC x = true := by
  intro x hx
  have := padK_all n k
  unfold allD at this
  exact (isD_numC x (List.all_eq_true.1 this x hx)).1

theorem numFair : NumFair printL readD := by
  refine ⟨readD_print, fun n h1 h2 => ?_⟩
  have hb := int_bound n h1 h2
  unfold printL
  by_cases hn : n < 0
  · rw [if_pos hn]
    refine ⟨45, _, rfl, by decide, fun x hx => ?_⟩
    rcases List.mem_cons.1 hx with rfl | h
    · decide
    · exact padK_numC _ _ x h
  · rw [if_neg hn]
    have hs := nd_spec n.toNat hb.2
    obtain ⟨k, hk⟩ : ∃ k, nd n.toNat = k + 1 := ⟨nd n.toNat - 1, by omega⟩
    rw [hk]
    refine ⟨_, _, rfl, ?_, padK_numC _ _⟩
    exact (isD_numC _ (dig_isD _)).2
end Go.Proofs.YtmnigdcgdebgoaaDoor
namespace Go.Proofs.YtmnigdcgdebgoaaDoor
set_option linter.unusedVariables false

def endsOf (bs : List Bool) : List UInt8 := bs.map shutO
/-- What is written of an item ahead of its members. -/
def begL (x : It) : List UInt8 := if x.kind = 4 then printL x.n else if x.kind = 5 then quoteL x.text else if x.kind = 6 then [91] else if x.kind = 7 then [123] else wordL x.kind.toNat
/-- What is written from an item on; prev is the Depth of the one ahead of it, bs what is open. -/
def prM : Int → List Bool → List It → List UInt8
  | _, bs, [] => (endsOf bs).reverse
  | prev, bs, x :: t => (endsOf (bs.drop x.depth.toNat)).reverse ++ ((if x.depth ≤ prev then [44] else []) ++ ((if (bs.take x.depth.toNat).getLast? = some true then quoteL x.key ++ [58] else []) ++
      (begL x ++ prM x.depth (bs.take x.depth.toNat ++ if 6 ≤ x.kind then [decide (x.kind = 7)] else []) t)))
def printU (l : List It) : List UInt8 := if rightU l then prM (-1) [] l else []

theorem endsOf_len (bs : List Bool) : (endsOf bs).length = bs.length := by simp [endsOf]
theorem endsOf_take (bs : List Bool) (n : Nat) : endsOf (bs.take n) = (endsOf bs).take n := by simp [endsOf, List.map_take]
theorem endsOf_drop (bs : List Bool) (n : Nat) : endsOf (bs.drop n) = (endsOf bs).drop n := by simp [endsOf, List.map_drop]
theorem endsOf_last (bs : List Bool) : [125].isSuffixOf (endsOf bs) = decide (bs.getLast? = some true) := by
  rw [Bool.eq_iff_iff, List.isSuffixOf_iff_suffix, decide_eq_true_eq]
  rcases List.eq_nil_or_concat bs with rfl | ⟨bs0, b, rfl⟩
  · simp [endsOf]
  · rw [List.concat_eq_append]
    have e : endsOf (bs0 ++ [b]) = endsOf bs0 ++ [shutO b] := by simp [endsOf]
    rw [e]
    have hl : (bs0 ++ [b]).getLast? = some b := by simp
    rw [hl]
    constructor
    · rintro ⟨p, hp⟩
      have := List.append_inj_right' hp rfl
      simp at this
      cases b
      · exact absurd this (by decide)
      · rfl
    · intro h
      have hb : b = true := Option.some.inj h
      subst hb
      exact ⟨endsOf bs0, rfl⟩

/-- What a right item is. -/
theorem stepU_yes {i : Nat} {st st' : St} {x : It} (h : stepU i st x = some st') : 0 ≤ x.depth ∧ x.depth ≤ (st.length : Int) ∧ wholeU x = true ∧ keyedU (st.take x.depth.toNat) x.key = true ∧ st' = (if 6 ≤ x.kind then noteU (st.take x.depth.toNat) x.key ++ [(decide (x.kind = 7), [])] else noteU (st.take x.depth.toNat) x.key) := by
  unfold stepU at h
  by_cases hc : ((if i = 0 then 0 else 1 : Int) ≤ x.depth ∧ x.depth ≤ (st.length : Int)) ∧ wholeU x = true
  · rw [if_pos hc] at h
    by_cases hk : keyedU (st.take x.depth.toNat) x.key = true
    · rw [if_pos hk] at h
      refine ⟨?_, hc.1.2, hc.2, hk, (Option.some.inj h).symm⟩
      have := hc.1.1
      split at this <;> omega
    · rw [if_neg hk] at h
      cases h
  · rw [if_neg hc] at h
    cases h
theorem noteU_bs (st : St) (key : List UInt8) : (noteU st key).map (·.1) = st.map (·.1) := by
  unfold noteU
  split
  · rename_i ks hl
    rcases List.eq_nil_or_concat st with rfl | ⟨st0, b, rfl⟩
    · cases hl
    · rw [List.concat_eq_append] at *
      rw [List.getLast?_append] at hl
      simp at hl
      subst hl
      simp
  · rfl
theorem step_bs {i : Nat} {st st' : St} {x : It} (h : stepU i st x = some st') : st'.map (·.1) = (st.map (·.1)).take x.depth.toNat ++ if 6 ≤ x.kind then [decide (x.kind = 7)] else [] := by
  obtain ⟨_, _, _, _, rfl⟩ := stepU_yes h
  split
  · rw [List.map_append, noteU_bs, List.map_take]
    rfl
  · rw [noteU_bs, List.map_take, List.append_nil]
theorem keyed_valid {st : St} {key : List UInt8} (h : keyedU st key = true) (hl : (st.map (·.1)).getLast? = some true) : validU key = true := by
  rcases List.eq_nil_or_concat st with rfl | ⟨st0, b, rfl⟩
  · cases hl
  · rw [List.concat_eq_append] at *
    obtain ⟨o, ks⟩ := b
    rw [keyedU_snoc] at h
    have ho : o = true := by simpa using hl
    subst ho
    simp at h
    exact h.2
end Go.Proofs.YtmnigdcgdebgoaaDoor
namespace Go.Proofs.YtmnigdcgdebgoaaDoor
set_option linter.unusedVariables false

theorem valid_iff (l : List UInt8) : validU l = true ↔ validL l := by
  unfold validU validL
  rw [Option.isSome_iff_exists]

/-- A step that may be. -/
theorem step_ok (i : Nat) (st : St) (x : It) (d : Nat) (hd : x.depth = (d : Int)) (hi : i ≠ 0 → 1 ≤ d) (hl : d ≤ st.length) (hw : wholeU x = true) (hk : keyedU (st.take d) x.key = true) :
    stepU i st x = some (if 6 ≤ x.kind then noteU (st.take d) x.key ++ [(decide (x.kind = 7), [])] else noteU (st.take d) x.key) := by
  unfold stepU
  have e : x.depth.toNat = d := by omega
  rw [e, if_pos ⟨⟨by by_cases h : i = 0 <;> simp only [h, if_true, if_false] <;> omega, by omega⟩, hw⟩, if_pos hk]
theorem run_cons (i : Nat) (st st' : St) (x : It) (t : List It) (h : stepU i st x = some st') : runU i st (x :: t) = runU (i + 1) st' t := by
  rw [runU, h]
theorem take_note (st : St) (d : Nat) (key : List UInt8) (hl : d ≤ st.length) : (noteU (st.take d) key).length = d := by
  rw [noteU_len, List.length_take]
  omega
theorem valid_nil : validU [] = true := by decide +kernel

mutual
theorem J.run : (j : J) → ∀ (d : Nat) (key : List UInt8) (i : Nat) (st : St) (rest : List It), j.good d → d ≤ 64 → (i ≠ 0 → 1 ≤ d) → d ≤ st.length → keyedU (st.take d) key = true →
    ∃ st', runU i st (j.rows d key ++ rest) = runU (i + (j.rows d key).length) st' rest ∧ d ≤ st'.length ∧ st'.take d = noteU (st.take d) key
  | .word k => by
    intro d key i st rest hg hd hi hl hk
    rw [J.good] at hg
    have hs := step_ok i st ⟨d, k, key, [], 0⟩ d rfl hi hl (by
      unfold wholeU
      simp [valid_nil]
      omega) hk
    rw [if_neg (by show ¬ (6 : Int) ≤ (k : Int); omega)] at hs
    refine ⟨noteU (st.take d) key, ?_, ?_, ?_⟩
    · rw [J.rows]
      exact run_cons i st _ _ rest hs
    · rw [take_note st d key hl]; exact Nat.le_refl _
    · rw [List.take_of_length_le (by rw [take_note st d key hl]; exact Nat.le_refl _)]
  | .num n => by
    intro d key i st rest hg hd hi hl hk
    have hs := step_ok i st ⟨d, 4, key, [], n⟩ d rfl hi hl (by
      unfold wholeU
      simp [valid_nil]) hk
    rw [if_neg (by show ¬ (6 : Int) ≤ 4; omega)] at hs
    refine ⟨noteU (st.take d) key, ?_, ?_, ?_⟩
    · rw [J.rows]
      exact run_cons i st _ _ rest hs
    · rw [take_note st d key hl]; exact Nat.le_refl _
    · rw [List.take_of_length_le (by rw [take_note st d key hl]; exact Nat.le_refl _)]
  | .str t => by
    intro d key i st rest hg hd hi hl hk
    rw [J.good] at hg
    have hs := step_ok i st ⟨d, 5, key, t, 0⟩ d rfl hi hl (by
      unfold wholeU
      simp [(valid_iff t).2 hg]) hk
    rw [if_neg (by show ¬ (6 : Int) ≤ 5; omega)] at hs
    refine ⟨noteU (st.take d) key, ?_, ?_, ?_⟩
    · rw [J.rows]
      exact run_cons i st _ _ rest hs
    · rw [take_note st d key hl]; exact Nat.le_refl _
    · rw [List.take_of_length_le (by rw [take_note st d key hl]; exact Nat.le_refl _)]
  | .node o m => by
    intro d key i st rest hg hd hi hl hk
    rw [J.good] at hg
    have hko : 6 ≤ kindO o ∧ kindO o ≤ 7 ∧ decide (kindO o = 7) = o := by cases o <;> decide
    have hs := step_ok i st ⟨d, kindO o, key, [], 0⟩ d rfl hi hl (by
      unfold wholeU
      simp [valid_nil]
      have := hko.1
      have := hko.2.1
      have := hg.1
      omega) hk
    rw [if_pos (show (6 : Int) ≤ kindO o from hko.1)] at hs
    have hs' : stepU i st ⟨d, kindO o, key, [], 0⟩ = some (noteU (st.take d) key ++ [(o, [])]) := by
      rw [hs]
      show some (noteU (st.take d) key ++ [(decide (kindO o = 7), [])]) = _
      rw [hko.2.2]
    have hnl := take_note st d key hl
    obtain ⟨st', h1, h2, h3⟩ := Js.run m (d + 1) o (i + 1) (noteU (st.take d) key ++ [(o, [])]) rest (noteU (st.take d) key) [] hg.2.2 (by omega) (by omega) (by rw [List.length_append, hnl]; exact Nat.le_refl _) (by rw [hnl]) (by rw [List.take_of_length_le (by rw [List.length_append, hnl]; exact Nat.le_refl _)]) (fun ho => by rw [List.nil_append]; exact hg.2.1 ho)
    refine ⟨st', ?_, by omega, ?_⟩
    · rw [J.rows, List.cons_append, run_cons i st _ _ _ hs', h1, List.length_cons]
      congr 1
      omega
    · have e : st'.take d = (st'.take (d + 1)).take d := by rw [List.take_take]; congr 1; omega
      rw [e, h3, List.take_left' hnl]
theorem Js.run : (m : Js) → ∀ (d : Nat) (o : Bool) (i : Nat) (st : St) (rest : List It) (base : St) (ks : List (List UInt8)), m.good d o → d ≤ 64 → 1 ≤ d → d ≤ st.length → base.length + 1 = d → st.take d = base ++ [(o, ks)] → (o = true → (ks ++ m.keys).Nodup) →
    ∃ st', runU i st (m.rows d ++ rest) = runU (i + (m.rows d).length) st' rest ∧ d ≤ st'.length ∧ st'.take d = base ++ [(o, if o then ks ++ m.keys else ks)]
  | .nil => by
    intro d o i st rest base ks hg hd h1 hl hb ht hn
    refine ⟨st, ?_, hl, ?_⟩
    · rw [Js.rows]
      rfl
    · rw [ht, Js.keys]
      cases o <;> simp
  | .cons k v m => by
    intro d o i st rest base ks hg hd h1 hl hb ht hn
    rw [Js.good] at hg
    have hkd : keyedU (st.take d) k = true := by
      rw [ht, keyedU_snoc]
      cases o with
      | true =>
        have hnn := hn rfl
        rw [Js.keys, List.nodup_append] at hnn
        have hk : k ∉ ks := fun hm => hnn.2.2 k hm k List.mem_cons_self rfl
        simp [hk, (valid_iff k).2 (hg.1 rfl)]
      | false =>
        rw [hg.2.1 rfl]
        rfl
    obtain ⟨st1, r1, r2, r3⟩ := J.run v d k i st (m.rows d ++ rest) hg.2.2.1 hd (fun _ => h1) hl hkd
    rw [ht, noteU_snoc] at r3
    obtain ⟨st2, s1, s2, s3⟩ := Js.run m d o (i + (v.rows d k).length) st1 rest base (if o then ks ++ [k] else ks) hg.2.2.2 hd h1 r2 hb r3 (fun ho => by
      have hnn := hn ho
      rw [Js.keys] at hnn
      rw [if_pos ho]
      simpa using hnn)
    refine ⟨st2, ?_, s2, ?_⟩
    · rw [Js.rows, List.append_assoc, r1, s1, List.length_append]
      congr 1
      omega
    · rw [s3, Js.keys]
      cases o <;> simp
end

/-- A good tree's row is right. -/
theorem J.right (j : J) (h : j.good 0) : rightU (j.rows 0 []) = true := by
  obtain ⟨st', h1, _, _⟩ := j.run 0 [] 0 [] [] h (by omega) (fun h => absurd rfl h) (Nat.le_refl _) rfl
  rw [List.append_nil] at h1
  obtain ⟨x, t, e, _⟩ := j.rows_head 0 []
  unfold rightU
  rw [h1, e]
  rfl

def keyP (bs : List Bool) (d : Nat) (key : List UInt8) : List UInt8 := if (bs.take d).getLast? = some true then quoteL key ++ [58] else []
def commaP (d : Nat) (prev : Int) : List UInt8 := if (d : Int) ≤ prev then [44] else []

theorem prM_item (prev : Int) (bs : List Bool) (d : Nat) (K : Int) (key text : List UInt8) (n : Int) (t : List It) : prM prev bs (⟨d, K, key, text, n⟩ :: t) = (endsOf (bs.drop d)).reverse ++ (commaP d prev ++ (keyP bs d key ++ (begL ⟨d, K, key, text, n⟩ ++ prM d (bs.take d ++ if 6 ≤ K then [decide (K = 7)] else []) t))) := rfl

mutual
theorem J.print : (j : J) → ∀ (d : Nat) (key : List UInt8) (prev : Int) (bs : List Bool) (rest : List It), j.good d → d ≤ bs.length →
    ∃ (wr : List UInt8) (prev' : Int) (bs' : List Bool), prM prev bs (j.rows d key ++ rest) = (endsOf (bs.drop d)).reverse ++ (commaP d prev ++ (keyP bs d key ++ (wr ++ prM prev' bs' rest))) ∧ wr ++ (endsOf (bs'.drop d)).reverse = j.text printL ∧ bs'.take d = bs.take d ∧ d ≤ bs'.length ∧ (d : Int) ≤ prev'
  | .word k => by
    intro d key prev bs rest hg hl
    rw [J.good] at hg
    refine ⟨wordL k, d, bs.take d, ?_, ?_, ?_, by rw [List.length_take]; omega, Int.le_refl _⟩
    · rw [J.rows]
      show prM prev bs (⟨d, k, key, [], 0⟩ :: rest) = _
      rw [prM_item, if_neg (by omega), List.append_nil]
      have e : begL ⟨d, k, key, [], 0⟩ = wordL k := by
        unfold begL
        rw [if_neg (by show ¬ (k : Int) = 4; omega), if_neg (by show ¬ (k : Int) = 5; omega), if_neg (by show ¬ (k : Int) = 6; omega), if_neg (by show ¬ (k : Int) = 7; omega)]
        rfl
      rw [e]
    · rw [List.drop_eq_nil_of_le (by rw [List.length_take]; omega), J.text]
      simp [endsOf]
    · rw [List.take_take]; congr 1; omega
  | .num n => by
    intro d key prev bs rest hg hl
    refine ⟨printL n, d, bs.take d, ?_, ?_, ?_, by rw [List.length_take]; omega, Int.le_refl _⟩
    · rw [J.rows]
      show prM prev bs (⟨d, 4, key, [], n⟩ :: rest) = _
      rw [prM_item, if_neg (by omega), List.append_nil]
      rfl
    · rw [List.drop_eq_nil_of_le (by rw [List.length_take]; omega), J.text]
      simp [endsOf]
    · rw [List.take_take]; congr 1; omega
  | .str t => by
    intro d key prev bs rest hg hl
    refine ⟨quoteL t, d, bs.take d, ?_, ?_, ?_, by rw [List.length_take]; omega, Int.le_refl _⟩
    · rw [J.rows]
      show prM prev bs (⟨d, 5, key, t, 0⟩ :: rest) = _
      rw [prM_item, if_neg (by omega), List.append_nil]
      rfl
    · rw [List.drop_eq_nil_of_le (by rw [List.length_take]; omega), J.text]
      simp [endsOf]
    · rw [List.take_take]; congr 1; omega
  | .node o m => by
    intro d key prev bs rest hg hl
    rw [J.good] at hg
    have hko : 6 ≤ kindO o ∧ decide (kindO o = 7) = o := by cases o <;> decide
    have hb1 : (bs.take d ++ [o]).length = d + 1 := by rw [List.length_append, List.length_take]; show min d bs.length + 1 = d + 1; omega
    obtain ⟨wr, prev', bs', h1, h2, h3, h4, h5⟩ := Js.print m (d + 1) o d (bs.take d ++ [o]) rest hg.2.2 (by rw [hb1]; exact Nat.le_refl _) (by omega) (by
      rw [List.take_of_length_le (by rw [hb1]; exact Nat.le_refl _)]
      simp)
    refine ⟨openO o :: wr, prev', bs', ?_, ?_, ?_, by omega, by omega⟩
    · rw [J.rows, List.cons_append, prM_item, if_pos hko.1, hko.2, h1]
      have e : begL ⟨d, kindO o, key, [], 0⟩ = [openO o] := by cases o <;> rfl
      rw [e]
      rfl
    · rw [J.text]
      have hne : d < bs'.length := by omega
      have hgo : bs'[d] = o := by
        have e2 : (bs'.take (d + 1))[d]? = ((bs.take d ++ [o]).take (d + 1))[d]? := by rw [h3]
        rw [List.getElem?_take_of_lt (by omega), List.take_of_length_le (by rw [hb1]; exact Nat.le_refl _), List.getElem?_append_right (by rw [List.length_take]; omega), List.getElem?_eq_getElem hne] at e2
        have : d - (bs.take d).length = 0 := by rw [List.length_take]; omega
        rw [this] at e2
        simpa using e2
      have e : bs'.drop d = o :: bs'.drop (d + 1) := by rw [List.drop_eq_getElem_cons hne, hgo]
      rw [e]
      have e2 : endsOf (o :: bs'.drop (d + 1)) = shutO o :: endsOf (bs'.drop (d + 1)) := rfl
      rw [e2, List.reverse_cons, List.cons_append, ← List.append_assoc, h2]
      have e3 : (bs.take d ++ [o]).drop (d + 1) = [] := List.drop_eq_nil_of_le (by rw [hb1]; exact Nat.le_refl _)
      rw [e3]
      have e4 : decide ((d : Int) < ((d + 1 : Nat) : Int)) = true := by simp; omega
      rw [e4]
      rfl
    · have e : bs'.take d = (bs'.take (d + 1)).take d := by rw [List.take_take]; congr 1; omega
      rw [e, h3, List.take_take, List.take_append_of_le_length (by rw [List.length_take]; omega), List.take_take]
      congr 1
      omega
theorem Js.print : (m : Js) → ∀ (d : Nat) (o : Bool) (prev : Int) (bs : List Bool) (rest : List It), m.good d o → d ≤ bs.length → 1 ≤ d → (bs.take d).getLast? = some o →
    ∃ (wr : List UInt8) (prev' : Int) (bs' : List Bool), prM prev bs (m.rows d ++ rest) = wr ++ prM prev' bs' rest ∧ wr ++ (endsOf (bs'.drop d)).reverse = (endsOf (bs.drop d)).reverse ++ Js.text printL o (decide (prev < (d : Int))) m ∧ bs'.take d = bs.take d ∧ d ≤ bs'.length ∧ (prev ≤ prev' ∨ (d : Int) ≤ prev')
  | .nil => by
    intro d o prev bs rest hg hl h1 hla
    refine ⟨[], prev, bs, ?_, ?_, rfl, hl, .inl (Int.le_refl _)⟩
    · rw [Js.rows]
      rfl
    · rw [Js.text, List.append_nil]
      rfl
  | .cons k v m => by
    intro d o prev bs rest hg hl h1 hla
    rw [Js.good] at hg
    obtain ⟨w1, p1, b1, r1, r2, r3, r4, r5⟩ := J.print v d k prev bs (m.rows d ++ rest) hg.2.2.1 hl
    obtain ⟨w2, p2, b2, s1, s2, s3, s4, s5⟩ := Js.print m d o p1 b1 rest hg.2.2.2 r4 h1 (by rw [r3]; exact hla)
    refine ⟨(endsOf (bs.drop d)).reverse ++ (commaP d prev ++ (keyP bs d k ++ (w1 ++ w2))), p2, b2, ?_, ?_, s3.trans r3, s4, .inr (by omega)⟩
    · rw [Js.rows, List.append_assoc, r1, s1]
      simp [List.append_assoc]
    · have e0 : decide (p1 < (d : Int)) = false := by simp; omega
      rw [e0] at s2
      have hk : keyP bs d k = if o then quoteL k ++ [58] else [] := by
        unfold keyP
        rw [hla]
        cases o <;> simp
      have hc : commaP d prev = if decide (prev < (d : Int)) = true then [] else [44] := by
        unfold commaP
        by_cases h : (d : Int) ≤ prev
        · have e : decide (prev < (d : Int)) = false := by simp; omega
          rw [if_pos h, e]
          rfl
        · have e : decide (prev < (d : Int)) = true := by simp; omega
          rw [if_neg h, e]
          rfl
      rw [Js.text, ← hk, ← hc]
      have e1 : w1 ++ (w2 ++ (endsOf (b2.drop d)).reverse) = v.text printL ++ Js.text printL o false m := by
        rw [s2, ← List.append_assoc, r2]
      simp only [List.append_assoc]
      rw [e1]
end

/-- A good tree's row is written as the tree's text. -/
theorem J.printed (j : J) (h : j.good 0) : printU (j.rows 0 []) = j.text printL := by
  obtain ⟨wr, p', bs', h1, h2, h3, h4, h5⟩ := j.print 0 [] (-1) [] [] h (Nat.le_refl _)
  unfold printU
  rw [j.right h, if_pos rfl]
  rw [List.append_nil] at h1
  rw [h1, ← h2]
  simp [commaP, keyP, endsOf, prM]
end Go.Proofs.YtmnigdcgdebgoaaDoor
