/-
  Letters as bytes (UTF-8): plain facts of numbers and lists.
  Texts in quotes: plain facts of lists of bytes.
  Texts in quotes: what follows, plain facts that the statements use.
  Values as rows of items (json): trees, their rows and their texts: plain facts.
  Values as rows of items (json): texts, and reading them: plain facts. R tells the number of a text's bytes (dec's Read), P its bytes (dec's Print).
  Values as rows of items (json): what was printed is parsed as it was: plain facts.
  Values as rows of items (json): what is parsed is a value's row: plain facts.
  Values as rows of items (json): how long what is read is: plain facts.
  Values as rows of items (json): which rows are values, by what is open: plain facts.
-/
import Derived.ProofKit
namespace Go.Proofs.YtmnigdcgdebgoaaDoor
set_option linter.unusedVariables false

def letter (r : Nat) : Prop := r ≤ 1114111 ∧ (r < 55296 ∨ 57343 < r)

instance (r : Nat) : Decidable (letter r) := inferInstanceAs (Decidable (_ ∧ _))

/-- The bytes of a letter. -/
def putU (r : Nat) : List UInt8 :=
  if r < 128 then [UInt8.ofNat r]
  else if r < 2048 then [UInt8.ofNat (192 + r / 64), UInt8.ofNat (128 + r % 64)]
  else if r < 65536 then [UInt8.ofNat (224 + r / 4096), UInt8.ofNat (128 + r / 64 % 64), UInt8.ofNat (128 + r % 64)]
  else [UInt8.ofNat (240 + r / 262144), UInt8.ofNat (128 + r / 4096 % 64), UInt8.ofNat (128 + r / 64 % 64), UInt8.ofNat (128 + r % 64)]

/-- How many bytes a letter has that begins with c, and what c tells of it. -/
def firstU (c : Nat) : Nat × Nat :=
  if c < 128 then (1, c) else if 192 ≤ c ∧ c < 224 then (2, c - 192) else if 224 ≤ c ∧ c < 240 then (3, c - 224) else if 240 ≤ c ∧ c < 248 then (4, c - 240) else (0, 0)

def foldU (n : Nat) (l : List UInt8) : Nat := l.foldl (fun n c => 64 * n + c.toNat % 64) n

/-- The letter with which l begins, how many bytes it has, and whether there is one. -/
def takeU : List UInt8 → Nat × Nat × Bool
  | [] => (0, 0, false)
  | c :: t =>
    let long := (firstU c.toNat).1
    let n := foldU (firstU c.toNat).2 (t.take (long - 1))
    if long = 0 ∨ t.length + 1 < long then (0, 0, false) else if letter n ∧ putU n = (c :: t).take long then (n, long, true) else (0, 0, false)

theorem u8n (n : Nat) (h : n < 256) : (UInt8.ofNat n).toNat = n := by
  rw [UInt8.toNat_ofNat']
  omega

theorem putU_len (r : Nat) : 1 ≤ (putU r).length ∧ (putU r).length ≤ 4 := by
  unfold putU
  repeat' split
  all_goals simp

/-- What was put is taken. -/
theorem takeU_put (r : Nat) (b : List UInt8) (h : letter r) : takeU (putU r ++ b) = (r, (putU r).length, true) := by
  have h0 := h.1
  have key : ∀ (c : UInt8) (t : List UInt8) (long n0 : Nat), putU r = c :: t → firstU c.toNat = (long, n0) → long = t.length + 1 → foldU n0 t = r → takeU (putU r ++ b) = (r, (putU r).length, true) := by
    intro c t long n0 hp hf hl hn
    rw [hp, List.cons_append]
    unfold takeU
    simp only [hf]
    have e1 : (t ++ b).take (long - 1) = t := by rw [hl]; simp
    have e2 : (c :: (t ++ b)).take long = c :: t := by rw [hl]; simp
    rw [if_neg (by rw [hl, List.length_append]; omega), e1, e2, hn, if_pos ⟨h, hp⟩, hl]
    simp
  by_cases h1 : r < 128
  · refine key (UInt8.ofNat r) [] 1 r (by unfold putU; rw [if_pos h1]) ?_ rfl rfl
    rw [u8n r (by omega)]
    unfold firstU
    rw [if_pos h1]
  · by_cases h2 : r < 2048
    · refine key (UInt8.ofNat (192 + r / 64)) [UInt8.ofNat (128 + r % 64)] 2 (r / 64) (by unfold putU; rw [if_neg h1, if_pos h2]) ?_ rfl ?_
      · rw [u8n _ (by omega)]
        unfold firstU
        rw [if_neg (by omega), if_pos (by omega), show 192 + r / 64 - 192 = r / 64 by omega]
      · show 64 * (r / 64) + (UInt8.ofNat (128 + r % 64)).toNat % 64 = r
        rw [u8n _ (by omega)]
        omega
    · by_cases h3 : r < 65536
      · refine key (UInt8.ofNat (224 + r / 4096)) [UInt8.ofNat (128 + r / 64 % 64), UInt8.ofNat (128 + r % 64)] 3 (r / 4096) (by unfold putU; rw [if_neg h1, if_neg h2, if_pos h3]) ?_ rfl ?_
        · rw [u8n _ (by omega)]
          unfold firstU
          rw [if_neg (by omega), if_neg (by omega), if_pos (by omega), show 224 + r / 4096 - 224 = r / 4096 by omega]
        · show 64 * (64 * (r / 4096) + (UInt8.ofNat (128 + r / 64 % 64)).toNat % 64) + (UInt8.ofNat (128 + r % 64)).toNat % 64 = r
          rw [u8n _ (by omega), u8n _ (by omega)]
          omega
      · refine key (UInt8.ofNat (240 + r / 262144)) [UInt8.ofNat (128 + r / 4096 % 64), UInt8.ofNat (128 + r / 64 % 64), UInt8.ofNat (128 + r % 64)] 4 (r / 262144) (by unfold putU; rw [if_neg h1, if_neg h2, if_neg h3]) ?_ rfl ?_
        · rw [u8n _ (by omega)]
          unfold firstU
          rw [if_neg (by omega), if_neg (by omega), if_neg (by omega), if_pos (by omega), show 240 + r / 262144 - 240 = r / 262144 by omega]
        · show 64 * (64 * (64 * (r / 262144) + (UInt8.ofNat (128 + r / 4096 % 64)).toNat % 64) + (UInt8.ofNat (128 + r / 64 % 64)).toNat % 64) + (UInt8.ofNat (128 + r % 64)).toNat % 64 = r
          rw [u8n _ (by omega), u8n _ (by omega), u8n _ (by omega)]
          omega

/-- What is taken has just those bytes. -/
theorem takeU_yes (l : List UInt8) (r n : Nat) (h : takeU l = (r, n, true)) : letter r ∧ putU r = l.take n ∧ n = (putU r).length ∧ 1 ≤ n ∧ n ≤ 4 ∧ n ≤ l.length := by
  cases l with
  | nil => cases h
  | cons c t =>
    unfold takeU at h
    simp only at h
    split at h
    · cases h
    · rename_i hno
      split at h
      · rename_i hyes
        have e1 := (Prod.mk.inj h).1
        have e2 := (Prod.mk.inj (Prod.mk.inj h).2).1
        rw [e1, e2] at hyes
        rw [e2] at hno
        have hn : n ≤ (c :: t).length := by simp; omega
        have hlen : n = (putU r).length := by rw [hyes.2, List.length_take]; omega
        have := putU_len r
        exact ⟨hyes.1, hyes.2, hlen, by omega, by omega, hn⟩
      · cases h

theorem takeU_no (l : List UInt8) (r n : Nat) (h : takeU l = (r, n, false)) : r = 0 ∧ n = 0 := by
  cases l with
  | nil => cases h; exact ⟨rfl, rfl⟩
  | cons c t =>
    unfold takeU at h
    simp only at h
    split at h
    · cases h; exact ⟨rfl, rfl⟩
    · split at h
      · cases h
      · cases h; exact ⟨rfl, rfl⟩

theorem takeU_split (l : List UInt8) (r n : Nat) (h : takeU l = (r, n, true)) : l = putU r ++ l.drop n := by
  obtain ⟨_, h2, _⟩ := takeU_yes l r n h
  rw [h2, List.take_append_drop]

/-- The letters of a text, at most f of them. -/
def runesF : Nat → List UInt8 → Option (List Nat)
  | _, [] => some []
  | 0, _ :: _ => none
  | f + 1, l => if (takeU l).2.2 = true then (runesF f (l.drop (takeU l).2.1)).map ((takeU l).1 :: ·) else none

def runesU (l : List UInt8) : Option (List Nat) := runesF l.length l

def textU (rs : List Nat) : List UInt8 := rs.flatMap putU
def letters (rs : List Nat) : Prop := ∀ r ∈ rs, letter r

theorem textU_cons (r : Nat) (rs : List Nat) : textU (r :: rs) = putU r ++ textU rs := rfl

theorem textU_append (a b : List Nat) : textU (a ++ b) = textU a ++ textU b := by
  unfold textU
  rw [List.flatMap_append]

theorem textU_len (rs : List Nat) : rs.length ≤ (textU rs).length := by
  induction rs with
  | nil => simp
  | cons r t ih =>
    have := (putU_len r).1
    rw [textU_cons, List.length_append, List.length_cons]
    omega

theorem runesF_text : ∀ (rs : List Nat) (f : Nat), letters rs → rs.length ≤ f → runesF f (textU rs) = some rs
  | [], f, _, _ => by cases f <;> rfl
  | r :: rs, 0, _, hf => by simp at hf
  | r :: rs, f + 1, h, hf => by
    have hr := h r (List.mem_cons_self ..)
    have ht := takeU_put r (textU rs) hr
    have ih := runesF_text rs f (fun x hx => h x (List.mem_cons_of_mem _ hx)) (by simpa using hf)
    have hne : ∃ c t, textU (r :: rs) = c :: t := by
      have := (putU_len r).1
      cases hp : putU r with
      | nil => rw [hp] at this; simp at this
      | cons c t => exact ⟨c, t ++ textU rs, by rw [textU_cons, hp]; rfl⟩
    obtain ⟨c, t, hc⟩ := hne
    rw [hc]
    show (if (takeU (c :: t)).2.2 = true then (runesF f ((c :: t).drop (takeU (c :: t)).2.1)).map ((takeU (c :: t)).1 :: ·) else none) = _
    rw [← hc, textU_cons, ht]
    simp only [if_true]
    rw [List.drop_left, ih]
    rfl

theorem runesF_yes : ∀ (f : Nat) (l : List UInt8) (rs : List Nat), runesF f l = some rs → letters rs ∧ l = textU rs
  | f, [], rs, h => by
    have h' : some ([] : List Nat) = some rs := by cases f <;> exact h
    have e : [] = rs := Option.some.inj h'
    subst e
    exact ⟨fun r hr => absurd hr List.not_mem_nil, rfl⟩
  | 0, _ :: _, rs, h => by cases h
  | f + 1, c :: t, rs, h => by
    have h' : (if (takeU (c :: t)).2.2 = true then (runesF f ((c :: t).drop (takeU (c :: t)).2.1)).map ((takeU (c :: t)).1 :: ·) else none) = some rs := h
    split at h'
    · rename_i hy
      obtain ⟨r, n, b, ht⟩ : ∃ r n b, takeU (c :: t) = (r, n, b) := ⟨_, _, _, rfl⟩
      rw [ht] at hy h'
      simp only at hy h'
      subst hy
      rw [Option.map_eq_some_iff] at h'
      obtain ⟨qs, hq, rfl⟩ := h'
      obtain ⟨i1, i2⟩ := runesF_yes f _ qs hq
      refine ⟨fun x hx => ?_, ?_⟩
      · rcases List.mem_cons.1 hx with rfl | hx
        · exact (takeU_yes _ _ _ ht).1
        · exact i1 x hx
      · rw [textU_cons, ← i2]
        exact takeU_split _ _ _ ht
    · cases h'

theorem runesU_iff (l : List UInt8) (rs : List Nat) : runesU l = some rs ↔ letters rs ∧ l = textU rs := by
  constructor
  · exact runesF_yes _ _ _
  · rintro ⟨h, rfl⟩
    exact runesF_text rs _ h (textU_len rs)

theorem runesU_nil : runesU [] = some [] := rfl

theorem runesU_step (l : List UInt8) (hl : l ≠ []) : runesU l = if (takeU l).2.2 = true then (runesU (l.drop (takeU l).2.1)).map ((takeU l).1 :: ·) else none := by
  obtain ⟨r, n, b, ht⟩ : ∃ r n b, takeU l = (r, n, b) := ⟨_, _, _, rfl⟩
  rw [ht]
  simp only
  cases b with
  | false =>
    simp only [Bool.false_eq_true, if_false]
    cases hr : runesU l with
    | none => rfl
    | some rs =>
      obtain ⟨h1, h2⟩ := (runesU_iff l rs).1 hr
      cases rs with
      | nil => exact absurd h2 hl
      | cons x xs =>
        rw [h2, textU_cons, takeU_put x _ (h1 x (List.mem_cons_self ..))] at ht
        cases ht
  | true =>
    simp only [if_true]
    have hs := takeU_split l r n ht
    have hy := takeU_yes l r n ht
    cases hr : runesU (l.drop n) with
    | some rs =>
      obtain ⟨h1, h2⟩ := (runesU_iff _ rs).1 hr
      refine (runesU_iff l (r :: rs)).2 ⟨fun x hx => ?_, ?_⟩
      · rcases List.mem_cons.1 hx with rfl | hx
        · exact hy.1
        · exact h1 x hx
      · rw [textU_cons, ← h2]
        exact hs
    | none =>
      cases hl' : runesU l with
      | none => rfl
      | some rs =>
        obtain ⟨h1, h2⟩ := (runesU_iff l rs).1 hl'
        cases rs with
        | nil => exact absurd h2 hl
        | cons x xs =>
          have ht2 := takeU_put x (textU xs) (h1 x (List.mem_cons_self ..))
          rw [← textU_cons, ← h2, ht] at ht2
          have e1 : r = x := (Prod.mk.inj ht2).1
          have e2 : n = (putU x).length := (Prod.mk.inj (Prod.mk.inj ht2).2).1
          have e3 : l.drop n = textU xs := by rw [h2, textU_cons, e2, List.drop_left]
          rw [(runesU_iff _ xs).2 ⟨fun y hy => h1 y (List.mem_cons_of_mem _ hy), e3⟩] at hr
          cases hr

/-- Behind a valid text. -/
theorem runesU_append (rs : List Nat) (b : List UInt8) (h : letters rs) : runesU (textU rs ++ b) = (runesU b).map (rs ++ ·) := by
  induction rs with
  | nil => show runesU b = _; cases runesU b <;> rfl
  | cons r t ih =>
    have hr := h r (List.mem_cons_self ..)
    have e : textU (r :: t) ++ b = putU r ++ (textU t ++ b) := by rw [textU_cons, List.append_assoc]
    have hne : putU r ++ (textU t ++ b) ≠ [] := by
      have := (putU_len r).1
      cases hp : putU r with
      | nil => rw [hp] at this; simp at this
      | cons c t => simp
    rw [e, runesU_step _ hne, takeU_put r _ hr]
    simp only [if_true]
    rw [List.drop_left, ih (fun x hx => h x (List.mem_cons_of_mem _ hx))]
    cases runesU b <;> rfl
theorem u8_inj (a b : Nat) (ha : a < 256) (hb : b < 256) (h : UInt8.ofNat a = UInt8.ofNat b) : a = b := by
  have := congrArg UInt8.toNat h
  rw [u8n a ha, u8n b hb] at this
  exact this

/-- Two letters with the same bytes are one. -/
theorem putU_inj (a b : Nat) (ha : letter a) (hb : letter b) (h : putU a = putU b) : a = b := by
  have h1 := takeU_put a [] ha
  rw [h, takeU_put b [] hb] at h1
  exact (Prod.mk.inj h1).1.symm

theorem less_cons (x y : Nat) (s t : List UInt8) (hx : x < 256) (hy : y < 256) : Op.bytesLess (UInt8.ofNat x :: s) (UInt8.ofNat y :: t) = (decide (x < y) || (decide (x = y) && Op.bytesLess s t)) := by
  have hlt : decide (UInt8.ofNat x < UInt8.ofNat y) = decide (x < y) := by
    rw [Bool.eq_iff_iff, decide_eq_true_eq, decide_eq_true_eq, UInt8.lt_iff_toNat_lt, u8n x hx, u8n y hy]
  have heq : (UInt8.ofNat x == UInt8.ofNat y) = decide (x = y) := by
    rw [Bool.eq_iff_iff, beq_iff_eq, decide_eq_true_eq, ← UInt8.toNat_inj, u8n x hx, u8n y hy]
  rw [Op.bytesLess, hlt, heq]

theorem less_nil : Op.bytesLess [] [] = false := rfl

/-- Of two letters the lesser one has the lesser bytes. -/
theorem putU_less (a b : Nat) (ha : letter a) (hb : letter b) : Op.bytesLess (putU a) (putU b) = decide (a < b) := by
  have a0 := ha.1
  have b0 := hb.1
  clear ha hb
  rw [Bool.eq_iff_iff]
  by_cases h1 : a < 128
  · by_cases k1 : b < 128
    · unfold putU
      rw [if_pos h1, if_pos k1, less_cons _ _ _ _ (by omega) (by omega), less_nil]
      simp
    · by_cases k2 : b < 2048
      · unfold putU
        rw [if_pos h1, if_neg k1, if_pos k2, less_cons _ _ _ _ (by omega) (by omega)]
        simp only [Bool.or_eq_true, Bool.and_eq_true, decide_eq_true_eq]
        omega
      · by_cases k3 : b < 65536
        · unfold putU
          rw [if_pos h1, if_neg k1, if_neg k2, if_pos k3, less_cons _ _ _ _ (by omega) (by omega)]
          simp only [Bool.or_eq_true, Bool.and_eq_true, decide_eq_true_eq]
          omega
        · unfold putU
          rw [if_pos h1, if_neg k1, if_neg k2, if_neg k3, less_cons _ _ _ _ (by omega) (by omega)]
          simp only [Bool.or_eq_true, Bool.and_eq_true, decide_eq_true_eq]
          omega
  · by_cases h2 : a < 2048
    · by_cases k1 : b < 128
      · unfold putU
        rw [if_neg h1, if_pos h2, if_pos k1, less_cons _ _ _ _ (by omega) (by omega)]
        simp only [Bool.or_eq_true, Bool.and_eq_true, decide_eq_true_eq]
        omega
      · by_cases k2 : b < 2048
        · unfold putU
          rw [if_neg h1, if_pos h2, if_neg k1, if_pos k2, less_cons _ _ _ _ (by omega) (by omega), less_cons _ _ _ _ (by omega) (by omega), less_nil]
          simp only [Bool.or_eq_true, Bool.and_eq_true, decide_eq_true_eq, Bool.false_eq_true, and_false, or_false]
          omega
        · by_cases k3 : b < 65536
          · unfold putU
            rw [if_neg h1, if_pos h2, if_neg k1, if_neg k2, if_pos k3, less_cons _ _ _ _ (by omega) (by omega)]
            simp only [Bool.or_eq_true, Bool.and_eq_true, decide_eq_true_eq]
            omega
          · unfold putU
            rw [if_neg h1, if_pos h2, if_neg k1, if_neg k2, if_neg k3, less_cons _ _ _ _ (by omega) (by omega)]
            simp only [Bool.or_eq_true, Bool.and_eq_true, decide_eq_true_eq]
            omega
    · by_cases h3 : a < 65536
      · by_cases k1 : b < 128
        · unfold putU
          rw [if_neg h1, if_neg h2, if_pos h3, if_pos k1, less_cons _ _ _ _ (by omega) (by omega)]
          simp only [Bool.or_eq_true, Bool.and_eq_true, decide_eq_true_eq]
          omega
        · by_cases k2 : b < 2048
          · unfold putU
            rw [if_neg h1, if_neg h2, if_pos h3, if_neg k1, if_pos k2, less_cons _ _ _ _ (by omega) (by omega)]
            simp only [Bool.or_eq_true, Bool.and_eq_true, decide_eq_true_eq]
            omega
          · by_cases k3 : b < 65536
            · unfold putU
              rw [if_neg h1, if_neg h2, if_pos h3, if_neg k1, if_neg k2, if_pos k3, less_cons _ _ _ _ (by omega) (by omega), less_cons _ _ _ _ (by omega) (by omega), less_cons _ _ _ _ (by omega) (by omega), less_nil]
              simp only [Bool.or_eq_true, Bool.and_eq_true, decide_eq_true_eq, Bool.false_eq_true, and_false, or_false]
              omega
            · unfold putU
              rw [if_neg h1, if_neg h2, if_pos h3, if_neg k1, if_neg k2, if_neg k3, less_cons _ _ _ _ (by omega) (by omega)]
              simp only [Bool.or_eq_true, Bool.and_eq_true, decide_eq_true_eq]
              omega
      · by_cases k1 : b < 128
        · unfold putU
          rw [if_neg h1, if_neg h2, if_neg h3, if_pos k1, less_cons _ _ _ _ (by omega) (by omega)]
          simp only [Bool.or_eq_true, Bool.and_eq_true, decide_eq_true_eq]
          omega
        · by_cases k2 : b < 2048
          · unfold putU
            rw [if_neg h1, if_neg h2, if_neg h3, if_neg k1, if_pos k2, less_cons _ _ _ _ (by omega) (by omega)]
            simp only [Bool.or_eq_true, Bool.and_eq_true, decide_eq_true_eq]
            omega
          · by_cases k3 : b < 65536
            · unfold putU
              rw [if_neg h1, if_neg h2, if_neg h3, if_neg k1, if_neg k2, if_pos k3, less_cons _ _ _ _ (by omega) (by omega)]
              simp only [Bool.or_eq_true, Bool.and_eq_true, decide_eq_true_eq]
              omega
            · unfold putU
              rw [if_neg h1, if_neg h2, if_neg h3, if_neg k1, if_neg k2, if_neg k3, less_cons _ _ _ _ (by omega) (by omega), less_cons _ _ _ _ (by omega) (by omega), less_cons _ _ _ _ (by omega) (by omega), less_cons _ _ _ _ (by omega) (by omega), less_nil]
              simp only [Bool.or_eq_true, Bool.and_eq_true, decide_eq_true_eq, Bool.false_eq_true, and_false, or_false]
              omega

theorem get_list (s : ByteArray) (j : Nat) (c : UInt8) (h : s.data.toList[j]? = some c) : s.get! j = c ∧ j < s.size := by
  obtain ⟨h1, h2⟩ := List.getElem?_eq_some_iff.1 h
  have hj : j < s.size := by
    have : s.data.toList.length = s.size := by simp
    omega
  refine ⟨?_, hj⟩
  rw [← h2]
  simp [ByteArray.get!, hj]

theorem drop_at (s : ByteArray) (i k : Nat) (c : UInt8) (l : List UInt8) (h : s.data.toList.drop i = l) (hk : l[k]? = some c) : s.get! (i + k) = c ∧ i + k < s.size := by
  apply get_list
  rw [← h, List.getElem?_drop] at hk
  exact hk

theorem valid_letter (r : Nat) : Utf8.valid (r : Int) = decide (letter r) := by
  rw [Bool.eq_iff_iff, decide_eq_true_eq]
  unfold Utf8.valid letter
  simp only [Bool.or_eq_true, Bool.and_eq_true, decide_eq_true_eq]
  omega

/-- What the language's own decoding tells of a letter's bytes. -/
theorem decode_put (s : ByteArray) (i r : Nat) (b : List UInt8) (hr : letter r) (h : s.data.toList.drop i = putU r ++ b) : Utf8.decode s i = (r, (putU r).length) := by
  have r0 := hr.1
  by_cases h1 : r < 128
  · have e : putU r = [UInt8.ofNat r] := by unfold putU; rw [if_pos h1]
    rw [e] at h ⊢
    obtain ⟨g0, _⟩ := drop_at s i 0 (UInt8.ofNat r) _ h rfl
    simp only [Utf8.decode, g0, u8n r (by omega)]
    rw [if_pos h1]
    rfl
  · by_cases h2 : r < 2048
    · have e : putU r = [UInt8.ofNat (192 + r / 64), UInt8.ofNat (128 + r % 64)] := by unfold putU; rw [if_neg h1, if_pos h2]
      rw [e] at h ⊢
      obtain ⟨g0, _⟩ := drop_at s i 0 _ _ h rfl
      obtain ⟨g1, s1⟩ := drop_at s i 1 _ _ h rfl
      simp only [Utf8.decode, g0, g1, u8n (192 + r / 64) (by omega), u8n (128 + r % 64) (by omega)]
      rw [if_neg (by omega), if_pos (by simp [s1]; omega), if_pos (by omega)]
      simp
      omega
    · by_cases h3 : r < 65536
      · have e : putU r = [UInt8.ofNat (224 + r / 4096), UInt8.ofNat (128 + r / 64 % 64), UInt8.ofNat (128 + r % 64)] := by unfold putU; rw [if_neg h1, if_neg h2, if_pos h3]
        rw [e] at h ⊢
        obtain ⟨g0, _⟩ := drop_at s i 0 _ _ h rfl
        obtain ⟨g1, s1⟩ := drop_at s i 1 _ _ h rfl
        obtain ⟨g2, s2⟩ := drop_at s i 2 _ _ h rfl
        have ev : ((224 + r / 4096) % 16) * 4096 + (128 + r / 64 % 64) % 64 * 64 + (128 + r % 64) % 64 = r := by omega
        simp only [Utf8.decode, g0, g1, g2, u8n (224 + r / 4096) (by omega), u8n (128 + r / 64 % 64) (by omega), u8n (128 + r % 64) (by omega), ev, valid_letter]
        rw [if_neg (by omega), if_neg (by simp; omega), if_pos (by simp [s1, s2]; omega), if_pos (by simp [hr]; omega)]
        rfl
      · have e : putU r = [UInt8.ofNat (240 + r / 262144), UInt8.ofNat (128 + r / 4096 % 64), UInt8.ofNat (128 + r / 64 % 64), UInt8.ofNat (128 + r % 64)] := by unfold putU; rw [if_neg h1, if_neg h2, if_neg h3]
        rw [e] at h ⊢
        obtain ⟨g0, _⟩ := drop_at s i 0 _ _ h rfl
        obtain ⟨g1, s1⟩ := drop_at s i 1 _ _ h rfl
        obtain ⟨g2, s2⟩ := drop_at s i 2 _ _ h rfl
        obtain ⟨g3, s3⟩ := drop_at s i 3 _ _ h rfl
        have ev : ((240 + r / 262144) % 8) * 262144 + (128 + r / 4096 % 64) % 64 * 4096 + (128 + r / 64 % 64) % 64 * 64 + (128 + r % 64) % 64 = r := by omega
        simp only [Utf8.decode, g0, g1, g2, g3, u8n (240 + r / 262144) (by omega), u8n (128 + r / 4096 % 64) (by omega), u8n (128 + r / 64 % 64) (by omega), u8n (128 + r % 64) (by omega), ev, valid_letter]
        rw [if_neg (by omega), if_neg (by simp; omega), if_neg (by simp; omega), if_pos (by simp [s1, s2, s3]; omega), if_pos (by simp [hr]; omega)]
        rfl

theorem ofNat_toNat (c : UInt8) (n : Nat) (h : n = c.toNat) : UInt8.ofNat n = c := by
  rw [h]
  simp

theorem drop_more (s : ByteArray) (i : Nat) (h : i < s.size) : s.data.toList.drop i = s.get! i :: s.data.toList.drop (i + 1) := by
  have hl : i < s.data.toList.length := by simpa using h
  rw [List.drop_eq_getElem_cons hl]
  congr 1
  simp [ByteArray.get!, h]

/-- Where it tells a letter, there is one. -/
theorem decode_good (s : ByteArray) (i r n : Nat) (hi : i < s.size) (h : Utf8.decode s i = (r, n)) : (r = 65533 ∧ n = 1) ∨ (letter r ∧ ∃ b, s.data.toList.drop i = putU r ++ b) := by
  obtain ⟨c0, hc0⟩ : ∃ c, s.get! (i + 0) = c := ⟨_, rfl⟩
  obtain ⟨c1, hc1⟩ : ∃ c, s.get! (i + 1) = c := ⟨_, rfl⟩
  obtain ⟨c2, hc2⟩ : ∃ c, s.get! (i + 2) = c := ⟨_, rfl⟩
  obtain ⟨c3, hc3⟩ : ∃ c, s.get! (i + 3) = c := ⟨_, rfl⟩
  have l0 := c0.toNat_lt
  have l1 := c1.toNat_lt
  have l2 := c2.toNat_lt
  have l3 := c3.toNat_lt
  have d0 := drop_more s i hi
  rw [show s.get! i = c0 from hc0] at d0
  simp only [Utf8.decode, hc0, hc1, hc2, hc3] at h
  split at h
  · rename_i hb
    cases h
    refine .inr ⟨⟨by omega, by omega⟩, s.data.toList.drop (i + 1), ?_⟩
    unfold putU
    rw [if_pos hb, d0, ofNat_toNat c0 _ rfl]
    rfl
  · rename_i hb
    split at h
    · rename_i hb2
      simp only [Bool.and_eq_true, decide_eq_true_eq, beq_iff_eq] at hb2
      obtain ⟨hb3, hs1, hb4⟩ := hb2
      split at h
      · rename_i hb5
        cases h
        have d1 := drop_more s (i + 1) hs1
        rw [hc1] at d1
        refine .inr ⟨⟨by omega, by omega⟩, s.data.toList.drop (i + 1 + 1), ?_⟩
        unfold putU
        rw [if_neg (by omega), if_pos (by omega), d0, d1, ofNat_toNat c0 _ (by omega), ofNat_toNat c1 _ (by omega)]
        rfl
      · cases h
        exact .inl ⟨rfl, rfl⟩
    · split at h
      · rename_i hb2
        simp only [Bool.and_eq_true, decide_eq_true_eq, beq_iff_eq] at hb2
        obtain ⟨⟨hb3, hs1, hb4⟩, hs2, hb5⟩ := hb2
        split at h
        · rename_i hb6
          simp only [Bool.and_eq_true, decide_eq_true_eq, valid_letter] at hb6
          cases h
          have d1 := drop_more s (i + 1) hs1
          have d2 := drop_more s (i + 1 + 1) hs2
          rw [hc1] at d1
          rw [show s.get! (i + 1 + 1) = c2 from hc2] at d2
          refine .inr ⟨hb6.2, s.data.toList.drop (i + 1 + 1 + 1), ?_⟩
          unfold putU
          rw [if_neg (by omega), if_neg (by omega), if_pos (by omega), d0, d1, d2, ofNat_toNat c0 _ (by omega), ofNat_toNat c1 _ (by omega), ofNat_toNat c2 _ (by omega)]
          rfl
        · cases h
          exact .inl ⟨rfl, rfl⟩
      · split at h
        · rename_i hb2
          simp only [Bool.and_eq_true, decide_eq_true_eq, beq_iff_eq] at hb2
          obtain ⟨⟨⟨hb3, hs1, hb4⟩, hs2, hb5⟩, hs3, hb6⟩ := hb2
          split at h
          · rename_i hb7
            simp only [Bool.and_eq_true, decide_eq_true_eq, valid_letter] at hb7
            cases h
            have hv := hb7.2.1
            have d1 := drop_more s (i + 1) hs1
            have d2 := drop_more s (i + 1 + 1) hs2
            have d3 := drop_more s (i + 1 + 1 + 1) hs3
            rw [hc1] at d1
            rw [show s.get! (i + 1 + 1) = c2 from hc2] at d2
            rw [show s.get! (i + 1 + 1 + 1) = c3 from hc3] at d3
            refine .inr ⟨hb7.2, s.data.toList.drop (i + 1 + 1 + 1 + 1), ?_⟩
            unfold putU
            rw [if_neg (by omega), if_neg (by omega), if_neg (by omega), d0, d1, d2, d3, ofNat_toNat c0 _ (by omega), ofNat_toNat c1 _ (by omega), ofNat_toNat c2 _ (by omega), ofNat_toNat c3 _ (by omega)]
            rfl
          · cases h
            exact .inl ⟨rfl, rfl⟩
        · cases h
          exact .inl ⟨rfl, rfl⟩

/-- The language's own decoding, by what is taken. -/
theorem decode_take (s : ByteArray) (i : Nat) (hi : i < s.size) : Utf8.decode s i = if (takeU (s.data.toList.drop i)).2.2 = true then ((takeU (s.data.toList.drop i)).1, (takeU (s.data.toList.drop i)).2.1) else (65533, 1) := by
  obtain ⟨r, n, b, ht⟩ : ∃ r n b, takeU (s.data.toList.drop i) = (r, n, b) := ⟨_, _, _, rfl⟩
  rw [ht]
  cases b with
  | true =>
    have hy := takeU_yes _ _ _ ht
    have hs := takeU_split _ _ _ ht
    simp only [if_true]
    rw [decode_put s i r _ hy.1 hs, hy.2.2.1]
  | false =>
    simp only [Bool.false_eq_true, if_false]
    obtain ⟨x, m, hd⟩ : ∃ x m, Utf8.decode s i = (x, m) := ⟨_, _, rfl⟩
    rcases decode_good s i x m hi hd with ⟨rfl, rfl⟩ | ⟨hx, b, hb⟩
    · exact hd
    · rw [hb, takeU_put x b hx] at ht
      cases ht
end Go.Proofs.YtmnigdcgdebgoaaDoor
namespace Go.Proofs.YtmnigdcgdebgoaaDoor
set_option linter.unusedVariables false

/-- The sign of a byte that is written by one; 0: there is none. -/
def shortN (n : Nat) : Nat := if n = 34 then 34 else if n = 92 then 92 else if n = 8 then 98 else if n = 9 then 116 else if n = 10 then 110 else if n = 12 then 102 else if n = 13 then 114 else 0
/-- A hexadecimal digit. -/
def signQ (n : Nat) : Nat := if n < 10 then 48 + n else 87 + n

/-- What a byte is written as. -/
def pieceL (c : UInt8) : List UInt8 :=
  if shortN c.toNat ≠ 0 then [92, UInt8.ofNat (shortN c.toNat)]
  else if c.toNat < 32 then [92, 117, 48, 48, UInt8.ofNat (signQ (c.toNat / 16)), UInt8.ofNat (signQ (c.toNat % 16))]
  else [c]
def innerL (s : List UInt8) : List UInt8 := s.flatMap pieceL
def quoteL (s : List UInt8) : List UInt8 := 34 :: (innerL s ++ [34])

/-- A hexadecimal digit's number. -/
def valQ (n : Nat) : Option Nat := if 48 ≤ n ∧ n ≤ 57 then some (n - 48) else if 97 ≤ n ∧ n ≤ 102 then some (n - 87) else if 65 ≤ n ∧ n ≤ 70 then some (n - 55) else none

/-- Of four digits. -/
def fourQ (a b c d : Nat) : Option Nat := match valQ a, valQ b, valQ c, valQ d with
  | some i, some j, some k, some l => some (16 * (16 * (16 * i + j) + k) + l)
  | _, _, _, _ => none
/-- Of a u, and four digits. -/
def numQ : List UInt8 → Option Nat
  | u :: a :: b :: c :: d :: _ => if u.toNat = 117 then fourQ a.toNat b.toNat c.toNat d.toNat else none
  | _ => none

/-- Which byte a sign behind a backslash stands for. -/
def backN (n : Nat) : Option Nat := if n = 34 ∨ n = 92 ∨ n = 47 then some n else if n = 98 then some 8 else if n = 116 then some 9 else if n = 110 then some 10 else if n = 102 then some 12 else if n = 114 then some 13 else none

/-- Of two numbers. -/
def pairQ (n : Nat) (l : List UInt8) : Option Nat := match l with
  | c :: t => if c.toNat = 92 then (match numQ t with | some m => if 56320 ≤ m ∧ m ≤ 57343 then some (65536 + 1024 * (n - 55296) + (m - 56320)) else none | none => none) else none
  | [] => none

/-- A piece behind a backslash: the letter, and how many bytes the whole piece has. -/
def escQ : List UInt8 → Option (Nat × Nat)
  | [] => none
  | c :: t => match backN c.toNat with
    | some r => some (r, 2)
    | none => match numQ (c :: t) with
      | none => none
      | some n => if 56320 ≤ n ∧ n ≤ 57343 then none else if n < 55296 ∨ 57343 < n then some (n, 6) else (pairQ n (t.drop 4)).map fun r => (r, 12)

/-- A piece: an error, or 0; the bytes that it stands for; how many it has. -/
def pieceQ : List UInt8 → Nat × List UInt8 × Nat
  | [] => (71, [], 0)
  | c :: t =>
    if c.toNat < 32 then (72, [], 0)
    else if c.toNat = 92 then (match escQ t with | some (r, n) => (0, putU r, n) | none => (73, [], 0))
    else if (takeU (c :: t)).2.2 = true then (0, (c :: t).take (takeU (c :: t)).2.1, (takeU (c :: t)).2.1) else (74, [], 0)

/-- The pieces of l, when out is had and at bytes are read. -/
def readF : Nat → List UInt8 → List UInt8 → Nat → Nat × List UInt8 × Nat
  | 0, _, _, _ => (71, [], 0)
  | f + 1, l, out, at_ => if l.head? = some 34 then (0, out, at_ + 1) else
    if (pieceQ l).1 = 0 then readF f (l.drop (pieceQ l).2.2) (out ++ (pieceQ l).2.1) (at_ + (pieceQ l).2.2) else ((pieceQ l).1, [], 0)
def readR (l out : List UInt8) (at_ : Nat) : Nat × List UInt8 × Nat := readF (l.length + 1) l out at_
def readQ (s : List UInt8) : Nat × List UInt8 × Nat := if s.head? = some 34 then readR s.tail [] 1 else (70, [], 0)

theorem valQ_lt (n v : Nat) (h : valQ n = some v) : v < 16 := by
  unfold valQ at h
  split at h
  · cases h; omega
  · split at h
    · cases h; omega
    · split at h
      · cases h; omega
      · cases h

theorem fourQ_lt (a b c d n : Nat) (h : fourQ a b c d = some n) : n < 65536 := by
  unfold fourQ at h
  split at h
  · rename_i i j k l h1 h2 h3 h4
    have := valQ_lt _ _ h1
    have := valQ_lt _ _ h2
    have := valQ_lt _ _ h3
    have := valQ_lt _ _ h4
    cases h
    omega
  · cases h

theorem numQ_yes (l : List UInt8) (n : Nat) (h : numQ l = some n) : n < 65536 ∧ 5 ≤ l.length ∧ ∀ b, numQ (l ++ b) = some n := by
  match l, h with
  | u :: a :: b :: c :: d :: t, h =>
    have h' : (if u.toNat = 117 then fourQ a.toNat b.toNat c.toNat d.toNat else none) = some n := h
    by_cases hu : u.toNat = 117
    · rw [if_pos hu] at h'
      refine ⟨fourQ_lt _ _ _ _ _ h', by simp, fun r => ?_⟩
      show (if u.toNat = 117 then fourQ a.toNat b.toNat c.toNat d.toNat else none) = some n
      rw [if_pos hu]
      exact h'
    · rw [if_neg hu] at h'
      cases h'
  | [], h => cases h
  | [_], h => cases h
  | [_, _], h => cases h
  | [_, _, _], h => cases h
  | [_, _, _, _], h => cases h

theorem pairQ_yes (n : Nat) (l : List UInt8) (r : Nat) (hn : 55296 ≤ n ∧ n ≤ 56319) (h : pairQ n l = some r) : letter r ∧ 65536 ≤ r ∧ 6 ≤ l.length ∧ ∀ b, pairQ n (l ++ b) = some r := by
  cases l with
  | nil => cases h
  | cons c t =>
    unfold pairQ at h
    simp only at h
    split at h
    · rename_i hc
      cases hm : numQ t with
      | none => rw [hm] at h; cases h
      | some m =>
        rw [hm] at h
        simp only at h
        split at h
        · rename_i hr
          obtain ⟨_, h2, h3⟩ := numQ_yes t m hm
          have e := Option.some.inj h
          subst e
          refine ⟨⟨by omega, by omega⟩, by omega, by simp; omega, fun b => ?_⟩
          show (if c.toNat = 92 then (match numQ (t ++ b) with | some m => if 56320 ≤ m ∧ m ≤ 57343 then some (65536 + 1024 * (n - 55296) + (m - 56320)) else none | none => none) else none) = _
          rw [if_pos hc, h3 b]
          simp only
          rw [if_pos hr]
        · cases h
    · cases h

theorem backN_lt (n r : Nat) (h : backN n = some r) : r < 128 := by
  unfold backN at h
  repeat' split at h
  all_goals first | (cases h; omega) | cases h

theorem escQ_yes (l : List UInt8) (r n : Nat) (h : escQ l = some (r, n)) : letter r ∧ 2 ≤ n ∧ n ≤ l.length + 1 ∧ ∀ b, escQ (l ++ b) = some (r, n) := by
  cases l with
  | nil => cases h
  | cons c t =>
    replace h : (match backN c.toNat with | some r => some (r, 2) | none => match numQ (c :: t) with | none => none | some n => if 56320 ≤ n ∧ n ≤ 57343 then none else if n < 55296 ∨ 57343 < n then some (n, 6) else (pairQ n (t.drop 4)).map fun r => (r, 12)) = some (r, n) := h
    cases hb : backN c.toNat with
    | some x =>
      rw [hb] at h
      simp only [Option.some.injEq, Prod.mk.injEq] at h
      obtain ⟨rfl, rfl⟩ := h
      have := backN_lt _ _ hb
      refine ⟨⟨by omega, by omega⟩, by omega, by simp, fun b => ?_⟩
      show (match backN c.toNat with | some r => some (r, 2) | none => _) = _
      rw [hb]
    | none =>
      rw [hb] at h
      simp only at h
      cases hn : numQ (c :: t) with
      | none => rw [hn] at h; cases h
      | some m =>
        rw [hn] at h
        simp only at h
        obtain ⟨h1, h2, h3⟩ := numQ_yes _ _ hn
        have hs : ∀ b, escQ (c :: t ++ b) = if 56320 ≤ m ∧ m ≤ 57343 then none else if m < 55296 ∨ 57343 < m then some (m, 6) else (pairQ m ((t ++ b).drop 4)).map fun r => (r, 12) := by
          intro b
          show (match backN c.toNat with | some r => some (r, 2) | none => match numQ (c :: t ++ b) with | none => none | some n => if 56320 ≤ n ∧ n ≤ 57343 then none else if n < 55296 ∨ 57343 < n then some (n, 6) else (pairQ n ((t ++ b).drop 4)).map fun r => (r, 12)) = _
          rw [hb, h3 b]
        have hl : 4 ≤ t.length := by simp at h2; omega
        split at h
        · cases h
        · rename_i hno
          split at h
          · rename_i hone
            simp only [Option.some.injEq, Prod.mk.injEq] at h
            obtain ⟨rfl, rfl⟩ := h
            refine ⟨⟨by omega, by omega⟩, by omega, by simp; omega, fun b => ?_⟩
            rw [hs b, if_neg hno, if_pos hone]
          · rename_i htwo
            rw [Option.map_eq_some_iff] at h
            obtain ⟨x, hx, he⟩ := h
            simp only [Prod.mk.injEq] at he
            obtain ⟨rfl, rfl⟩ := he
            obtain ⟨p1, p2, p3, p4⟩ := pairQ_yes m (t.drop 4) x (by omega) hx
            rw [List.length_drop] at p3
            refine ⟨p1, by omega, by simp; omega, fun b => ?_⟩
            rw [hs b, if_neg hno, if_neg htwo, List.drop_append_of_le_length hl, p4 b]
            rfl

/-- A piece that is one: a letter's bytes; it does not hang on what is behind it. -/
theorem pieceQ_yes (l : List UInt8) (h : (pieceQ l).1 = 0) : (∃ r, letter r ∧ (pieceQ l).2.1 = putU r) ∧ 1 ≤ (pieceQ l).2.2 ∧ (pieceQ l).2.2 ≤ l.length ∧ ∀ b, pieceQ (l ++ b) = pieceQ l := by
  cases l with
  | nil => cases h
  | cons c t =>
    have hp : ∀ b, pieceQ (c :: t ++ b) = if c.toNat < 32 then (72, [], 0) else if c.toNat = 92 then (match escQ (t ++ b) with | some (r, n) => (0, putU r, n) | none => (73, [], 0)) else if (takeU (c :: t ++ b)).2.2 = true then (0, (c :: t ++ b).take (takeU (c :: t ++ b)).2.1, (takeU (c :: t ++ b)).2.1) else (74, [], 0) := fun b => rfl
    have h0 := hp []
    rw [List.append_nil, List.append_nil] at h0
    rw [h0] at h ⊢
    by_cases h1 : c.toNat < 32
    · rw [if_pos h1] at h; cases h
    · rw [if_neg h1] at h ⊢
      by_cases h2 : c.toNat = 92
      · rw [if_pos h2] at h ⊢
        cases he : escQ t with
        | none => rw [he] at h; cases h
        | some p =>
          obtain ⟨r, n⟩ := p
          obtain ⟨e1, e2, e3, e4⟩ := escQ_yes t r n he
          refine ⟨⟨r, e1, rfl⟩, by show 1 ≤ n; omega, by show n ≤ t.length + 1; exact e3, fun b => ?_⟩
          rw [hp b, if_neg h1, if_pos h2, e4 b]
      · rw [if_neg h2] at h ⊢
        by_cases h3 : (takeU (c :: t)).2.2 = true
        · rw [if_pos h3]
          obtain ⟨r, n, ok, ht⟩ : ∃ r n ok, takeU (c :: t) = (r, n, ok) := ⟨_, _, _, rfl⟩
          rw [ht] at h3
          simp only at h3
          subst h3
          obtain ⟨y1, y2, y3, y4, y5, y6⟩ := takeU_yes _ _ _ ht
          have hs := takeU_split _ _ _ ht
          rw [ht]
          refine ⟨⟨r, y1, y2.symm⟩, y4, y6, fun b => ?_⟩
          have hb : takeU (c :: t ++ b) = (r, n, true) := by
            conv => lhs; rw [hs, List.append_assoc]
            rw [takeU_put r _ y1, ← y3]
          rw [hp b, if_neg h1, if_neg h2, hb, if_pos rfl]
          simp only
          rw [List.take_append_of_le_length y6]
        · rw [if_neg h3] at h; cases h

theorem readF_fuel : ∀ (f g : Nat) (l out : List UInt8) (k : Nat), l.length < f → l.length < g → readF f l out k = readF g l out k
  | 0, _, _, _, _, h, _ => by omega
  | _, 0, _, _, _, _, h => by omega
  | f + 1, g + 1, l, out, k, h1, h2 => by
    show (if l.head? = some 34 then _ else _) = (if l.head? = some 34 then _ else _)
    split
    · rfl
    · split
      · rename_i h0
        obtain ⟨_, p2, p3, _⟩ := pieceQ_yes l h0
        exact readF_fuel f g _ _ _ (by rw [List.length_drop]; omega) (by rw [List.length_drop]; omega)
      · rfl

theorem readR_end (l out : List UInt8) (k : Nat) (h : l.head? = some 34) : readR l out k = (0, out, k + 1) := by
  show (if l.head? = some 34 then _ else _) = _
  rw [if_pos h]
theorem readR_err (l out : List UInt8) (k : Nat) (h : l.head? ≠ some 34) (h0 : (pieceQ l).1 ≠ 0) : readR l out k = ((pieceQ l).1, [], 0) := by
  show (if l.head? = some 34 then _ else _) = _
  rw [if_neg h, if_neg h0]
theorem readR_step (l out : List UInt8) (k : Nat) (h : l.head? ≠ some 34) (h0 : (pieceQ l).1 = 0) : readR l out k = readR (l.drop (pieceQ l).2.2) (out ++ (pieceQ l).2.1) (k + (pieceQ l).2.2) := by
  obtain ⟨_, p2, p3, _⟩ := pieceQ_yes l h0
  show (if l.head? = some 34 then _ else _) = _
  rw [if_neg h, if_pos h0]
  exact readF_fuel _ _ _ _ _ (by rw [List.length_drop]; omega) (by rw [List.length_drop]; omega)

/-- Read, or an error; what is read is valid, and does not hang on what is behind it. -/
theorem readR_cases : ∀ (m : Nat) (l out : List UInt8) (k : Nat), l.length ≤ m →
    (∃ e, e ≠ 0 ∧ readR l out k = (e, [], 0)) ∨ (∃ rs n, letters rs ∧ rs.length ≤ l.length ∧ n ≤ k + l.length ∧ readR l out k = (0, out ++ textU rs, n) ∧ ∀ b, readR (l ++ b) out k = readR l out k)
  | m, l, out, k, hm => by
    by_cases h : l.head? = some 34
    · refine .inr ⟨[], k + 1, (fun r hr => by cases hr), Nat.zero_le _, ?_, ?_, fun b => ?_⟩
      · cases l with
        | nil => cases h
        | cons c t => simp
      · rw [readR_end l out k h]; simp [textU]
      · rw [readR_end l out k h, readR_end (l ++ b) out k]
        cases l with
        | nil => cases h
        | cons c t => exact h
    · by_cases h0 : (pieceQ l).1 = 0
      · obtain ⟨⟨r, hr, hb⟩, p2, p3, p4⟩ := pieceQ_yes l h0
        have hs := readR_step l out k h h0
        have hl : 0 < l.length := by omega
        match m, hm with
        | 0, hm => omega
        | m + 1, hm =>
          have hd : (l.drop (pieceQ l).2.2).length = l.length - (pieceQ l).2.2 := List.length_drop
          rcases readR_cases m (l.drop (pieceQ l).2.2) (out ++ (pieceQ l).2.1) (k + (pieceQ l).2.2) (by omega) with ⟨e, h1, h2⟩ | ⟨rs, n, h1, hq, h2, h3, h4⟩
          · exact .inl ⟨e, h1, by rw [hs, h2]⟩
          · refine .inr ⟨r :: rs, n, ?_, by rw [List.length_cons]; omega, ?_, ?_, fun b => ?_⟩
            · intro x hx
              rcases List.mem_cons.1 hx with rfl | hx
              · exact hr
              · exact h1 x hx
            · omega
            · rw [hs, h3, textU_cons, hb, List.append_assoc]
            · have hh : (l ++ b).head? ≠ some 34 := by
                cases l with
                | nil => simp at hl
                | cons c t => exact h
              have h0' : (pieceQ (l ++ b)).1 = 0 := by rw [p4 b]; exact h0
              rw [readR_step (l ++ b) out k hh h0', p4 b, List.drop_append_of_le_length p3, h4 b, hs]
      · exact .inl ⟨(pieceQ l).1, h0, readR_err l out k h h0⟩
end Go.Proofs.YtmnigdcgdebgoaaDoor
namespace Go.Proofs.YtmnigdcgdebgoaaDoor
set_option linter.unusedVariables false

theorem innerL_append (a b : List UInt8) : innerL (a ++ b) = innerL a ++ innerL b := by
  unfold innerL
  rw [List.flatMap_append]

theorem textU_four : ∀ rs : List Nat, (textU rs).length ≤ 4 * rs.length
  | [] => by simp [textU]
  | r :: t => by
    have h1 := (putU_len r).2
    have h2 := textU_four t
    rw [textU_cons, List.length_append, List.length_cons]
    omega

theorem putU_128 (r : Nat) (h : 128 ≤ r) (hr : letter r) : ∀ c ∈ putU r, 128 ≤ c.toNat := by
  have h1 := hr.1
  intro c hc
  unfold putU at hc
  rw [if_neg (by omega)] at hc
  split at hc
  · simp only [List.mem_cons, List.not_mem_nil, or_false] at hc
    rcases hc with rfl | rfl
    · rw [u8n _ (by omega)]; omega
    · rw [u8n _ (by omega)]; omega
  · split at hc
    · simp only [List.mem_cons, List.not_mem_nil, or_false] at hc
      rcases hc with rfl | rfl | rfl
      · rw [u8n _ (by omega)]; omega
      · rw [u8n _ (by omega)]; omega
      · rw [u8n _ (by omega)]; omega
    · simp only [List.mem_cons, List.not_mem_nil, or_false] at hc
      rcases hc with rfl | rfl | rfl | rfl
      · rw [u8n _ (by omega)]; omega
      · rw [u8n _ (by omega)]; omega
      · rw [u8n _ (by omega)]; omega
      · rw [u8n _ (by omega)]; omega

theorem short_table (n : Nat) : (n = 34 ∧ shortN n = 34) ∨ (n = 92 ∧ shortN n = 92) ∨ (n = 8 ∧ shortN n = 98) ∨ (n = 9 ∧ shortN n = 116) ∨ (n = 10 ∧ shortN n = 110) ∨ (n = 12 ∧ shortN n = 102) ∨ (n = 13 ∧ shortN n = 114) ∨ (n ≠ 34 ∧ n ≠ 92 ∧ n ≠ 8 ∧ n ≠ 9 ∧ n ≠ 10 ∧ n ≠ 12 ∧ n ≠ 13 ∧ shortN n = 0) := by
  unfold shortN
  by_cases h1 : n = 34
  · subst h1; simp
  · by_cases h2 : n = 92
    · subst h2; simp
    · by_cases h3 : n = 8
      · subst h3; simp
      · by_cases h4 : n = 9
        · subst h4; simp
        · by_cases h5 : n = 10
          · subst h5; simp
          · by_cases h6 : n = 12
            · subst h6; simp
            · by_cases h7 : n = 13
              · subst h7; simp
              · simp [h1, h2, h3, h4, h5, h6, h7]

/-- A byte from 128 on is written as it is. -/
theorem pieceL_high (c : UInt8) (h : 128 ≤ c.toNat) : pieceL c = [c] := by
  unfold pieceL
  rcases short_table c.toNat with ⟨e, _⟩ | ⟨e, _⟩ | ⟨e, _⟩ | ⟨e, _⟩ | ⟨e, _⟩ | ⟨e, _⟩ | ⟨e, _⟩ | ⟨_, _, _, _, _, _, _, e⟩
  all_goals first
    | (exfalso; omega)
    | rw [if_neg (by rw [e]; simp), if_neg (by omega)]

theorem innerL_high : ∀ l : List UInt8, (∀ c ∈ l, 128 ≤ c.toNat) → innerL l = l
  | [], _ => rfl
  | c :: t, h => by
    show pieceL c ++ innerL t = c :: t
    rw [pieceL_high c (h c (List.mem_cons_self ..)), innerL_high t (fun x hx => h x (List.mem_cons_of_mem _ hx))]
    rfl

theorem valQ_sign (n : Nat) (h : n < 16) : valQ (signQ n) = some n := by
  unfold valQ signQ
  split
  · rw [if_pos (by omega)]
    congr 1
    omega
  · rw [if_neg (by omega), if_pos (by omega)]
    congr 1
    omega
theorem signQ_256 (n : Nat) (h : n < 16) : signQ n < 256 := by
  unfold signQ
  split <;> omega

theorem pieceQ_esc (c : UInt8) (t : List UInt8) (r n : Nat) (hc : c.toNat = 92) (h : escQ t = some (r, n)) : pieceQ (c :: t) = (0, putU r, n) := by
  show (if c.toNat < 32 then _ else if c.toNat = 92 then (match escQ t with | some (r, n) => (0, putU r, n) | none => (73, [], 0)) else _) = _
  rw [if_neg (by omega), if_pos hc, h]
theorem pieceQ_take (c : UInt8) (t : List UInt8) (r n : Nat) (h1 : ¬ c.toNat < 32) (h2 : c.toNat ≠ 92) (h : takeU (c :: t) = (r, n, true)) : pieceQ (c :: t) = (0, (c :: t).take n, n) := by
  show (if c.toNat < 32 then _ else if c.toNat = 92 then _ else if (takeU (c :: t)).2.2 = true then (0, (c :: t).take (takeU (c :: t)).2.1, (takeU (c :: t)).2.1) else (74, [], 0)) = _
  rw [if_neg h1, if_neg h2, h, if_pos rfl]

/-- A piece stands for no more bytes than it has. -/
theorem putU_le (r : Nat) : (r < 128 → (putU r).length = 1) ∧ (r < 65536 → (putU r).length ≤ 3) ∧ (putU r).length ≤ 4 := by
  refine ⟨fun h => ?_, fun h => ?_, (putU_len r).2⟩
  · unfold putU
    rw [if_pos h]
    rfl
  · unfold putU
    repeat' split
    all_goals first | simp | omega
theorem escQ_long (l : List UInt8) (r n : Nat) (h : escQ l = some (r, n)) : (putU r).length ≤ n := by
  obtain ⟨p1, p2, p3⟩ := putU_le r
  cases l with
  | nil => cases h
  | cons c t =>
    replace h : (match backN c.toNat with | some r => some (r, 2) | none => match numQ (c :: t) with | none => none | some n => if 56320 ≤ n ∧ n ≤ 57343 then none else if n < 55296 ∨ 57343 < n then some (n, 6) else (pairQ n (t.drop 4)).map fun r => (r, 12)) = some (r, n) := h
    cases hb : backN c.toNat with
    | some x =>
      rw [hb] at h
      simp only [Option.some.injEq, Prod.mk.injEq] at h
      obtain ⟨rfl, rfl⟩ := h
      have := p1 (backN_lt _ _ hb)
      omega
    | none =>
      rw [hb] at h
      simp only at h
      cases hn : numQ (c :: t) with
      | none => rw [hn] at h; cases h
      | some m =>
        rw [hn] at h
        simp only at h
        split at h
        · cases h
        · split at h
          · simp only [Option.some.injEq, Prod.mk.injEq] at h
            obtain ⟨_, rfl⟩ := h
            omega
          · rw [Option.map_eq_some_iff] at h
            obtain ⟨x, _, he⟩ := h
            simp only [Prod.mk.injEq] at he
            obtain ⟨_, rfl⟩ := he
            omega
theorem pieceQ_long (l : List UInt8) (h : (pieceQ l).1 = 0) : (pieceQ l).2.1.length ≤ (pieceQ l).2.2 := by
  cases l with
  | nil => cases h
  | cons c t =>
    have h0 : pieceQ (c :: t) = if c.toNat < 32 then (72, [], 0) else if c.toNat = 92 then (match escQ t with | some (r, n) => (0, putU r, n) | none => (73, [], 0)) else if (takeU (c :: t)).2.2 = true then (0, (c :: t).take (takeU (c :: t)).2.1, (takeU (c :: t)).2.1) else (74, [], 0) := rfl
    rw [h0] at h ⊢
    by_cases h1 : c.toNat < 32
    · rw [if_pos h1] at h; cases h
    · rw [if_neg h1] at h ⊢
      by_cases h2 : c.toNat = 92
      · rw [if_pos h2] at h ⊢
        cases he : escQ t with
        | none => rw [he] at h; cases h
        | some p =>
          obtain ⟨r, n⟩ := p
          exact escQ_long t r n he
      · rw [if_neg h2] at h ⊢
        by_cases h3 : (takeU (c :: t)).2.2 = true
        · rw [if_pos h3]
          exact List.length_take_le _ _
        · rw [if_neg h3] at h; cases h

/-- What a letter is written as is read as it. -/
theorem pieceQ_inner (r : Nat) (b : List UInt8) (hr : letter r) : pieceQ (innerL (putU r) ++ b) = (0, putU r, (innerL (putU r)).length) ∧ (innerL (putU r) ++ b).head? ≠ some 34 := by
  by_cases h : r < 128
  · have hp : putU r = [UInt8.ofNat r] := by unfold putU; rw [if_pos h]
    have hn : (UInt8.ofNat r).toNat = r := u8n r (by omega)
    have hi : innerL (putU r) = pieceL (UInt8.ofNat r) := by rw [hp]; simp [innerL]
    rw [hi]
    by_cases hs : shortN r ≠ 0
    · have hl : pieceL (UInt8.ofNat r) = [92, UInt8.ofNat (shortN r)] := by unfold pieceL; rw [hn, if_pos hs]
      rw [hl]
      refine ⟨?_, by simp⟩
      have hb : backN (UInt8.ofNat (shortN r)).toNat = some r := by
        rcases short_table r with ⟨rfl, e⟩ | ⟨rfl, e⟩ | ⟨rfl, e⟩ | ⟨rfl, e⟩ | ⟨rfl, e⟩ | ⟨rfl, e⟩ | ⟨rfl, e⟩ | ⟨_, _, _, _, _, _, _, e⟩
        all_goals first
          | exact absurd e hs
          | (rw [e]; rfl)
      refine pieceQ_esc 92 _ r 2 rfl ?_
      show (match backN (UInt8.ofNat (shortN r)).toNat with | some r => some (r, 2) | none => _) = _
      rw [hb]
    · have hs0 : ¬ shortN r ≠ 0 := hs
      by_cases h32 : r < 32
      · have hl : pieceL (UInt8.ofNat r) = [92, 117, 48, 48, UInt8.ofNat (signQ (r / 16)), UInt8.ofNat (signQ (r % 16))] := by unfold pieceL; rw [hn, if_neg hs0, if_pos h32]
        rw [hl]
        refine ⟨?_, by simp⟩
        refine pieceQ_esc 92 _ r 6 rfl ?_
        have hf : fourQ 48 48 (UInt8.ofNat (signQ (r / 16))).toNat (UInt8.ofNat (signQ (r % 16))).toNat = some r := by
          rw [u8n _ (signQ_256 _ (by omega)), u8n _ (signQ_256 _ (by omega))]
          unfold fourQ
          rw [valQ_sign _ (by omega), valQ_sign _ (by omega), show valQ 48 = some 0 from rfl]
          simp only
          congr 1
          omega
        have hq : numQ (117 :: 48 :: 48 :: UInt8.ofNat (signQ (r / 16)) :: UInt8.ofNat (signQ (r % 16)) :: b) = some r := by
          show (if (117 : UInt8).toNat = 117 then fourQ (48 : UInt8).toNat (48 : UInt8).toNat _ _ else none) = _
          rw [if_pos (by decide)]
          exact hf
        show (match backN (117 : UInt8).toNat with | some r => some (r, 2) | none => match numQ (117 :: 48 :: 48 :: UInt8.ofNat (signQ (r / 16)) :: UInt8.ofNat (signQ (r % 16)) :: b) with | none => none | some n => if 56320 ≤ n ∧ n ≤ 57343 then none else if n < 55296 ∨ 57343 < n then some (n, 6) else _) = _
        rw [show backN (117 : UInt8).toNat = none from rfl, hq]
        simp only
        rw [if_neg (by omega), if_pos (by omega)]
      · have hl : pieceL (UInt8.ofNat r) = [UInt8.ofNat r] := by unfold pieceL; rw [hn, if_neg hs0, if_neg h32]
        rw [hl]
        have h34 : r ≠ 34 := by intro e; subst e; exact hs (by decide)
        have h92 : r ≠ 92 := by intro e; subst e; exact hs (by decide)
        have ht := takeU_put r b hr
        rw [hp] at ht
        refine ⟨?_, ?_⟩
        · have := pieceQ_take (UInt8.ofNat r) b r 1 (by rw [hn]; exact h32) (by rw [hn]; exact h92) ht
          show pieceQ (UInt8.ofNat r :: b) = _
          rw [this, hp]
          rfl
        · show some (UInt8.ofNat r) ≠ some 34
          intro e
          have := congrArg UInt8.toNat (Option.some.inj e)
          rw [hn] at this
          exact h34 this
  · have hhi := putU_128 r (by omega) hr
    have hi : innerL (putU r) = putU r := innerL_high _ hhi
    rw [hi]
    have ht := takeU_put r b hr
    have hl := (putU_len r).1
    cases hp : putU r with
    | nil => rw [hp] at hl; simp at hl
    | cons c t =>
      rw [hp] at hhi ht
      have hc := hhi c (List.mem_cons_self ..)
      refine ⟨?_, ?_⟩
      · show pieceQ (c :: (t ++ b)) = _
        rw [pieceQ_take c (t ++ b) r _ (by omega) (by omega) ht]
        congr 1
        congr 1
        show (c :: t ++ b).take (c :: t).length = c :: t
        rw [List.take_left]
      · show some c ≠ some 34
        intro e
        have := congrArg UInt8.toNat (Option.some.inj e)
        have e34 : (34 : UInt8).toNat = 34 := rfl
        omega

theorem read_inner : ∀ (rs : List Nat) (b out : List UInt8) (k : Nat), letters rs → readR (innerL (textU rs) ++ 34 :: b) out k = (0, out ++ textU rs, k + (innerL (textU rs)).length + 1)
  | [], b, out, k, _ => by
    have : innerL (textU []) = [] := rfl
    rw [this, List.nil_append, readR_end _ _ _ rfl]
    simp [textU]
  | r :: t, b, out, k, h => by
    have hr := h r (List.mem_cons_self ..)
    have ht : letters t := fun x hx => h x (List.mem_cons_of_mem _ hx)
    have e : innerL (textU (r :: t)) ++ 34 :: b = innerL (putU r) ++ (innerL (textU t) ++ 34 :: b) := by rw [textU_cons, innerL_append, List.append_assoc]
    obtain ⟨h1, h2⟩ := pieceQ_inner r (innerL (textU t) ++ 34 :: b) hr
    rw [e, readR_step _ out k h2 (by rw [h1]), h1]
    simp only
    rw [List.drop_left, read_inner t b _ _ ht, textU_cons, innerL_append, List.length_append, List.append_assoc]
    congr 2
    omega

theorem read_quote (rs : List Nat) (b : List UInt8) (h : letters rs) : readQ (quoteL (textU rs) ++ b) = (0, textU rs, (quoteL (textU rs)).length) := by
  have e : quoteL (textU rs) ++ b = 34 :: (innerL (textU rs) ++ 34 :: b) := by unfold quoteL; simp
  rw [e]
  show (if some (34 : UInt8) = some 34 then readR (innerL (textU rs) ++ 34 :: b) [] 1 else _) = _
  rw [if_pos rfl, read_inner rs b [] 1 h, List.nil_append]
  congr 2
  unfold quoteL
  simp
  omega

/-- A text that is valid. -/
theorem read_valid (s b : List UInt8) (rs : List Nat) (h : runesU s = some rs) : readQ (quoteL s ++ b) = (0, s, (quoteL s).length) := by
  obtain ⟨h1, rfl⟩ := (runesU_iff s rs).1 h
  exact read_quote rs b h1

theorem readQ_cases (s : List UInt8) : (∃ e, e ≠ 0 ∧ readQ s = (e, [], 0)) ∨ (∃ rs n, letters rs ∧ rs.length ≤ s.length ∧ n ≤ s.length ∧ readQ s = (0, textU rs, n) ∧ ∀ b, readQ (s ++ b) = readQ s) := by
  unfold readQ
  by_cases h : s.head? = some 34
  · rw [if_pos h]
    cases s with
    | nil => cases h
    | cons c t =>
      rcases readR_cases t.length t [] 1 (Nat.le_refl _) with ⟨e, h1, h2⟩ | ⟨rs, n, h1, hq, h2, h3, h4⟩
      · exact .inl ⟨e, h1, h2⟩
      · refine .inr ⟨rs, n, h1, by rw [List.length_cons]; omega, by rw [List.length_cons]; omega, by simpa using h3, fun b => ?_⟩
        have hb : (c :: t ++ b).head? = some 34 := h
        rw [if_pos hb]
        exact h4 b
  · rw [if_neg h]
    exact .inl ⟨70, by decide, rfl⟩

/-- Of a beginning nothing is read. -/
theorem read_cut (s : List UInt8) (rs : List Nat) (h : runesU s = some rs) (cut : Nat) (hc : cut < (quoteL s).length) : ∃ e, e ≠ 0 ∧ readQ ((quoteL s).take cut) = (e, [], 0) := by
  rcases readQ_cases ((quoteL s).take cut) with h1 | ⟨qs, n, _, _, h2, h3, h4⟩
  · exact h1
  · exfalso
    have h5 := h4 ((quoteL s).drop cut)
    rw [List.take_append_drop] at h5
    have h6 := read_valid s [] rs h
    rw [List.append_nil, h5, h3] at h6
    have h7 : n = (quoteL s).length := (Prod.mk.inj (Prod.mk.inj h6).2).2
    rw [List.length_take] at h2
    omega

theorem quoteL_len (s : List UInt8) : 2 ≤ (quoteL s).length := by
  unfold quoteL
  simp
theorem quote_join (a b : List UInt8) : (quoteL a).take ((quoteL a).length - 1) ++ (quoteL b).drop 1 = quoteL (a ++ b) := by
  have e : quoteL a = (34 :: innerL a) ++ [34] := by unfold quoteL; simp
  have e2 : (quoteL a).take ((quoteL a).length - 1) = 34 :: innerL a := by
    rw [e, List.length_append, List.length_singleton, Nat.add_sub_cancel, List.take_left]
  rw [e2]
  unfold quoteL
  rw [innerL_append]
  simp

theorem quote_inj (a b : List UInt8) (ra rb : List Nat) (ha : runesU a = some ra) (hb : runesU b = some rb) (h : quoteL a = quoteL b) : a = b := by
  have h1 := read_valid a [] ra ha
  have h2 := read_valid b [] rb hb
  rw [h, h2] at h1
  exact (Prod.mk.inj (Prod.mk.inj h1).2).1.symm

theorem pieceL_32 (c : UInt8) : ∀ x ∈ pieceL c, 32 ≤ x.toNat := by
  intro x hx
  have hc := c.toNat_lt
  unfold pieceL at hx
  split at hx
  · rename_i hs
    simp only [List.mem_cons, List.not_mem_nil, or_false] at hx
    rcases hx with rfl | rfl
    · decide
    · rcases short_table c.toNat with ⟨_, e⟩ | ⟨_, e⟩ | ⟨_, e⟩ | ⟨_, e⟩ | ⟨_, e⟩ | ⟨_, e⟩ | ⟨_, e⟩ | ⟨_, _, _, _, _, _, _, e⟩
      all_goals first
        | exact absurd e hs
        | (rw [e]; decide)
  · split at hx
    · rename_i h32
      have s1 : 48 ≤ signQ (c.toNat / 16) := by unfold signQ; split <;> omega
      have s2 : 48 ≤ signQ (c.toNat % 16) := by unfold signQ; split <;> omega
      simp only [List.mem_cons, List.not_mem_nil, or_false] at hx
      rcases hx with rfl | rfl | rfl | rfl | rfl | rfl
      · decide
      · decide
      · decide
      · decide
      · rw [u8n _ (signQ_256 _ (by omega))]; omega
      · rw [u8n _ (signQ_256 _ (by omega))]; omega
    · rename_i h32
      simp only [List.mem_cons, List.not_mem_nil, or_false] at hx
      rw [hx]
      omega
theorem quoteL_32 (s : List UInt8) : ∀ x ∈ quoteL s, 32 ≤ x.toNat := by
  intro x hx
  unfold quoteL at hx
  rcases List.mem_cons.1 hx with rfl | hx
  · decide
  · rcases List.mem_append.1 hx with hx | hx
    · obtain ⟨c, _, hc⟩ := List.mem_flatMap.1 hx
      exact pieceL_32 c x hc
    · rw [List.mem_singleton.1 hx]
      decide
end Go.Proofs.YtmnigdcgdebgoaaDoor
namespace Go.Proofs.YtmnigdcgdebgoaaDoor
set_option linter.unusedVariables false

/-- An item of a row. -/
structure It where
  depth : Int
  kind : Int
  key : List UInt8
  text : List UInt8
  n : Int
deriving DecidableEq

mutual
/-- A value: null, false or true (1 to 3), a number, a text, or an array or object (o) with its members. -/
inductive J where
  | word (k : Nat)
  | num (n : Int)
  | str (t : List UInt8)
  | node (o : Bool) (m : Js)
/-- Members, each with its key (of an array: an empty one). -/
inductive Js where
  | nil
  | cons (key : List UInt8) (v : J) (m : Js)
end

def kindO (o : Bool) : Int := if o then 7 else 6

mutual
/-- The row of a value, of a depth, and with a key. -/
def J.rows (d : Nat) (key : List UInt8) : J → List It
  | .word k => [⟨d, k, key, [], 0⟩]
  | .num n => [⟨d, 4, key, [], n⟩]
  | .str t => [⟨d, 5, key, t, 0⟩]
  | .node o m => ⟨d, kindO o, key, [], 0⟩ :: Js.rows (d + 1) m
def Js.rows (d : Nat) : Js → List It
  | .nil => []
  | .cons k v m => J.rows d k v ++ Js.rows d m
end

def Js.keys : Js → List (List UInt8)
  | .nil => []
  | .cons k _ m => k :: Js.keys m

/-- Blanks. -/
def blankN (n : Nat) : Bool := n == 9 || n == 10 || n == 13 || n == 32
def skipL : List UInt8 → List UInt8
  | [] => []
  | c :: t => if blankN c.toNat then skipL t else c :: t

theorem skip_len (l : List UInt8) : (skipL l).length ≤ l.length := by
  induction l with
  | nil => exact Nat.le_refl _
  | cons c t ih =>
    unfold skipL
    split
    · simp; omega
    · exact Nat.le_refl _
theorem skip_app (a l : List UInt8) (h : ∀ c ∈ a, blankN c.toNat = true) : skipL (a ++ l) = skipL l := by
  induction a with
  | nil => rfl
  | cons c t ih =>
    show (if blankN c.toNat = true then skipL (t ++ l) else _) = _
    rw [if_pos (h c List.mem_cons_self)]
    exact ih fun x hx => h x (List.mem_cons_of_mem _ hx)
theorem skip_not (c : UInt8) (t : List UInt8) (h : blankN c.toNat = false) : skipL (c :: t) = c :: t := by
  show (if blankN c.toNat = true then skipL t else c :: t) = _
  rw [if_neg (by rw [h]; simp)]
theorem skip_two (l : List UInt8) : skipL (skipL l) = skipL l := by
  induction l with
  | nil => rfl
  | cons c t ih =>
    cases h : blankN c.toNat with
    | true =>
      have e : skipL (c :: t) = skipL t := by
        show (if blankN c.toNat = true then skipL t else _) = _
        rw [if_pos h]
      rw [e]
      exact ih
    | false => rw [skip_not c t h, skip_not c t h]

/-- Rows: each item is as deep as it may be. -/
theorem J.rows_head (d : Nat) (key : List UInt8) (j : J) : ∃ x t, j.rows d key = x :: t ∧ x.depth = d ∧ x.key = key := by
  cases j with
  | word k => exact ⟨_, _, rfl, rfl, rfl⟩
  | num n => exact ⟨_, _, rfl, rfl, rfl⟩
  | str t => exact ⟨_, _, rfl, rfl, rfl⟩
  | node o m => exact ⟨_, _, rfl, rfl, rfl⟩
mutual
theorem J.rows_deep (d : Nat) (key : List UInt8) : (j : J) → ∀ x ∈ j.rows d key, (d : Int) ≤ x.depth
  | .word k => by
    intro x hx
    rw [List.mem_singleton.1 hx]
    exact Int.le_refl _
  | .num n => by
    intro x hx
    rw [List.mem_singleton.1 hx]
    exact Int.le_refl _
  | .str t => by
    intro x hx
    rw [List.mem_singleton.1 hx]
    exact Int.le_refl _
  | .node o m => by
    intro x hx
    rcases List.mem_cons.1 hx with rfl | h
    · exact Int.le_refl _
    · have := Js.rows_deep (d + 1) m x h
      omega
theorem Js.rows_deep (d : Nat) : (m : Js) → ∀ x ∈ m.rows d, (d : Int) ≤ x.depth
  | .nil => by
    intro x hx
    cases hx
  | .cons k v m => by
    intro x hx
    rcases List.mem_append.1 hx with h | h
    · exact J.rows_deep d k v x h
    · exact Js.rows_deep d m x h
end
end Go.Proofs.YtmnigdcgdebgoaaDoor
namespace Go.Proofs.YtmnigdcgdebgoaaDoor
set_option linter.unusedVariables false

def wordL (k : Nat) : List UInt8 := if k = 1 then [110, 117, 108, 108] else if k = 2 then [102, 97, 108, 115, 101] else [116, 114, 117, 101]
def openO (o : Bool) : UInt8 := if o then 123 else 91
def shutO (o : Bool) : UInt8 := if o then 125 else 93

mutual
/-- The text of a value. -/
def J.text (P : Int → List UInt8) : J → List UInt8
  | .word k => wordL k
  | .num n => P n
  | .str t => quoteL t
  | .node o m => openO o :: (Js.text P o true m ++ [shutO o])
/-- The text of members. -/
def Js.text (P : Int → List UInt8) (o first : Bool) : Js → List UInt8
  | .nil => []
  | .cons k v m => (if first then [] else [44]) ++ ((if o then quoteL k ++ [58] else []) ++ (J.text P v ++ Js.text P o false m))
end

/-- The bytes that a number may have. -/
def numC (c : UInt8) : Bool := (decide (48 ≤ c.toNat) && decide (c.toNat ≤ 57)) || c.toNat == 43 || c.toNat == 45 || c.toNat == 46 || c.toNat == 69 || c.toNat == 101
/-- The bytes with which a number begins. -/
def numH (c : UInt8) : Bool := c.toNat == 45 || (decide (48 ≤ c.toNat) && decide (c.toNat ≤ 57))

/-- An answer: an error, or 0; what was read; the rest. -/
def okThen {α : Type} (p : Nat × α × List UInt8) (f : α → List UInt8 → Nat × List It × List UInt8) : Nat × List It × List UInt8 := if p.1 = 0 then f p.2.1 p.2.2 else (p.1, [], [])

/-- null, false or true. -/
def wordF (d : Nat) (key l : List UInt8) : Nat × List It × List UInt8 :=
  if (wordL 1).isPrefixOf l then (0, [⟨d, 1, key, [], 0⟩], l.drop 4) else if (wordL 2).isPrefixOf l then (0, [⟨d, 2, key, [], 0⟩], l.drop 5) else if (wordL 3).isPrefixOf l then (0, [⟨d, 3, key, [], 0⟩], l.drop 4) else (80, [], [])

/-- A text in quotes. -/
def quotF (l : List UInt8) : Nat × List UInt8 × List UInt8 := ((readQ l).1, (readQ l).2.1, l.drop (readQ l).2.2)

/-- A key, and the : behind it. -/
def keyF (keys : List (List UInt8)) (l : List UInt8) : Nat × List UInt8 × List UInt8 :=
  if (skipL l).head? = some 34 then
    if (quotF (skipL l)).1 = 0 then
      if keys.contains (quotF (skipL l)).2.1 then (82, [], [])
      else if (skipL (quotF (skipL l)).2.2).head? = some 58 then (0, (quotF (skipL l)).2.1, (skipL (quotF (skipL l)).2.2).tail) else (80, [], [])
    else ((quotF (skipL l)).1, [], [])
  else (80, [], [])

mutual
/-- A value, of a depth, and with a key. -/
def valueF (R : List UInt8 → Option Int) : Nat → Nat → List UInt8 → List UInt8 → Nat × List It × List UInt8
  | 0, _, _, _ => (80, [], [])
  | f + 1, d, key, l => match skipL l with
    | [] => (80, [], [])
    | c :: t =>
      if c.toNat = 91 ∨ c.toNat = 123 then
        if 64 ≤ d then (81, [], [])
        else if (skipL t).head? = some (shutO (c.toNat == 123)) then (0, [⟨d, kindO (c.toNat == 123), key, [], 0⟩], (skipL t).tail)
        else okThen (listF R f (d + 1) (c.toNat == 123) [] t) fun m r => (0, ⟨d, kindO (c.toNat == 123), key, [], 0⟩ :: m, r)
      else if c.toNat = 34 then okThen (quotF (c :: t)) fun u r => (0, [⟨d, 5, key, u, 0⟩], r)
      else if numH c then (match R ((c :: t).takeWhile numC) with | some n => (0, [⟨d, 4, key, [], n⟩], (c :: t).dropWhile numC) | none => (83, [], []))
      else wordF d key (c :: t)
/-- Members, up to the closing sign. -/
def listF (R : List UInt8 → Option Int) : Nat → Nat → Bool → List (List UInt8) → List UInt8 → Nat × List It × List UInt8
  | 0, _, _, _, _ => (80, [], [])
  | f + 1, d, o, keys, l => okThen (if o then keyF keys l else (0, [], l)) fun k r => okThen (valueF R f d k r) fun v r2 =>
      match skipL r2 with
      | [] => (80, [], [])
      | c :: r3 => if c = shutO o then (0, v, r3) else if c.toNat = 44 then okThen (listF R f d o (keys ++ [k]) r3) fun m r4 => (0, v ++ m, r4) else (80, [], [])
end

/-- What Parse tells: an error, or 0, and the row. -/
def parseL (R : List UInt8 → Option Int) (l : List UInt8) : Nat × List It :=
  if (valueF R (2 * l.length + 2) 0 [] l).1 = 0 then (if skipL (valueF R (2 * l.length + 2) 0 [] l).2.2 = [] then (0, (valueF R (2 * l.length + 2) 0 [] l).2.1) else (80, [])) else ((valueF R (2 * l.length + 2) 0 [] l).1, [])

theorem value_nil (R : List UInt8 → Option Int) (f d : Nat) (key l : List UInt8) (h : skipL l = []) : valueF R (f + 1) d key l = (80, [], []) := by
  rw [valueF, h]
theorem value_cons (R : List UInt8 → Option Int) (f d : Nat) (key l : List UInt8) (c : UInt8) (t : List UInt8) (h : skipL l = c :: t) : valueF R (f + 1) d key l =
      if c.toNat = 91 ∨ c.toNat = 123 then
        if 64 ≤ d then (81, [], [])
        else if (skipL t).head? = some (shutO (c.toNat == 123)) then (0, [⟨d, kindO (c.toNat == 123), key, [], 0⟩], (skipL t).tail)
        else okThen (listF R f (d + 1) (c.toNat == 123) [] t) fun m r => (0, ⟨d, kindO (c.toNat == 123), key, [], 0⟩ :: m, r)
      else if c.toNat = 34 then okThen (quotF (c :: t)) fun u r => (0, [⟨d, 5, key, u, 0⟩], r)
      else if numH c then (match R ((c :: t).takeWhile numC) with | some n => (0, [⟨d, 4, key, [], n⟩], (c :: t).dropWhile numC) | none => (83, [], []))
      else wordF d key (c :: t) := by
  rw [valueF, h]

/-- Blanks ahead change nothing. -/
theorem value_skip (R : List UInt8 → Option Int) (f d : Nat) (key l : List UInt8) : valueF R f d key (skipL l) = valueF R f d key l := by
  cases f with
  | zero => rw [valueF, valueF]
  | succ f => rw [valueF, valueF, skip_two]
end Go.Proofs.YtmnigdcgdebgoaaDoor
namespace Go.Proofs.YtmnigdcgdebgoaaDoor
set_option linter.unusedVariables false

def validL (l : List UInt8) : Prop := ∃ rs, runesU l = some rs

mutual
/-- A tree that is a value's, at a depth. -/
def J.good (d : Nat) : J → Prop
  | .word k => 1 ≤ k ∧ k ≤ 3
  | .num n => -9223372036854775808 ≤ n ∧ n ≤ 9223372036854775807
  | .str t => validL t
  | .node o m => d < 64 ∧ (o = true → m.keys.Nodup) ∧ Js.good (d + 1) o m
def Js.good (d : Nat) (o : Bool) : Js → Prop
  | .nil => True
  | .cons k v m => (o = true → validL k) ∧ (o = false → k = []) ∧ J.good d v ∧ Js.good d o m
end

mutual
def J.size : J → Nat
  | .word _ => 1
  | .num _ => 1
  | .str _ => 1
  | .node _ m => 1 + Js.size m
def Js.size : Js → Nat
  | .nil => 0
  | .cons _ v m => 1 + (J.size v + Js.size m)
end

/-- What is asked of dec's Print and Read. -/
structure NumFair (P : Int → List UInt8) (R : List UInt8 → Option Int) : Prop where
  back : ∀ n, -9223372036854775808 ≤ n → n ≤ 9223372036854775807 → R (P n) = some n
  bytes : ∀ n, -9223372036854775808 ≤ n → n ≤ 9223372036854775807 → ∃ c t, P n = c :: t ∧ numH c = true ∧ ∀ x ∈ P n, numC x = true

/-- What may stand behind a number. -/
def Stop (b : List UInt8) : Prop := ∀ c t, b = c :: t → numC c = false

theorem numH_nat {c : UInt8} (h : numH c = true) : c.toNat = 45 ∨ (48 ≤ c.toNat ∧ c.toNat ≤ 57) := by
  unfold numH at h
  simpa using h

theorem span_num (a b : List UInt8) (ha : ∀ x ∈ a, numC x = true) (hb : Stop b) : (a ++ b).takeWhile numC = a ∧ (a ++ b).dropWhile numC = b := by
  induction a with
  | nil =>
    cases b with
    | nil => exact ⟨rfl, rfl⟩
    | cons c t => simp [hb c t rfl]
  | cons c t ih =>
    obtain ⟨h1, h2⟩ := ih fun x hx => ha x (List.mem_cons_of_mem _ hx)
    have hc := ha c List.mem_cons_self
    simp [hc, h1, h2]

theorem quot_back (t b : List UInt8) (h : validL t) : quotF (quoteL t ++ b) = (0, t, b) := by
  obtain ⟨rs, hr⟩ := h
  unfold quotF
  rw [read_valid t b rs hr, List.drop_left]

theorem okThen_ok {α : Type} (a : α) (r : List UInt8) (f : α → List UInt8 → Nat × List It × List UInt8) : okThen (0, a, r) f = f a r := rfl

theorem shut_nat (o : Bool) : (shutO o).toNat = 125 ∨ (shutO o).toNat = 93 := by cases o <;> decide
theorem shut_stop (o : Bool) (b : List UInt8) : Stop (shutO o :: b) := by
  intro c t e
  cases e
  cases o <;> decide
theorem shut_skip (o : Bool) (b : List UInt8) : skipL (shutO o :: b) = shutO o :: b := skip_not _ _ (by cases o <;> decide)
theorem comma_stop (b : List UInt8) : Stop (44 :: b) := by
  intro c t e
  cases e
  decide

theorem key_back (keys : List (List UInt8)) (k b : List UInt8) (hv : validL k) (hk : k ∉ keys) : keyF keys (quoteL k ++ 58 :: b) = (0, k, b) := by
  have e1 : skipL (quoteL k ++ 58 :: b) = quoteL k ++ 58 :: b := skip_not 34 _ (by decide)
  have e2 : skipL (58 :: b) = 58 :: b := skip_not _ _ (by decide)
  have hc : keys.contains k = false := by simpa using hk
  unfold keyF
  rw [e1, quot_back k _ hv]
  simp only [e2, hc]
  rfl

theorem word_back (d : Nat) (key : List UInt8) (k : Nat) (b : List UInt8) (h1 : 1 ≤ k) (h3 : k ≤ 3) : wordF d key (wordL k ++ b) = (0, [⟨d, k, key, [], 0⟩], b) := by
  have : k = 1 ∨ k = 2 ∨ k = 3 := by omega
  rcases this with rfl | rfl | rfl <;> simp [wordF, wordL, List.isPrefixOf]

/-- What a text begins with. -/
theorem J.text_head {P : Int → List UInt8} {R : List UInt8 → Option Int} (H : NumFair P R) (d : Nat) (j : J) (h : j.good d) : ∃ c t, j.text P = c :: t ∧ blankN c.toNat = false ∧ c.toNat ≠ 93 ∧ c.toNat ≠ 125 := by
  cases j with
  | word k =>
    have h : 1 ≤ k ∧ k ≤ 3 := by simpa [J.good] using h
    have : k = 1 ∨ k = 2 ∨ k = 3 := by omega
    rcases this with rfl | rfl | rfl
    all_goals exact ⟨_, _, by rw [J.text]; rfl, by decide, by decide, by decide⟩
  | num n =>
    rw [J.good] at h
    obtain ⟨c, t, e, hn, _⟩ := H.bytes n h.1 h.2
    have hc := numH_nat hn
    refine ⟨c, t, by rw [J.text]; exact e, ?_, by omega, by omega⟩
    unfold blankN
    simp
    omega
  | str t => exact ⟨34, _, by rw [J.text]; rfl, by decide, by decide, by decide⟩
  | node o m => exact ⟨openO o, _, by rw [J.text], by cases o <;> decide, by cases o <;> decide, by cases o <;> decide⟩

theorem Js.text_next (P : Int → List UInt8) (o : Bool) (k : List UInt8) (v : J) (m : Js) : Js.text P o false (.cons k v m) = 44 :: Js.text P o true (.cons k v m) := by
  rw [Js.text, Js.text]
  rfl

mutual
theorem J.back {P : Int → List UInt8} {R : List UInt8 → Option Int} (H : NumFair P R) : (j : J) → ∀ (f d : Nat) (key b : List UInt8), j.size ≤ f → j.good d → Stop b → valueF R f d key (j.text P ++ b) = (0, j.rows d key, b)
  | .word k => by
    intro f d key b hf hg hb
    obtain ⟨f, rfl⟩ : ∃ g, f = g + 1 := ⟨f - 1, by rw [J.size] at hf; omega⟩
    rw [J.good] at hg
    rw [J.text, J.rows]
    have hw := word_back d key k b hg.1 hg.2
    have : k = 1 ∨ k = 2 ∨ k = 3 := by omega
    rcases this with rfl | rfl | rfl
    · have e : wordL 1 ++ b = 110 :: ([117, 108, 108] ++ b) := by simp [wordL]
      rw [e] at hw ⊢
      rw [value_cons R f d key _ 110 _ (skip_not 110 ([117, 108, 108] ++ b) (by decide)), if_neg (by decide), if_neg (by decide), if_neg (by decide)]
      exact hw
    · have e : wordL 2 ++ b = 102 :: ([97, 108, 115, 101] ++ b) := by simp [wordL]
      rw [e] at hw ⊢
      rw [value_cons R f d key _ 102 _ (skip_not 102 ([97, 108, 115, 101] ++ b) (by decide)), if_neg (by decide), if_neg (by decide), if_neg (by decide)]
      exact hw
    · have e : wordL 3 ++ b = 116 :: ([114, 117, 101] ++ b) := by simp [wordL]
      rw [e] at hw ⊢
      rw [value_cons R f d key _ 116 _ (skip_not 116 ([114, 117, 101] ++ b) (by decide)), if_neg (by decide), if_neg (by decide), if_neg (by decide)]
      exact hw
  | .num n => by
    intro f d key b hf hg hb
    obtain ⟨f, rfl⟩ : ∃ g, f = g + 1 := ⟨f - 1, by rw [J.size] at hf; omega⟩
    rw [J.good] at hg
    rw [J.text, J.rows]
    obtain ⟨c, t, e, hn, ha⟩ := H.bytes n hg.1 hg.2
    obtain ⟨s1, s2⟩ := span_num (P n) b ha hb
    have hc := numH_nat hn
    rw [e] at s1 s2 ⊢
    rw [List.cons_append] at s1 s2 ⊢
    have hbl : blankN c.toNat = false := by
      unfold blankN
      simp
      omega
    rw [value_cons R f d key _ c (t ++ b) (skip_not _ _ hbl), if_neg (by omega), if_neg (by omega), if_pos hn, s1, s2, ← e, H.back n hg.1 hg.2]
  | .str t => by
    intro f d key b hf hg hb
    obtain ⟨f, rfl⟩ : ∃ g, f = g + 1 := ⟨f - 1, by rw [J.size] at hf; omega⟩
    rw [J.good] at hg
    rw [J.text, J.rows]
    have hq := quot_back t b hg
    rw [value_cons R f d key (quoteL t ++ b) 34 _ (skip_not _ _ (by decide)), if_neg (by decide), if_pos (by decide)]
    show okThen (quotF (quoteL t ++ b)) _ = _
    rw [hq, okThen_ok]
  | .node o m => by
    intro f d key b hf hg hb
    obtain ⟨f, rfl⟩ : ∃ g, f = g + 1 := ⟨f - 1, by rw [J.size] at hf; omega⟩
    rw [J.size] at hf
    rw [J.good] at hg
    rw [J.text, J.rows, List.cons_append, List.append_assoc]
    have ho : ((openO o).toNat == 123) = o := by cases o <;> decide
    have hr : (openO o).toNat = 91 ∨ (openO o).toNat = 123 := by cases o <;> decide
    rw [value_cons R f d key _ (openO o) _ (skip_not _ _ (by cases o <;> decide)), if_pos hr, if_neg (by omega), ho]
    cases m with
    | nil =>
      have e : Js.text P o true .nil ++ ([shutO o] ++ b) = shutO o :: b := by rw [Js.text]; rfl
      rw [e, shut_skip, if_pos (show (shutO o :: b).head? = some (shutO o) from rfl), Js.rows]
      rfl
    | cons k v m =>
      have hl := Js.back H (.cons k v m) f (d + 1) o [] b (by omega) (by intro h; cases h) hg.2.2 (by intro h; simpa using hg.2.1 h)
      have hh : (skipL (Js.text P o true (.cons k v m) ++ ([shutO o] ++ b))).head? ≠ some (shutO o) := by
        rw [Js.text]
        cases o with
        | true =>
          have e : skipL ((if true = true then [] else [44]) ++ ((if true = true then quoteL k ++ [58] else []) ++ (J.text P v ++ Js.text P true false m)) ++ ([shutO true] ++ b)) = 34 :: (innerL k ++ [34] ++ [58] ++ (J.text P v ++ Js.text P true false m) ++ ([shutO true] ++ b)) := skip_not 34 _ (by decide)
          rw [e]
          show some (34 : UInt8) ≠ some (shutO true)
          decide
        | false =>
          have hv := hg.2.2
          rw [Js.good] at hv
          obtain ⟨c, t, e, h1, h2, h3⟩ := J.text_head H (d + 1) v hv.2.2.1
          rw [e]
          have e' : skipL ((if true = true then [] else [44]) ++ ((if false = true then quoteL k ++ [58] else []) ++ (c :: t ++ Js.text P false false m)) ++ ([shutO false] ++ b)) = c :: (t ++ Js.text P false false m ++ ([shutO false] ++ b)) := skip_not c _ h1
          rw [e']
          intro h
          have := Option.some.inj h
          rw [this] at h2
          exact h2 (by decide)
      rw [if_neg hh]
      show okThen (listF R f (d + 1) o [] (Js.text P o true (.cons k v m) ++ shutO o :: b)) _ = _
      rw [hl, okThen_ok]
theorem Js.back {P : Int → List UInt8} {R : List UInt8 → Option Int} (H : NumFair P R) : (m : Js) → ∀ (f d : Nat) (o : Bool) (keys : List (List UInt8)) (b : List UInt8), m.size ≤ f → m ≠ .nil → m.good d o → (o = true → (keys ++ m.keys).Nodup) → listF R f d o keys (m.text P o true ++ shutO o :: b) = (0, m.rows d, b)
  | .nil => by
    intro f d o keys b _ h
    exact absurd rfl h
  | .cons k v m => by
    intro f d o keys b hf _ hg hn
    obtain ⟨f, rfl⟩ : ∃ g, f = g + 1 := ⟨f - 1, by rw [Js.size] at hf; omega⟩
    rw [Js.size] at hf
    rw [Js.good] at hg
    obtain ⟨g1, g2, g3, g4⟩ := hg
    have hst : Stop (Js.text P o false m ++ shutO o :: b) := by
      cases m with
      | nil => rw [Js.text]; exact shut_stop o b
      | cons k2 v2 m2 => rw [Js.text_next]; exact comma_stop _
    have hv := J.back H v f d k (Js.text P o false m ++ shutO o :: b) (by omega) g3 hst
    have hkey : (if o = true then keyF keys (Js.text P o true (.cons k v m) ++ shutO o :: b) else (0, [], Js.text P o true (.cons k v m) ++ shutO o :: b)) = (0, k, J.text P v ++ (Js.text P o false m ++ shutO o :: b)) := by
      rw [Js.text]
      cases o with
      | true =>
        have hk : k ∉ keys := by
          have := hn rfl
          rw [Js.keys, List.nodup_append] at this
          intro hm
          exact this.2.2 k hm k List.mem_cons_self rfl
        have e : (if true = true then [] else [44]) ++ ((if true = true then quoteL k ++ [58] else []) ++ (J.text P v ++ Js.text P true false m)) ++ shutO true :: b = quoteL k ++ 58 :: (J.text P v ++ (Js.text P true false m ++ shutO true :: b)) := by simp
        rw [if_pos rfl, e, key_back keys k _ (g1 rfl) hk]
      | false =>
        rw [g2 rfl]
        simp
    rw [listF, hkey, okThen_ok, hv, okThen_ok]
    cases m with
    | nil =>
      have e : Js.text P o false .nil ++ shutO o :: b = shutO o :: b := by rw [Js.text]; rfl
      rw [e, shut_skip, Js.rows, Js.rows, List.append_nil]
      simp
    | cons k2 v2 m2 =>
      have hm := Js.back H (.cons k2 v2 m2) f d o (keys ++ [k]) b (by omega) (by intro h; cases h) g4 (by
        intro ho
        have := hn ho
        rw [Js.keys] at this
        simpa using this)
      have e : skipL (Js.text P o false (.cons k2 v2 m2) ++ shutO o :: b) = 44 :: (Js.text P o true (.cons k2 v2 m2) ++ shutO o :: b) := by
        rw [Js.text_next]
        exact skip_not _ _ (by decide)
      rw [e]
      show (if (44 : UInt8) = shutO o then _ else if (44 : UInt8).toNat = 44 then _ else _) = _
      rw [if_neg (by cases o <;> decide), if_pos (by decide), hm, okThen_ok]
      conv => rhs; rw [Js.rows]
end
end Go.Proofs.YtmnigdcgdebgoaaDoor
namespace Go.Proofs.YtmnigdcgdebgoaaDoor
set_option linter.unusedVariables false

theorem okThen_yes {α : Type} {p : Nat × α × List UInt8} {f : α → List UInt8 → Nat × List It × List UInt8} {l : List It} {r : List UInt8} (h : okThen p f = (0, l, r)) : p.1 = 0 ∧ f p.2.1 p.2.2 = (0, l, r) := by
  unfold okThen at h
  split at h
  · exact ⟨by assumption, h⟩
  · rename_i hp
    exact absurd (congrArg Prod.fst h) hp

theorem quot_valid (l : List UInt8) (h : (quotF l).1 = 0) : validL (quotF l).2.1 := by
  have h' : (readQ l).1 = 0 := h
  rcases readQ_cases l with ⟨e, he, hr⟩ | ⟨rs, n, hl, _, _, hr, _⟩
  · rw [hr] at h'
    exact absurd h' he
  · refine ⟨rs, ?_⟩
    show runesU (readQ l).2.1 = some rs
    rw [hr]
    exact (runesU_iff _ _).2 ⟨hl, rfl⟩

theorem key_yes (keys : List (List UInt8)) (l : List UInt8) (h : (keyF keys l).1 = 0) : validL (keyF keys l).2.1 ∧ (keyF keys l).2.1 ∉ keys := by
  unfold keyF at h ⊢
  by_cases h1 : (skipL l).head? = some 34
  · rw [if_pos h1] at h ⊢
    by_cases h2 : (quotF (skipL l)).1 = 0
    · rw [if_pos h2] at h ⊢
      by_cases h3 : keys.contains (quotF (skipL l)).2.1 = true
      · rw [if_pos h3] at h
        cases h
      · rw [if_neg h3] at h ⊢
        by_cases h4 : (skipL (quotF (skipL l)).2.2).head? = some 58
        · rw [if_pos h4]
          exact ⟨quot_valid _ h2, by simpa using h3⟩
        · rw [if_neg h4] at h
          cases h
    · rw [if_neg h2] at h
      exact absurd h h2
  · rw [if_neg h1] at h
    cases h

theorem word_yes (d : Nat) (key l : List UInt8) (x : List It) (r : List UInt8) (h : wordF d key l = (0, x, r)) : ∃ k : Nat, 1 ≤ k ∧ k ≤ 3 ∧ x = [⟨d, k, key, [], 0⟩] := by
  unfold wordF at h
  split at h
  · cases h; exact ⟨1, by omega, by omega, rfl⟩
  · split at h
    · cases h; exact ⟨2, by omega, by omega, rfl⟩
    · split at h
      · cases h; exact ⟨3, by omega, by omega, rfl⟩
      · cases h

/-- Numbers that are read are ints. -/
def NumInt (R : List UInt8 → Option Int) : Prop := ∀ l n, R l = some n → -9223372036854775808 ≤ n ∧ n ≤ 9223372036854775807

theorem parse_tree {R : List UInt8 → Option Int} (H : NumInt R) : ∀ f : Nat,
    (∀ d key l x r, valueF R f d key l = (0, x, r) → ∃ j : J, j.good d ∧ x = j.rows d key) ∧
    (∀ d o keys l x r, (o = true → keys.Nodup) → listF R f d o keys l = (0, x, r) → ∃ m : Js, m.good d o ∧ x = m.rows d ∧ (o = true → (keys ++ m.keys).Nodup)) := by
  intro f
  induction f with
  | zero =>
    refine ⟨fun d key l x r h => ?_, fun d o keys l x r _ h => ?_⟩
    · rw [valueF] at h
      cases h
    · rw [listF] at h
      cases h
  | succ f ih =>
    refine ⟨fun d key l x r h => ?_, fun d o keys l x r hn h => ?_⟩
    · cases hs : skipL l with
      | nil =>
        rw [value_nil R f d key l hs] at h
        cases h
      | cons c t =>
        rw [value_cons R f d key l c t hs] at h
        split at h
        · split at h
          · cases h
          · split at h
            · cases h
              refine ⟨.node (c.toNat == 123) .nil, ?_, ?_⟩
              · rw [J.good]
                exact ⟨by omega, fun _ => by rw [Js.keys]; exact List.nodup_nil, by rw [Js.good]; trivial⟩
              · rw [J.rows, Js.rows]
            · obtain ⟨h1, h2⟩ := okThen_yes h
              obtain ⟨m, g1, g2, g3⟩ := ih.2 (d + 1) (c.toNat == 123) [] t _ _ (fun _ => List.nodup_nil) (Prod.ext h1 rfl)
              cases h2
              refine ⟨.node (c.toNat == 123) m, ?_, ?_⟩
              · rw [J.good]
                exact ⟨by omega, fun ho => by simpa using g3 ho, g1⟩
              · rw [J.rows, g2]
        · split at h
          · obtain ⟨h1, h2⟩ := okThen_yes h
            cases h2
            refine ⟨.str (quotF (c :: t)).2.1, ?_, ?_⟩
            · rw [J.good]
              exact quot_valid _ h1
            · rw [J.rows]
          · split at h
            · cases hR : R ((c :: t).takeWhile numC) with
              | none =>
                rw [hR] at h
                cases h
              | some n =>
                rw [hR] at h
                cases h
                refine ⟨.num n, ?_, ?_⟩
                · rw [J.good]
                  exact H _ _ hR
                · rw [J.rows]
            · obtain ⟨k, k1, k3, rfl⟩ := word_yes d key _ x r h
              refine ⟨.word k, ?_, ?_⟩
              · rw [J.good]
                exact ⟨k1, k3⟩
              · rw [J.rows]
    · rw [listF] at h
      obtain ⟨h1, h2⟩ := okThen_yes h
      obtain ⟨k, b, hk⟩ : ∃ k b, (if o = true then keyF keys l else (0, [], l)) = (0, k, b) := ⟨_, _, Prod.ext h1 rfl⟩
      rw [hk] at h2
      have hkey : (o = true → validL k ∧ k ∉ keys) ∧ (o = false → k = []) := by
        refine ⟨fun ho => ?_, fun ho => ?_⟩
        · rw [if_pos ho] at hk
          have := key_yes keys l (by rw [hk])
          rw [hk] at this
          exact this
        · rw [if_neg (by rw [ho]; decide)] at hk
          cases hk
          rfl
      obtain ⟨h3, h4⟩ := okThen_yes h2
      obtain ⟨v, v1, v2⟩ := ih.1 d k b _ _ (Prod.ext h3 rfl)
      cases hs : skipL (valueF R f d k b).2.2 with
      | nil =>
        simp only [hs] at h4
        cases h4
      | cons c r3 =>
        simp only [hs] at h4
        split at h4
        · cases h4
          refine ⟨.cons k v .nil, ?_, ?_, fun ho => ?_⟩
          · rw [Js.good]
            exact ⟨fun ho => (hkey.1 ho).1, hkey.2, v1, by rw [Js.good]; trivial⟩
          · rw [Js.rows, Js.rows, List.append_nil, v2]
          · rw [Js.keys, Js.keys, List.nodup_append]
            exact ⟨hn ho, by simp, fun a ha b hb => by rw [List.mem_singleton.1 hb]; exact fun e => (hkey.1 ho).2 (e ▸ ha)⟩
        · split at h4
          · obtain ⟨h5, h6⟩ := okThen_yes h4
            have hn2 : o = true → (keys ++ [k]).Nodup := by
              intro ho
              rw [List.nodup_append]
              exact ⟨hn ho, by simp, fun a ha b hb => by rw [List.mem_singleton.1 hb]; exact fun e => (hkey.1 ho).2 (e ▸ ha)⟩
            obtain ⟨m, m1, m2, m3⟩ := ih.2 d o (keys ++ [k]) r3 _ _ hn2 (Prod.ext h5 rfl)
            cases h6
            refine ⟨.cons k v m, ?_, ?_, fun ho => ?_⟩
            · rw [Js.good]
              exact ⟨fun ho => (hkey.1 ho).1, hkey.2, v1, m1⟩
            · rw [Js.rows, v2, m2]
            · rw [Js.keys]
              simpa using m3 ho
          · cases h4
end Go.Proofs.YtmnigdcgdebgoaaDoor
namespace Go.Proofs.YtmnigdcgdebgoaaDoor
set_option linter.unusedVariables false

/-- A member: its key, and its value. -/
def memF (R : List UInt8 → Option Int) (f d : Nat) (o : Bool) (keys : List (List UInt8)) (l : List UInt8) : Nat × List UInt8 × List It × List UInt8 :=
  if (if o then keyF keys l else (0, [], l)).1 = 0 then
    ((valueF R f d (if o then keyF keys l else (0, [], l)).2.1 (if o then keyF keys l else (0, [], l)).2.2).1, (if o then keyF keys l else (0, [], l)).2.1,
     (valueF R f d (if o then keyF keys l else (0, [], l)).2.1 (if o then keyF keys l else (0, [], l)).2.2).2.1, (valueF R f d (if o then keyF keys l else (0, [], l)).2.1 (if o then keyF keys l else (0, [], l)).2.2).2.2)
  else ((if o then keyF keys l else (0, [], l)).1, [], [], [])

theorem mem_arr (R : List UInt8 → Option Int) (f d : Nat) (keys : List (List UInt8)) (l : List UInt8) : memF R f d false keys l = ((valueF R f d [] l).1, [], (valueF R f d [] l).2.1, (valueF R f d [] l).2.2) := rfl
theorem mem_obj_no (R : List UInt8 → Option Int) (f d : Nat) (keys : List (List UInt8)) (l : List UInt8) (h : (keyF keys l).1 ≠ 0) : memF R f d true keys l = ((keyF keys l).1, [], [], []) := by
  unfold memF
  rw [if_pos rfl, if_neg h]
theorem mem_obj (R : List UInt8 → Option Int) (f d : Nat) (keys : List (List UInt8)) (l k r : List UInt8) (h : keyF keys l = (0, k, r)) : memF R f d true keys l = ((valueF R f d k r).1, k, (valueF R f d k r).2.1, (valueF R f d k r).2.2) := by
  unfold memF
  rw [if_pos rfl, h]
  rfl

/-- Members, by the first one. -/
theorem list_mem (R : List UInt8 → Option Int) (f d : Nat) (o : Bool) (keys : List (List UInt8)) (l : List UInt8) : listF R (f + 1) d o keys l =
    if (memF R f d o keys l).1 = 0 then
      (match skipL (memF R f d o keys l).2.2.2 with
       | [] => (80, [], [])
       | c :: r3 => if c = shutO o then (0, (memF R f d o keys l).2.2.1, r3) else if c.toNat = 44 then okThen (listF R f d o (keys ++ [(memF R f d o keys l).2.1]) r3) fun m r4 => (0, (memF R f d o keys l).2.2.1 ++ m, r4) else (80, [], []))
    else ((memF R f d o keys l).1, [], []) := by
  rw [listF]
  unfold memF
  generalize (if o = true then keyF keys l else (0, [], l)) = p
  unfold okThen
  by_cases h : p.1 = 0
  · rw [if_pos h, if_pos h]
    try rfl
  · rw [if_neg h, if_neg h]
    simp only
    rw [if_neg h]

theorem readF_pos : ∀ (f : Nat) (l out : List UInt8) (k : Nat) (u : List UInt8) (n : Nat), readF f l out k = (0, u, n) → k + 1 ≤ n
  | 0, l, out, k, u, n, h => by
    rw [readF] at h
    cases h
  | f + 1, l, out, k, u, n, h => by
    rw [readF] at h
    split at h
    · cases h
      exact Nat.le_refl _
    · split at h
      · have := readF_pos f _ _ _ u n h
        omega
      · rename_i hp
        exact absurd (congrArg Prod.fst h) hp
theorem readQ_pos (l u : List UInt8) (n : Nat) (h : readQ l = (0, u, n)) : 1 ≤ n := by
  unfold readQ at h
  split at h
  · have := readF_pos _ _ _ _ u n h
    omega
  · cases h

theorem quot_len (l : List UInt8) (h0 : (quotF l).1 = 0) : (quotF l).2.2.length + 1 ≤ l.length := by
  have h' : (readQ l).1 = 0 := h0
  show (l.drop (readQ l).2.2).length + 1 ≤ l.length
  rw [List.length_drop]
  rcases readQ_cases l with ⟨e, he, hr⟩ | ⟨rs, n, hl, h1, h2, hr, h3⟩
  · rw [hr] at h'
    exact absurd h' he
  · have hn := readQ_pos l _ n hr
    rw [hr]
    show l.length - n + 1 ≤ l.length
    omega
theorem quot_size (l : List UInt8) : (quotF l).2.1.length ≤ 4 * l.length := by
  show (readQ l).2.1.length ≤ _
  rcases readQ_cases l with ⟨e, he, hr⟩ | ⟨rs, n, hl, h1, h2, hr, h3⟩
  · rw [hr]
    exact Nat.zero_le _
  · rw [hr]
    have := textU_four rs
    show (textU rs).length ≤ _
    omega

theorem skip_cons_len (l : List UInt8) (c : UInt8) (t : List UInt8) (h : skipL l = c :: t) : t.length + 1 ≤ l.length := by
  have := skip_len l
  rw [h, List.length_cons] at this
  exact this

theorem key_len (keys : List (List UInt8)) (l k r : List UInt8) (h : keyF keys l = (0, k, r)) : r.length + 1 ≤ l.length := by
  unfold keyF at h
  by_cases h1 : (skipL l).head? = some 34
  · rw [if_pos h1] at h
    by_cases h2 : (quotF (skipL l)).1 = 0
    · rw [if_pos h2] at h
      have hq := quot_len _ h2
      split at h
      · cases h
      · split at h
        · cases h
          have e1 := skip_len l
          have e2 := skip_len (quotF (skipL l)).2.2
          rw [List.length_tail]
          omega
        · cases h
    · rw [if_neg h2] at h
      exact absurd (congrArg Prod.fst h) h2
  · rw [if_neg h1] at h
    cases h

theorem drop_prefix_len (p l : List UInt8) (n : Nat) (h : p.isPrefixOf l = true) (hn : p.length = n) : (l.drop n).length + n ≤ l.length := by
  have := (List.isPrefixOf_iff_prefix.1 h).length_le
  rw [List.length_drop]
  omega

theorem word_len (d : Nat) (key l : List UInt8) (x : List It) (r : List UInt8) (h : wordF d key l = (0, x, r)) : x.length = 1 ∧ r.length + 1 ≤ l.length := by
  unfold wordF at h
  split at h
  · cases h
    have := drop_prefix_len _ _ 4 ‹_› rfl
    exact ⟨rfl, by omega⟩
  · split at h
    · cases h
      have := drop_prefix_len _ _ 5 ‹_› rfl
      exact ⟨rfl, by omega⟩
    · split at h
      · cases h
        have := drop_prefix_len _ _ 4 ‹_› rfl
        exact ⟨rfl, by omega⟩
      · cases h

theorem dropWhile_len {α : Type} (p : α → Bool) (l : List α) : (l.dropWhile p).length ≤ l.length := by
  have h := List.takeWhile_append_dropWhile (p := p) (l := l)
  have := congrArg List.length h
  rw [List.length_append] at this
  omega

theorem numH_numC (c : UInt8) (h : numH c = true) : numC c = true := by
  have := numH_nat h
  unfold numC
  simp
  omega

/-- Each item was at least a byte. -/
theorem value_count (R : List UInt8 → Option Int) : ∀ f : Nat,
    (∀ d key l x r, valueF R f d key l = (0, x, r) → 1 ≤ x.length ∧ x.length + r.length ≤ l.length) ∧
    (∀ d o keys l x r, listF R f d o keys l = (0, x, r) → 1 ≤ x.length ∧ x.length + r.length + 1 ≤ l.length) := by
  intro f
  induction f with
  | zero =>
    refine ⟨fun d key l x r h => ?_, fun d o keys l x r h => ?_⟩
    · rw [valueF] at h
      cases h
    · rw [listF] at h
      cases h
  | succ f ih =>
    refine ⟨fun d key l x r h => ?_, fun d o keys l x r h => ?_⟩
    · cases hs : skipL l with
      | nil =>
        rw [value_nil R f d key l hs] at h
        cases h
      | cons c t =>
        have hl := skip_cons_len l c t hs
        rw [value_cons R f d key l c t hs] at h
        split at h
        · split at h
          · cases h
          · split at h
            · cases h
              have e := skip_len t
              rw [List.length_tail]
              simp only [List.length_cons, List.length_nil]
              omega
            · obtain ⟨h1, _⟩ := okThen_yes h
              obtain ⟨m, r2, hm⟩ : ∃ m r2, listF R f (d + 1) (c.toNat == 123) [] t = (0, m, r2) := ⟨_, _, Prod.ext h1 rfl⟩
              have := ih.2 (d + 1) (c.toNat == 123) [] t _ _ hm
              rw [hm, okThen_ok] at h
              cases h
              rw [List.length_cons]
              omega
        · split at h
          · obtain ⟨h1, h2⟩ := okThen_yes h
            cases h2
            have := quot_len _ h1
            simp only [List.length_cons, List.length_nil] at this ⊢
            omega
          · split at h
            · rename_i hn
              cases hR : R ((c :: t).takeWhile numC) with
              | none =>
                rw [hR] at h
                cases h
              | some n =>
                rw [hR] at h
                cases h
                have e := dropWhile_len numC t
                rw [List.dropWhile_cons_of_pos (numH_numC c hn)]
                simp only [List.length_cons, List.length_nil]
                omega
            · have := word_len d key _ x r h
              simp only [List.length_cons] at this
              omega
    · rw [list_mem] at h
      split at h
      · rename_i hm
        have hml : 1 ≤ (memF R f d o keys l).2.2.1.length ∧ (memF R f d o keys l).2.2.1.length + (memF R f d o keys l).2.2.2.length ≤ l.length := by
          cases o with
          | false =>
            rw [mem_arr] at hm ⊢
            exact ih.1 d [] l _ _ (Prod.ext hm rfl)
          | true =>
            by_cases hk : (keyF keys l).1 = 0
            · obtain ⟨k, r2, hk2⟩ : ∃ k r2, keyF keys l = (0, k, r2) := ⟨_, _, Prod.ext hk rfl⟩
              rw [mem_obj R f d keys l k r2 hk2] at hm ⊢
              have e1 := key_len keys l k r2 hk2
              obtain ⟨m, r3, hm3⟩ : ∃ m r3, valueF R f d k r2 = (0, m, r3) := ⟨_, _, Prod.ext hm rfl⟩
              have e2 := ih.1 d k r2 _ _ hm3
              rw [hm3]
              show 1 ≤ m.length ∧ m.length + r3.length ≤ l.length
              omega
            · rw [mem_obj_no R f d keys l hk] at hm
              exact absurd hm hk
        split at h
        · cases h
        · rename_i c r3 hs
          have hl := skip_cons_len _ c r3 hs
          split at h
          · cases h
            omega
          · split at h
            · obtain ⟨h1, _⟩ := okThen_yes h
              obtain ⟨m, r4, hm4⟩ : ∃ m r4, listF R f d o (keys ++ [(memF R f d o keys l).2.1]) r3 = (0, m, r4) := ⟨_, _, Prod.ext h1 rfl⟩
              have := ih.2 d o _ r3 _ _ hm4
              rw [hm4, okThen_ok] at h
              cases h
              rw [List.length_append]
              omega
            · cases h
      · rename_i hm
        exact absurd (congrArg Prod.fst h) hm
end Go.Proofs.YtmnigdcgdebgoaaDoor
namespace Go.Proofs.YtmnigdcgdebgoaaDoor
set_option linter.unusedVariables false

def validU (l : List UInt8) : Bool := (runesU l).isSome
/-- Has an item what its kind has, and nothing else? -/
def wholeU (x : It) : Bool := decide (1 ≤ x.kind) && decide (x.kind ≤ 7) && (decide (x.kind = 5) || x.text.isEmpty) && validU x.text && (decide (x.kind = 4) || decide (x.n = 0)) && (decide (x.kind < 6) || decide (x.depth < 64))

/-- What is open: is it an object, and its keys. -/
abbrev St := List (Bool × List (List UInt8))
/-- May the last one have a member of that key? -/
def keyedU (st : St) (key : List UInt8) : Bool :=
  match st.getLast? with
  | some (true, ks) => !ks.contains key && validU key
  | _ => key.isEmpty
/-- The key is noted. -/
def noteU (st : St) (key : List UInt8) : St :=
  match st.getLast? with
  | some (true, ks) => st.dropLast ++ [(true, ks ++ [key])]
  | _ => st
def stepU (i : Nat) (st : St) (x : It) : Option St :=
  if ((if i = 0 then 0 else 1 : Int) ≤ x.depth ∧ x.depth ≤ (st.length : Int)) ∧ wholeU x = true then
    if keyedU (st.take x.depth.toNat) x.key = true then some (if 6 ≤ x.kind then noteU (st.take x.depth.toNat) x.key ++ [(decide (x.kind = 7), [])] else noteU (st.take x.depth.toNat) x.key) else none
  else none
def runU : Nat → St → List It → Bool
  | _, _, [] => true
  | i, st, x :: t => match stepU i st x with | some st' => runU (i + 1) st' t | none => false
def rightU (l : List It) : Bool := !l.isEmpty && runU 0 [] l

theorem noteU_len (st : St) (key : List UInt8) : (noteU st key).length = st.length := by
  unfold noteU
  split
  · rename_i ks h
    have : st ≠ [] := fun e => by rw [e] at h; cases h
    have := List.length_pos_iff.2 this
    rw [List.length_append, List.length_dropLast]
    show st.length - 1 + 1 = _
    omega
  · rfl
theorem keyedU_snoc (st : St) (o : Bool) (ks : List (List UInt8)) (key : List UInt8) : keyedU (st ++ [(o, ks)]) key = if o then !ks.contains key && validU key else key.isEmpty := by
  unfold keyedU
  rw [List.getLast?_append]
  cases o <;> rfl
theorem noteU_snoc (st : St) (o : Bool) (ks : List (List UInt8)) (key : List UInt8) : noteU (st ++ [(o, ks)]) key = st ++ [(o, if o then ks ++ [key] else ks)] := by
  unfold noteU
  rw [List.getLast?_append]
  cases o
  · rfl
  · simp
end Go.Proofs.YtmnigdcgdebgoaaDoor
