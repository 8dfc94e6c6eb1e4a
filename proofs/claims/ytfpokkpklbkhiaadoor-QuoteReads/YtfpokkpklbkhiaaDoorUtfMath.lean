/-
  Letters as bytes (UTF-8): plain facts of numbers and lists.
-/
import Derived.ProofKit
namespace Go.Proofs.YtfpokkpklbkhiaaDoor
set_option linter.unusedVariables false

def letter (r : Nat) : Prop := r ≤ 1114111 ∧ (r < 55296 ∨ 57343 < r)

instance (r : Nat) : Decidable (letter r) := inferInstanceAs (Decidable (_ ∧ _))

/-- The bytes of a letter. -/
def putU (r : Nat) : List UInt8 :=
  if r < 128 then [UInt8.ofNat r]
  else if r < 2048 then [UInt8.ofNat (192 + r / 64), UInt8.ofNat (128 + r % 64)]
  else if r < 65536 then [UInt8.ofNat (224 + r / 4096), UInt8.ofNat (128 + r / 64 % 64), UInt8.ofNat (128 + r % 64)]
  else [UInt8.ofNat (240 + r / 262144), UInt8.ofNat (128 + r / 4096 % 64), UInt8.ofNat (128 + r / 64 % 64), UInt8.ofNat (128 + r % 64)]

/-- How many bytes a letter has that begins with c, and what c tells of it. -/
def firstU (c : Nat) : Nat × Nat :=
  if c < 128 then (1, c) else if 192 ≤ c ∧ c < 224 then (2, c - 192) else if 224 ≤ c ∧ c < 240 then (3, c - 224) else if 240 ≤ c ∧ c < 248 then (4, c - 240) else (0, 0)

def foldU (n : Nat) (l : List UInt8) : Nat := l.foldl (fun n c => 64 * n + c.toNat % 64) n

/-- The letter with which l begins, how many bytes it has, and whether there is one. -/
def takeU : List UInt8 → Nat × Nat × Bool
  | [] => (0, 0, false)
  | c :: t =>
    let long := (firstU c.toNat).1
    let n := foldU (firstU c.toNat).2 (t.take (long - 1))
    if long = 0 ∨ t.length + 1 < long then (0, 0, false) else if letter n ∧ putU n = (c :: t).take long then (n, long, true) else (0, 0, false)

theorem u8n (n : Nat) (h : n < 256) : (UInt8.ofNat n).toNat = n := by
  rw [UInt8.toNat_ofNat']
  omega

theorem putU_len (r : Nat) : 1 ≤ (putU r).length ∧ (putU r).length ≤ 4 := by
  unfold putU
  repeat' split
  all_goals simp

/-- What was put is taken. -/
theorem takeU_put (r : Nat) (b : List UInt8) (h : letter r) : takeU (putU r ++ b) = (r, (putU r).length, true) := by
  have h0 := h.1
  have key : ∀ (c : UInt8) (t : List UInt8) (long n0 : Nat), putU r = c :: t → firstU c.toNat = (long, n0) → long = t.length + 1 → foldU n0 t = r → takeU (putU r ++ b) = (r, (putU r).length, true) := by
    intro c t long n0 hp hf hl hn
    rw [hp, List.cons_append]
    unfold takeU
    simp only [hf]
    have e1 : (t ++ b).take (long - 1) = t := by rw [hl]; simp
    have e2 : (c :: (t ++ b)).take long = c :: t := by rw [hl]; simp
    rw [if_neg (by rw [hl, List.length_append]; omega), e1, e2, hn, if_pos ⟨h, hp⟩, hl]
    simp
  by_cases h1 : r < 128
  · refine key (UInt8.ofNat r) [] 1 r (by unfold putU; rw [if_pos h1]) ?_ rfl rfl
    rw [u8n r (by omega)]
    unfold firstU
    rw [if_pos h1]
  · by_cases h2 : r < 2048
    · refine key (UInt8.ofNat (192 + r / 64)) [UInt8.ofNat (128 + r % 64)] 2 (r / 64) (by unfold putU; rw [if_neg h1, if_pos h2]) ?_ rfl ?_
      · rw [u8n _ (by omega)]
        unfold firstU
        rw [if_neg (by omega), if_pos (by omega), show 192 + r / 64 - 192 = r / 64 by omega]
      · show 64 * (r / 64) + (UInt8.ofNat (128 + r % 64)).toNat % 64 = r
        rw [u8n _ (by omega)]
        omega
    · by_cases h3 : r < 65536
      · refine key (UInt8.ofNat (224 + r / 4096)) [UInt8.ofNat (128 + r / 64 % 64), UInt8.ofNat (128 + r % 64)] 3 (r / 4096) (by unfold putU; rw [if_neg h1, if_neg h2, if_pos h3]) ?_ rfl ?_
        · rw [u8n _ (by omega)]
          unfold firstU
          rw [if_neg (by omega), if_neg (by omega), if_pos (by omega), show 224 + r / 4096 - 224 = r / 4096 by omega]
        · show 64 * (64 * (r / 4096) + (UInt8.ofNat (128 + r / 64 % 64)).toNat % 64) + (UInt8.ofNat (128 + r % 64)).toNat % 64 = r
          rw [u8n _ (by omega), u8n _ (by omega)]
          omega
      · refine key (UInt8.ofNat (240 + r / 262144)) [UInt8.ofNat (128 + r / 4096 % 64), UInt8.ofNat (128 + r / 64 % 64), UInt8.ofNat (128 + r % 64)] 4 (r / 262144) (by unfold putU; rw [if_neg h1, if_neg h2, if_neg h3]) ?_ rfl ?_
        · rw [u8n _ (by omega)]
          unfold firstU
          rw [if_neg (by omega), if_neg (by omega), if_neg (by omega), if_pos (by omega), show 240 + r / 262144 - 240 = r / 262144 by omega]
        · show 64 * (64 * (64 * (r / 262144) + (UInt8.ofNat (128 + r / 4096 % 64)).toNat % 64) + (UInt8.ofNat (128 + r / 64 % 64)).toNat % 64) + (UInt8.ofNat (128 + r % 64)).toNat % 64 = r
          rw [u8n _ (by omega), u8n _ (by omega), u8n _ (by omega)]
          omega

/-- What is taken has just those bytes. -/
theorem takeU_yes (l : List UInt8) (r n : Nat) (h : takeU l = (r, n, true)) : letter r ∧ putU r = l.take n ∧ n = (putU r).length ∧ 1 ≤ n ∧ n ≤ 4 ∧ n ≤ l.length := by
  cases l with
  | nil => cases h
  | cons c t =>
    unfold takeU at h
    simp only at h
    split at h
    · cases h
    · rename_i hno
      split at h
      · rename_i hyes
        have e1 := (Prod.mk.inj h).1
        have e2 := (Prod.mk.inj (Prod.mk.inj h).2).1
        rw [e1, e2] at hyes
        rw [e2] at hno
        have hn : n ≤ (c :: t).length := by simp; omega
        have hlen : n = (putU r).length := by rw [hyes.2, List.length_take]; omega
        have := putU_len r
        exact ⟨hyes.1, hyes.2, hlen, by omega, by omega, hn⟩
      · cases h

theorem takeU_no (l : List UInt8) (r n : Nat) (h : takeU l = (r, n, false)) : r = 0 ∧ n = 0 := by
  cases l with
  | nil => cases h; exact ⟨rfl, rfl⟩
  | cons c t =>
    unfold takeU at h
    simp only at h
    split at h
    · cases h; exact ⟨rfl, rfl⟩
    · split at h
      · cases h
      · cases h; exact ⟨rfl, rfl⟩

theorem takeU_split (l : List UInt8) (r n : Nat) (h : takeU l = (r, n, true)) : l = putU r ++ l.drop n := by
  obtain ⟨_, h2, _⟩ := takeU_yes l r n h
  rw [h2, List.take_append_drop]

/-- The letters of a text, at most f of them. -/
def runesF : Nat → List UInt8 → Option (List Nat)
  | _, [] => some []
  | 0, _ :: _ => none
  | f + 1, l => if (takeU l).2.2 = true then (runesF f (l.drop (takeU l).2.1)).map ((takeU l).1 :: ·) else none

def runesU (l : List UInt8) : Option (List Nat) := runesF l.length l

def textU (rs : List Nat) : List UInt8 := rs.flatMap putU
def letters (rs : List Nat) : Prop := ∀ r ∈ rs, letter r

theorem textU_cons (r : Nat) (rs : List Nat) : textU (r :: rs) = putU r ++ textU rs := rfl

theorem textU_append (a b : List Nat) : textU (a ++ b) = textU a ++ textU b := by
  unfold textU
  rw [List.flatMap_append]

theorem textU_len (rs : List Nat) : rs.length ≤ (textU rs).length := by
  induction rs with
  | nil => simp
  | cons r t ih =>
    have := (putU_len r).1
    rw [textU_cons, List.length_append, List.length_cons]
    omega

theorem runesF_text : ∀ (rs : List Nat) (f : Nat), letters rs → rs.length ≤ f → runesF f (textU rs) = some rs
  | [], f, _, _ => by cases f <;> rfl
  | r :: rs, 0, _, hf => by simp at hf
  | r :: rs, f + 1, h, hf => by
    have hr := h r (List.mem_cons_self ..)
    have ht := takeU_put r (textU rs) hr
    have ih := runesF_text rs f (fun x hx => h x (List.mem_cons_of_mem _ hx)) (by simpa using hf)
    have hne : ∃ c t, textU (r :: rs) = c :: t := by
      have := (putU_len r).1
      cases hp : putU r with
      | nil => rw [hp] at this; simp at this
      | cons c t => exact ⟨c, t ++ textU rs, by rw [textU_cons, hp]; rfl⟩
    obtain ⟨c, t, hc⟩ := hne
    rw [hc]
    show (if (takeU (c :: t)).2.2 = true then (runesF f ((c :: t).drop (takeU (c :: t)).2.1)).map ((takeU (c :: t)).1 :: ·) else none) = _
    rw [← hc, textU_cons, ht]
    simp only [if_true]
    rw [List.drop_left, ih]
    rfl

theorem runesF_yes : ∀ (f : Nat) (l : List UInt8) (rs : List Nat), runesF f l = some rs → letters rs ∧ l = textU rs
  | f, [], rs, h => by
    have h' : some ([] : List Nat) = some rs := by cases f <;> exact h
    have e : [] = rs := Option.some.inj h'
    subst e
    exact ⟨fun r hr => absurd hr List.not_mem_nil, rfl⟩
  | 0, _ :: _, rs, h => by cases h
  | f + 1, c :: t, rs, h => by
    have h' : (if (takeU (c :: t)).2.2 = true then (runesF f ((c :: t).drop (takeU (c :: t)).2.1)).map ((takeU (c :: t)).1 :: ·) else none) = some rs := h
    split at h'
    · rename_i hy
      obtain ⟨r, n, b, ht⟩ : ∃ r n b, takeU (c :: t) = (r, n, b) := ⟨_, _, _, rfl⟩
      rw [ht] at hy h'
      simp only at hy h'
      subst hy
      rw [Option.map_eq_some_iff] at h'
      obtain ⟨qs, hq, rfl⟩ := h'
      obtain ⟨i1, i2⟩ := runesF_yes f _ qs hq
      refine ⟨fun x hx => ?_, ?_⟩
      · rcases List.mem_cons.1 hx with rfl | hx
        · exact (takeU_yes _ _ _ ht).1
        · exact i1 x hx
      · rw [textU_cons, ← i2]
        exact takeU_split _ _ _ ht
    · cases h'

theorem runesU_iff (l : List UInt8) (rs : List Nat) : runesU l = some rs ↔ letters rs ∧ l = textU rs := by
  constructor
  · exact runesF_yes _ _ _
  · rintro ⟨h, rfl⟩
    exact runesF_text rs _ h (textU_len rs)

theorem runesU_nil : runesU [] = some [] := rfl

theorem runesU_step (l : List UInt8) (hl : l ≠ []) : runesU l = if (takeU l).2.2 = true then (runesU (l.drop (takeU l).2.1)).map ((takeU l).1 :: ·) else none := by
  obtain ⟨r, n, b, ht⟩ : ∃ r n b, takeU l = (r, n, b) := ⟨_, _, _, rfl⟩
  rw [ht]
  simp only
  cases b with
  | false =>
    simp only [Bool.false_eq_true, if_false]
    cases hr : runesU l with
    | none => rfl
    | some rs =>
      obtain ⟨h1, h2⟩ := (runesU_iff l rs).1 hr
      cases rs with
      | nil => exact absurd h2 hl
      | cons x xs =>
        rw [h2, textU_cons, takeU_put x _ (h1 x (List.mem_cons_self ..))] at ht
        cases ht
  | true =>
    simp only [if_true]
    have hs := takeU_split l r n ht
    have hy := takeU_yes l r n ht
    cases hr : runesU (l.drop n) with
    | some rs =>
      obtain ⟨h1, h2⟩ := (runesU_iff _ rs).1 hr
      refine (runesU_iff l (r :: rs)).2 ⟨fun x hx => ?_, ?_⟩
      · rcases List.mem_cons.1 hx with rfl | hx
        · exact hy.1
        · exact h1 x hx
      · rw [textU_cons, ← h2]
        exact hs
    | none =>
      cases hl' : runesU l with
      | none => rfl
      | some rs =>
        obtain ⟨h1, h2⟩ := (runesU_iff l rs).1 hl'
        cases rs with
        | nil => exact absurd h2 hl
        | cons x xs =>
          have ht2 := takeU_put x (textU xs) (h1 x (List.mem_cons_self ..))
          rw [← textU_cons, ← h2, ht] at ht2
          have e1 : r = x := (Prod.mk.inj ht2).1
          have e2 : n = (putU x).length := (Prod.mk.inj (Prod.mk.inj ht2).2).1
          have e3 : l.drop n = textU xs := by rw [h2, textU_cons, e2, List.drop_left]
          rw [(runesU_iff _ xs).2 ⟨fun y hy => h1 y (List.mem_cons_of_mem _ hy), e3⟩] at hr
          cases hr

/-- Behind a valid text. -/
theorem runesU_append (rs : List Nat) (b : List UInt8) (h : letters rs) : runesU (textU rs ++ b) = (runesU b).map (rs ++ ·) := by
  induction rs with
  | nil => show runesU b = _; cases runesU b <;> rfl
  | cons r t ih =>
    have hr := h r (List.mem_cons_self ..)
    have e : textU (r :: t) ++ b = putU r ++ (textU t ++ b) := by rw [textU_cons, List.append_assoc]
    have hne : putU r ++ (textU t ++ b) ≠ [] := by
      have := (putU_len r).1
      cases hp : putU r with
      | nil => rw [hp] at this; simp at this
      | cons c t => simp
    rw [e, runesU_step _ hne, takeU_put r _ hr]
    simp only [if_true]
    rw [List.drop_left, ih (fun x hx => h x (List.mem_cons_of_mem _ hx))]
    cases runesU b <;> rfl
theorem u8_inj (a b : Nat) (ha : a < 256) (hb : b < 256) (h : UInt8.ofNat a = UInt8.ofNat b) : a = b := by
  have := congrArg UInt8.toNat h
  rw [u8n a ha, u8n b hb] at this
  exact this

/-- Two letters with the same bytes are one. -/
theorem putU_inj (a b : Nat) (ha : letter a) (hb : letter b) (h : putU a = putU b) : a = b := by
  have h1 := takeU_put a [] ha
  rw [h, takeU_put b [] hb] at h1
  exact (Prod.mk.inj h1).1.symm

theorem less_cons (x y : Nat) (s t : List UInt8) (hx : x < 256) (hy : y < 256) : Op.bytesLess (UInt8.ofNat x :: s) (UInt8.ofNat y :: t) = (decide (x < y) || (decide (x = y) && Op.bytesLess s t)) := by
  have hlt : decide (UInt8.ofNat x < UInt8.ofNat y) = decide (x < y) := by
    rw [Bool.eq_iff_iff, decide_eq_true_eq, decide_eq_true_eq, UInt8.lt_iff_toNat_lt, u8n x hx, u8n y hy]
  have heq : (UInt8.ofNat x == UInt8.ofNat y) = decide (x = y) := by
    rw [Bool.eq_iff_iff, beq_iff_eq, decide_eq_true_eq, ← UInt8.toNat_inj, u8n x hx, u8n y hy]
  rw [Op.bytesLess, hlt, heq]

theorem less_nil : Op.bytesLess [] [] = false := rfl

/-- Of two letters the lesser one has the lesser bytes. -/
theorem putU_less (a b : Nat) (ha : letter a) (hb : letter b) : Op.bytesLess (putU a) (putU b) = decide (a < b) := by
  have a0 := ha.1
  have b0 := hb.1
  clear ha hb
  rw [Bool.eq_iff_iff]
  by_cases h1 : a < 128
  · by_cases k1 : b < 128
    · unfold putU
      rw [if_pos h1, if_pos k1, less_cons _ _ _ _ (by omega) (by omega), less_nil]
      simp
    · by_cases k2 : b < 2048
      · unfold putU
        rw [if_pos h1, if_neg k1, if_pos k2, less_cons _ _ _ _ (by omega) (by omega)]
        simp only [Bool.or_eq_true, Bool.and_eq_true, decide_eq_true_eq]
        omega
      · by_cases k3 : b < 65536
        · unfold putU
          rw [if_pos h1, if_neg k1, if_neg k2, if_pos k3, less_cons _ _ _ _ (by omega) (by omega)]
          simp only [Bool.or_eq_true, Bool.and_eq_true, decide_eq_true_eq]
          omega
        · unfold putU
          rw [if_pos h1, if_neg k1, if_neg k2, if_neg k3, less_cons _ _ _ _ (by omega) (by omega)]
          simp only [Bool.or_eq_true, Bool.and_eq_true, decide_eq_true_eq]
          omega
  · by_cases h2 : a < 2048
    · by_cases k1 : b < 128
      · unfold putU
        rw [if_neg h1, if_pos h2, if_pos k1, less_cons _ _ _ _ (by omega) (by omega)]
        simp only [Bool.or_eq_true, Bool.and_eq_true, decide_eq_true_eq]
        omega
      · by_cases k2 : b < 2048
        · unfold putU
          rw [if_neg h1, if_pos h2, if_neg k1, if_pos k2, less_cons _ _ _ _ (by omega) (by omega), less_cons _ _ _ _ (by omega) (by omega), less_nil]
          simp only [Bool.or_eq_true, Bool.and_eq_true, decide_eq_true_eq, Bool.false_eq_true, and_false, or_false]
          omega
        · by_cases k3 : b < 65536
          · unfold putU
            rw [if_neg h1, if_pos h2, if_neg k1, if_neg k2, if_pos k3, less_cons _ _ _ _ (by omega) (by omega)]
            simp only [Bool.or_eq_true, Bool.and_eq_true, decide_eq_true_eq]
            omega
          · unfold putU
            rw [if_neg h1, if_pos h2, if_neg k1, if_neg k2, if_neg k3, less_cons _ _ _ _ (by omega) (by omega)]
            simp only [Bool.or_eq_true, Bool.and_eq_true, decide_eq_true_eq]
            omega
    · by_cases h3 : a < 65536
      · by_cases k1 : b < 128
        · unfold putU
          rw [if_neg h1, if_neg h2, if_pos h3, if_pos k1, less_cons _ _ _ _ (by omega) (by omega)]
          simp only [Bool.or_eq_true, Bool.and_eq_true, decide_eq_true_eq]
          omega
        · by_cases k2 : b < 2048
          · unfold putU
            rw [if_neg h1, if_neg h2, if_pos h3, if_neg k1, if_pos k2, less_cons _ _ _ _ (by omega) (by omega)]
            simp only [Bool.or_eq_true, Bool.and_eq_true, decide_eq_true_eq]
            omega
          · by_cases k3 : b < 65536
            · unfold putU
              rw [if_neg h1, if_neg h2, if_pos h3, if_neg k1, if_neg k2, if_pos k3, less_cons _ _ _ _ (by omega) (by omega), less_cons _ _ _ _ (by omega) (by omega), less_cons _ _ _ _ (by omega) (by omega), less_nil]
              simp only [Bool.or_eq_true, Bool.and_eq_true, decide_eq_true_eq, Bool.false_eq_true, and_false, or_false]
              omega
            · unfold putU
              rw [if_neg h1, if_neg h2, if_pos h3, if_neg k1, if_neg k2, if_neg k3, less_cons _ _ _ _ (by omega) (by omega)]
              simp only [Bool.or_eq_true, Bool.and_eq_true, decide_eq_true_eq]
              omega
      · by_cases k1 : b < 128
        · unfold putU
          rw [if_neg h1, if_neg h2, if_neg h3, if_pos k1, less_cons _ _ _ _ (by omega) (by omega)]
          simp only [Bool.or_eq_true, Bool.and_eq_true, decide_eq_true_eq]
          omega
        · by_cases k2 : b < 2048
          · unfold putU
            rw [if_neg h1, if_neg h2, if_neg h3, if_neg k1, if_pos k2, less_cons _ _ _ _ (by omega) (by omega)]
            simp only [Bool.or_eq_true, Bool.and_eq_true, decide_eq_true_eq]
            omega
          · by_cases k3 : b < 65536
            · unfold putU
              rw [if_neg h1, if_neg h2, if_neg h3, if_neg k1, if_neg k2, if_pos k3, less_cons _ _ _ _ (by omega) (by omega)]
              simp only [Bool.or_eq_true, Bool.and_eq_true, decide_eq_true_eq]
              omega
            · unfold putU
              rw [if_neg h1, if_neg h2, if_neg h3, if_neg k1, if_neg k2, if_neg k3, less_cons _ _ _ _ (by omega) (by omega), less_cons _ _ _ _ (by omega) (by omega), less_cons _ _ _ _ (by omega) (by omega), less_cons _ _ _ _ (by omega) (by omega), less_nil]
              simp only [Bool.or_eq_true, Bool.and_eq_true, decide_eq_true_eq, Bool.false_eq_true, and_false, or_false]
              omega

theorem get_list (s : ByteArray) (j : Nat) (c : UInt8) (h : s.data.toList[j]? = some c) : s.get! j = c ∧ j < s.size := by
  obtain ⟨h1, h2⟩ := List.getElem?_eq_some_iff.1 h
  have hj : j < s.size := by
    have : s.data.toList.length = s.size := by simp
    omega
  refine ⟨?_, hj⟩
  rw [← h2]
  simp [ByteArray.get!, hj]

theorem drop_at (s : ByteArray) (i k : Nat) (c : UInt8) (l : List UInt8) (h : s.data.toList.drop i = l) (hk : l[k]? = some c) : s.get! (i + k) = c ∧ i + k < s.size := by
  apply get_list
  rw [← h, List.getElem?_drop] at hk
  exact hk

theorem valid_letter (r : Nat) : Utf8.valid (r : Int) = decide (letter r) := by
  rw [Bool.eq_iff_iff, decide_eq_true_eq]
  unfold Utf8.valid letter
  simp only [Bool.or_eq_true, Bool.and_eq_true, decide_eq_true_eq]
  omega

/-- What the language's own decoding tells of a letter's bytes. -/
theorem decode_put (s : ByteArray) (i r : Nat) (b : List UInt8) (hr : letter r) (h : s.data.toList.drop i = putU r ++ b) : Utf8.decode s i = (r, (putU r).length) := by
  have r0 := hr.1
  by_cases h1 : r < 128
  · have e : putU r = [UInt8.ofNat r] := by unfold putU; rw [if_pos h1]
    rw [e] at h ⊢
    obtain ⟨g0, _⟩ := drop_at s i 0 (UInt8.ofNat r) _ h rfl
    simp only [Utf8.decode, g0, u8n r (by omega)]
    rw [if_pos h1]
    rfl
  · by_cases h2 : r < 2048
    · have e : putU r = [UInt8.ofNat (192 + r / 64), UInt8.ofNat (128 + r % 64)] := by unfold putU; rw [if_neg h1, if_pos h2]
      rw [e] at h ⊢
      obtain ⟨g0, _⟩ := drop_at s i 0 _ _ h rfl
      obtain ⟨g1, s1⟩ := drop_at s i 1 _ _ h rfl
      simp only [Utf8.decode, g0, g1, u8n (192 + r / 64) (by omega), u8n (128 + r % 64) (by omega)]
      rw [if_neg (by omega), if_pos (by simp [s1]; omega), if_pos (by omega)]
      simp
      omega
    · by_cases h3 : r < 65536
      · have e : putU r = [UInt8.ofNat (224 + r / 4096), UInt8.ofNat (128 + r / 64 % 64), UInt8.ofNat (128 + r % 64)] := by unfold putU; rw [if_neg h1, if_neg h2, if_pos h3]
        rw [e] at h ⊢
        obtain ⟨g0, _⟩ := drop_at s i 0 _ _ h rfl
        obtain ⟨g1, s1⟩ := drop_at s i 1 _ _ h rfl
        obtain ⟨g2, s2⟩ := drop_at s i 2 _ _ h rfl
        have ev : ((224 + r / 4096) % 16) * 4096 + (128 + r / 64 % 64) % 64 * 64 + (128 + r % 64) % 64 = r := by omega
        simp only [Utf8.decode, g0, g1, g2, u8n (224 + r / 4096) (by omega), u8n (128 + r / 64 % 64) (by omega), u8n (128 + r % 64) (by omega), ev, valid_letter]
        rw [if_neg (by omega), if_neg (by simp; omega), if_pos (by simp [s1, s2]; omega), if_pos (by simp [hr]; omega)]
        rfl
      · have e : putU r = [UInt8.ofNat (240 + r / 262144), UInt8.ofNat (128 + r / 4096 % 64), UInt8.ofNat (128 + r / 64 % 64), UInt8.ofNat (128 + r % 64)] := by unfold putU; rw [if_neg h1, if_neg h2, if_neg h3]
        rw [e] at h ⊢
        obtain ⟨g0, _⟩ := drop_at s i 0 _ _ h rfl
        obtain ⟨g1, s1⟩ := drop_at s i 1 _ _ h rfl
        obtain ⟨g2, s2⟩ := drop_at s i 2 _ _ h rfl
        obtain ⟨g3, s3⟩ := drop_at s i 3 _ _ h rfl
        have ev : ((240 + r / 262144) % 8) * 262144 + (128 + r / 4096 % 64) % 64 * 4096 + (128 + r / 64 % 64) % 64 * 64 + (128 + r % 64) % 64 = r := by omega
        simp only [Utf8.decode, g0, g1, g2, g3, u8n (240 + r / 262144) (by omega), u8n (128 + r / 4096 % 64) (by omega), u8n (128 + r / 64 % 64) (by omega), u8n (128 + r % 64) (by omega), ev, valid_letter]
        rw [if_neg (by omega), if_neg (by simp; omega), if_neg (by simp; omega), if_pos (by simp [s1, s2, s3]; omega), if_pos (by simp [hr]; omega)]
        rfl

theorem ofNat_toNat (c : UInt8) (n : Nat) (h : n = c.toNat) : UInt8.ofNat n = c := by
  rw [h]
  simp

theorem drop_more (s : ByteArray) (i : Nat) (h : i < s.size) : s.data.toList.drop i = s.get! i :: s.data.toList.drop (i + 1) := by
  have hl : i < s.data.toList.length := by simpa using h
  rw [List.drop_eq_getElem_cons hl]
  congr 1
  simp [ByteArray.get!, h]

/-- Where it tells a letter, there is one. -/
theorem decode_good (s : ByteArray) (i r n : Nat) (hi : i < s.size) (h : Utf8.decode s i = (r, n)) : (r = 65533 ∧ n = 1) ∨ (letter r ∧ ∃ b, s.data.toList.drop i = putU r ++ b) := by
  obtain ⟨c0, hc0⟩ : ∃ c, s.get! (i + 0) = c := ⟨_, rfl⟩
  obtain ⟨c1, hc1⟩ : ∃ c, s.get! (i + 1) = c := ⟨_, rfl⟩
  obtain ⟨c2, hc2⟩ : ∃ c, s.get! (i + 2) = c := ⟨_, rfl⟩
  obtain ⟨c3, hc3⟩ : ∃ c, s.get! (i + 3) = c := ⟨_, rfl⟩
  have l0 := c0.toNat_lt
  have l1 := c1.toNat_lt
  have l2 := c2.toNat_lt
  have l3 := c3.toNat_lt
  have d0 := drop_more s i hi
  rw [show s.get! i = c0 from hc0] at d0
  simp only [Utf8.decode, hc0, hc1, hc2, hc3] at h
  split at h
  · rename_i hb
    cases h
    refine .inr ⟨⟨by omega, by omega⟩, s.data.toList.drop (i + 1), ?_⟩
    unfold putU
    rw [if_pos hb, d0, ofNat_toNat c0 _ rfl]
    rfl
  · rename_i hb
    split at h
    · rename_i hb2
      simp only [Bool.and_eq_true, decide_eq_true_eq, beq_iff_eq] at hb2
      obtain ⟨hb3, hs1, hb4⟩ := hb2
      split at h
      · rename_i hb5
        cases h
        have d1 := drop_more s (i + 1) hs1
        rw [hc1] at d1
        refine .inr ⟨⟨by omega, by omega⟩, s.data.toList.drop (i + 1 + 1), ?_⟩
        unfold putU
        rw [if_neg (by omega), if_pos (by omega), d0, d1, ofNat_toNat c0 _ (by omega), ofNat_toNat c1 _ (by omega)]
        rfl
      · cases h
        exact .inl ⟨rfl, rfl⟩
    · split at h
      · rename_i hb2
        simp only [Bool.and_eq_true, decide_eq_true_eq, beq_iff_eq] at hb2
        obtain ⟨⟨hb3, hs1, hb4⟩, hs2, hb5⟩ := hb2
        split at h
        · rename_i hb6
          simp only [Bool.and_eq_true, decide_eq_true_eq, valid_letter] at hb6
          cases h
          have d1 := drop_more s (i + 1) hs1
          have d2 := drop_more s (i + 1 + 1) hs2
          rw [hc1] at d1
          rw [show s.get! (i + 1 + 1) = c2 from hc2] at d2
          refine .inr ⟨hb6.2, s.data.toList.drop (i + 1 + 1 + 1), ?_⟩
          unfold putU
          rw [if_neg (by omega), if_neg (by omega), if_pos (by omega), d0, d1, d2, ofNat_toNat c0 _ (by omega), ofNat_toNat c1 _ (by omega), ofNat_toNat c2 _ (by omega)]
          rfl
        · cases h
          exact .inl ⟨rfl, rfl⟩
      · split at h
        · rename_i hb2
          simp only [Bool.and_eq_true, decide_eq_true_eq, beq_iff_eq] at hb2
          obtain ⟨⟨⟨hb3, hs1, hb4⟩, hs2, hb5⟩, hs3, hb6⟩ := hb2
          split at h
          · rename_i hb7
            simp only [Bool.and_eq_true, decide_eq_true_eq, valid_letter] at hb7
            cases h
            have hv := hb7.2.1
            have d1 := drop_more s (i + 1) hs1
            have d2 := drop_more s (i + 1 + 1) hs2
            have d3 := drop_more s (i + 1 + 1 + 1) hs3
            rw [hc1] at d1
            rw [show s.get! (i + 1 + 1) = c2 from hc2] at d2
            rw [show s.get! (i + 1 + 1 + 1) = c3 from hc3] at d3
            refine .inr ⟨hb7.2, s.data.toList.drop (i + 1 + 1 + 1 + 1), ?_⟩
            unfold putU
            rw [if_neg (by omega), if_neg (by omega), if_neg (by omega), d0, d1, d2, d3, ofNat_toNat c0 _ (by omega), ofNat_toNat c1 _ (by omega), ofNat_toNat c2 _ (by omega), ofNat_toNat c3 _ (by omega)]
            rfl
          · cases h
            exact .inl ⟨rfl, rfl⟩
        · cases h
          exact .inl ⟨rfl, rfl⟩

/-- The language's own decoding, by what is taken. -/
theorem decode_take (s : ByteArray) (i : Nat) (hi : i < s.size) : Utf8.decode s i = if (takeU (s.data.toList.drop i)).2.2 = true then ((takeU (s.data.toList.drop i)).1, (takeU (s.data.toList.drop i)).2.1) else (65533, 1) := by
  obtain ⟨r, n, b, ht⟩ : ∃ r n b, takeU (s.data.toList.drop i) = (r, n, b) := ⟨_, _, _, rfl⟩
  rw [ht]
  cases b with
  | true =>
    have hy := takeU_yes _ _ _ ht
    have hs := takeU_split _ _ _ ht
    simp only [if_true]
    rw [decode_put s i r _ hy.1 hs, hy.2.2.1]
  | false =>
    simp only [Bool.false_eq_true, if_false]
    obtain ⟨x, m, hd⟩ : ∃ x m, Utf8.decode s i = (x, m) := ⟨_, _, rfl⟩
    rcases decode_good s i x m hi hd with ⟨rfl, rfl⟩ | ⟨hx, b, hb⟩
    · exact hd
    · rw [hb, takeU_put x b hx] at ht
      cases ht
end Go.Proofs.YtfpokkpklbkhiaaDoor
