/-
  Dates of cookies, plain: words, what a word tells, what a text tells; dates as headers and as archives have them.
-/
import Derived.Test.YtmmkokomffclmaaDoorCivMath
import Derived.Test.YtmmkokomffclmaaDoorDecMath
import Derived.ProofKit
namespace Go.Proofs.YtmmkokomffclmaaDoor
set_option linter.unusedVariables false

/-- Does a byte part words? -/
def partC (c : UInt8) : Bool := c.toNat == 9 || (decide (32 ≤ c.toNat) && decide (c.toNat ≤ 47)) || (decide (59 ≤ c.toNat) && decide (c.toNat ≤ 64)) || (decide (91 ≤ c.toNat) && decide (c.toNat ≤ 96)) || (decide (123 ≤ c.toNat) && decide (c.toNat ≤ 126))

/-- A word that has ended. -/
def flushW (word : List UInt8) : List (List UInt8) := if word = [] then [] else [word]

/-- A text's words, with a word begun. -/
def wordsG (word : List UInt8) : List UInt8 → List (List UInt8)
  | [] => flushW word
  | c :: t => if partC c = true then flushW word ++ wordsG [] t else wordsG (word ++ [c]) t

def wordsL (l : List UInt8) : List (List UInt8) := wordsG [] l

/-- How many digits a text begins with. -/
def digN : List UInt8 → Nat
  | [] => 0
  | c :: t => if isD c = true then digN t + 1 else 0

/-- One or two digits at the beginning: their number, and what is behind them. -/
def two12 (l : List UInt8) : Option (Nat × List UInt8) := if digN l < 1 ∨ 2 < digN l then none else some (valN (l.take (digN l)), l.drop (digN l))

/-- A colon, and what is behind it. -/
def colon : List UInt8 → Option (List UInt8)
  | 58 :: t => some t
  | _ => none

/-- Hour, minute and second of a word. -/
def timeL (l : List UInt8) : Option (Nat × Nat × Nat) :=
  match two12 l with
  | none => none
  | some (a, l1) => match colon l1 with
    | none => none
    | some l2 => match two12 l2 with
      | none => none
      | some (b, l3) => match colon l3 with
        | none => none
        | some l4 => match two12 l4 with
          | none => none
          | some (c, _) => some (a, b, c)

/-- The small letter in place of a great one. -/
def lowD (c : UInt8) : UInt8 := if 65 ≤ c.toNat ∧ c.toNat ≤ 90 then c + 32 else c

/-- The months, in small letters. -/
def monthsL : List (List UInt8) := [[106, 97, 110], [102, 101, 98], [109, 97, 114], [97, 112, 114], [109, 97, 121], [106, 117, 110], [106, 117, 108], [97, 117, 103], [115, 101, 112], [111, 99, 116], [110, 111, 118], [100, 101, 99]]
/-- The months, as headers have them. -/
def monthsH : List (List UInt8) := [[74, 97, 110], [70, 101, 98], [77, 97, 114], [65, 112, 114], [77, 97, 121], [74, 117, 110], [74, 117, 108], [65, 117, 103], [83, 101, 112], [79, 99, 116], [78, 111, 118], [68, 101, 99]]
/-- The days of the week, as headers have them. -/
def daysH : List (List UInt8) := [[83, 117, 110], [77, 111, 110], [84, 117, 101], [87, 101, 100], [84, 104, 117], [70, 114, 105], [83, 97, 116]]

/-- Which row of l is x, from k on (0: none). -/
def placeOf (x : List UInt8) : List (List UInt8) → Nat → Nat
  | [], _ => 0
  | y :: t, k => if x = y then k + 1 else placeOf x t (k + 1)

/-- The month of a word (0: none). -/
def monthL (w : List UInt8) : Nat := if 3 ≤ w.length then placeOf ((w.take 3).map lowD) monthsL 0 else 0

/-- What was found so far. -/
structure Fd where
  time : Bool
  day : Bool
  month : Bool
  year : Bool
  Y : Int
  M : Int
  D : Int
  h : Int
  i : Int
  s : Int

def fd0 : Fd := ⟨false, false, false, false, 0, 0, 0, 0, 0, 0⟩

/-- Behind one more word. -/
def nextF (f : Fd) (w : List UInt8) : Fd :=
  if f.time = false ∧ (timeL w).isSome = true then
    { f with time := true, h := ((timeL w).getD (0, 0, 0)).1, i := ((timeL w).getD (0, 0, 0)).2.1, s := ((timeL w).getD (0, 0, 0)).2.2 }
  else if f.day = false ∧ 1 ≤ digN w ∧ digN w ≤ 2 then { f with day := true, D := valN (w.take (digN w)) }
  else if f.month = false ∧ 0 < monthL w then { f with month := true, M := monthL w }
  else if f.year = false ∧ 2 ≤ digN w ∧ digN w ≤ 4 then { f with year := true, Y := valN (w.take (digN w)) }
  else f

/-- The year that is meant. -/
def yearOf (y : Int) : Int := if 70 ≤ y ∧ y ≤ 99 then y + 1900 else if y ≤ 69 then y + 2000 else y

def cookieF (f : Fd) : Int × Bool :=
  if f.time = true ∧ f.day = true ∧ f.month = true ∧ f.year = true ∧ 1601 ≤ yearOf f.Y ∧ IsClock (yearOf f.Y) f.M f.D f.h f.i f.s then (secs (yearOf f.Y) f.M f.D f.h f.i f.s, true) else (0, false)

/-- What a text tells as a cookie's date. -/
def cookieL (l : List UInt8) : Int × Bool := cookieF ((wordsL l).foldl nextF fd0)

/-- hh:mm:ss -/
def hmsL (h i s : Nat) : List UInt8 := padK h 2 ++ 58 :: padK i 2 ++ 58 :: padK s 2

/-- A date as headers have it. -/
def imfL (w y m d h i s : Nat) : List UInt8 := daysH.getD w [] ++ [44, 32] ++ padK d 2 ++ [32] ++ monthsH.getD (m - 1) [] ++ [32] ++ padK y 4 ++ [32] ++ hmsL h i s ++ [32, 71, 77, 84]

/-- A date as archives have it. -/
def isoL (y m d h i s : Nat) : List UInt8 := padK y 4 ++ [45] ++ padK m 2 ++ [45] ++ padK d 2 ++ [84] ++ hmsL h i s ++ [90]

/-! Words -/

theorem wordsG_part (word l : List UInt8) (c : UInt8) (h : partC c = true) : wordsG word (c :: l) = flushW word ++ wordsG [] l := by
  show (if partC c = true then _ else _) = _
  rw [if_pos h]

theorem wordsG_keep (word l : List UInt8) (c : UInt8) (h : partC c = false) : wordsG word (c :: l) = wordsG (word ++ [c]) l := by
  show (if partC c = true then _ else _) = _
  rw [if_neg (by rw [h]; decide)]

theorem wordsG_parts : ∀ (ps l : List UInt8), ps.all partC = true → wordsG [] (ps ++ l) = wordsG [] l
  | [], l, _ => rfl
  | c :: t, l, h => by
    have h' : partC c = true ∧ t.all partC = true := by simpa using h
    rw [List.cons_append, wordsG_part [] _ c h'.1, wordsG_parts t l h'.2]
    rfl

theorem wordsG_run : ∀ (w word l : List UInt8), (w.all fun c => !partC c) = true → wordsG word (w ++ l) = wordsG (word ++ w) l
  | [], word, l, _ => by simp
  | c :: t, word, l, h => by
    have h' : partC c = false ∧ (t.all fun c => !partC c) = true := by simpa using h
    rw [List.cons_append, wordsG_keep word _ c h'.1, wordsG_run t _ l h'.2]
    simp

/-- A word, a parting byte, and what is behind. -/
theorem words_word (w l : List UInt8) (c : UInt8) (hw : (w.all fun c => !partC c) = true) (hne : w ≠ []) (hc : partC c = true) : wordsG [] (w ++ c :: l) = w :: wordsG [] l := by
  rw [wordsG_run w [] _ hw, wordsG_part _ _ c hc]
  simp [flushW, hne]

theorem words_last (w : List UInt8) (hw : (w.all fun c => !partC c) = true) (hne : w ≠ []) : wordsG [] w = [w] := by
  have := wordsG_run w [] [] hw
  rw [List.append_nil] at this
  rw [this]
  simp [wordsG, flushW, hne]

/-! Small letters -/

theorem byte_cases (P : UInt8 → Bool) (h : ∀ n : Nat, n < 256 → P (UInt8.ofNat n) = true) (c : UInt8) : P c = true := by
  have := h c.toNat (by have := c.toNat_lt; omega)
  simpa using this

theorem lowD_part (c : UInt8) : partC (lowD c) = partC c := by
  have := byte_cases (fun c => partC (lowD c) == partC c) (by decide +kernel) c
  simpa using this
theorem lowD_isD (c : UInt8) : isD (lowD c) = isD c := by
  have := byte_cases (fun c => isD (lowD c) == isD c) (by decide +kernel) c
  simpa using this
theorem lowD_dig (c : UInt8) (h : isD c = true) : lowD c = c := by
  have := byte_cases (fun c => !isD c || lowD c == c) (by decide +kernel) c
  simpa [h] using this
theorem lowD_colon (c : UInt8) : (lowD c == 58) = (c == 58) := by
  have := byte_cases (fun c => (lowD c == 58) == (c == 58)) (by decide +kernel) c
  simpa using this
theorem lowD_idem (c : UInt8) : lowD (lowD c) = lowD c := by
  have := byte_cases (fun c => lowD (lowD c) == lowD c) (by decide +kernel) c
  simpa using this

theorem wordsG_low : ∀ (l word : List UInt8), wordsG (word.map lowD) (l.map lowD) = (wordsG word l).map (fun w => w.map lowD)
  | [], word => by
    show flushW (word.map lowD) = (flushW word).map _
    unfold flushW
    by_cases h : word = []
    · subst h; rfl
    · rw [if_neg h, if_neg (by simpa using h)]; rfl
  | c :: t, word => by
    rw [List.map_cons]
    by_cases h : partC c = true
    · rw [wordsG_part _ _ _ (by rw [lowD_part]; exact h), wordsG_part _ _ _ h, List.map_append]
      have e := wordsG_low t []
      rw [List.map_nil] at e
      rw [e]
      congr 1
      unfold flushW
      by_cases h' : word = []
      · subst h'; rfl
      · rw [if_neg h', if_neg (by simpa using h')]; rfl
    · have h' : partC c = false := by simpa using h
      rw [wordsG_keep _ _ _ (by rw [lowD_part]; exact h'), wordsG_keep _ _ _ h', ← wordsG_low t (word ++ [c])]
      simp

theorem digN_low : ∀ l : List UInt8, digN (l.map lowD) = digN l
  | [] => rfl
  | c :: t => by
    show (if isD (lowD c) = true then digN (t.map lowD) + 1 else 0) = (if isD c = true then digN t + 1 else 0)
    rw [lowD_isD, digN_low t]

theorem digN_le : ∀ l : List UInt8, digN l ≤ l.length
  | [] => Nat.le_refl _
  | c :: t => by
    show (if isD c = true then digN t + 1 else 0) ≤ t.length + 1
    have := digN_le t
    split <;> omega

theorem take_low : ∀ l : List UInt8, (l.map lowD).take (digN l) = l.take (digN l)
  | [] => rfl
  | c :: t => by
    show (lowD c :: t.map lowD).take (if isD c = true then digN t + 1 else 0) = (c :: t).take (if isD c = true then digN t + 1 else 0)
    by_cases h : isD c = true
    · rw [if_pos h, List.take_succ_cons, List.take_succ_cons, lowD_dig c h, take_low t]
    · rw [if_neg h]; rfl

theorem two12_low (l : List UInt8) : two12 (l.map lowD) = (two12 l).map (fun p => (p.1, p.2.map lowD)) := by
  unfold two12
  rw [digN_low, take_low]
  split
  · rfl
  · simp

theorem colon_cons (c : UInt8) (t : List UInt8) : colon (c :: t) = if (c == 58) = true then some t else none := by
  by_cases h : c = 58
  · subst h; rfl
  · have : (c == 58) = false := by simpa using h
    rw [this]
    unfold colon
    split
    · rename_i heq; injection heq with h1 h2; exact absurd h1 h
    · rfl

theorem colon_low (l : List UInt8) : colon (l.map lowD) = (colon l).map (fun t => t.map lowD) := by
  cases l with
  | nil => rfl
  | cons c t =>
    rw [List.map_cons, colon_cons, colon_cons, lowD_colon]
    split <;> rfl

theorem timeL_low (l : List UInt8) : timeL (l.map lowD) = timeL l := by
  unfold timeL
  rw [two12_low]
  cases two12 l with
  | none => rfl
  | some p =>
    obtain ⟨a, l1⟩ := p
    simp only [Option.map_some]
    rw [colon_low]
    cases colon l1 with
    | none => rfl
    | some l2 =>
      simp only [Option.map_some]
      rw [two12_low]
      cases two12 l2 with
      | none => rfl
      | some p =>
        obtain ⟨b, l3⟩ := p
        simp only [Option.map_some]
        rw [colon_low]
        cases colon l3 with
        | none => rfl
        | some l4 =>
          simp only [Option.map_some]
          rw [two12_low]
          cases two12 l4 with
          | none => rfl
          | some p => rfl

theorem monthL_low (w : List UInt8) : monthL (w.map lowD) = monthL w := by
  unfold monthL
  rw [List.length_map, ← List.map_take, List.map_map]
  have e : lowD ∘ lowD = lowD := by funext c; exact lowD_idem c
  rw [e]

theorem nextF_low (f : Fd) (w : List UInt8) : nextF f (w.map lowD) = nextF f w := by
  unfold nextF
  rw [timeL_low, digN_low, monthL_low, take_low]

theorem cookieL_low (l : List UInt8) : cookieL (l.map lowD) = cookieL l := by
  unfold cookieL wordsL
  have e := wordsG_low l []
  rw [List.map_nil] at e
  rw [e, List.foldl_map]
  congr 2
  funext f w
  exact nextF_low f w

/-! Parting bytes -/

/-- Each parting byte made the bytes 'by'. -/
def partedL (by' : List UInt8) (l : List UInt8) : List UInt8 := l.flatMap fun c => if partC c = true then by' else [c]

theorem wordsG_parted (by' : List UInt8) (hb : by'.all partC = true) (hne : by' ≠ []) : ∀ (l word : List UInt8), wordsG word (partedL by' l) = wordsG word l
  | [], word => rfl
  | c :: t, word => by
    show wordsG word ((if partC c = true then by' else [c]) ++ partedL by' t) = _
    by_cases h : partC c = true
    · rw [if_pos h, wordsG_part word t c h]
      cases by' with
      | nil => exact absurd rfl hne
      | cons p ps =>
        have hb' : partC p = true ∧ ps.all partC = true := by simpa using hb
        rw [List.cons_append, wordsG_part word _ p hb'.1, wordsG_parts ps _ hb'.2, wordsG_parted (p :: ps) hb hne t []]
    · have h' : partC c = false := by simpa using h
      rw [if_neg h, wordsG_keep word t c h', List.singleton_append, wordsG_keep word _ c h', wordsG_parted by' hb hne t _]

theorem cookieL_parted (by' l : List UInt8) (hb : by'.all partC = true) (hne : by' ≠ []) : cookieL (partedL by' l) = cookieL l := by
  unfold cookieL wordsL
  rw [wordsG_parted by' hb hne l []]
end Go.Proofs.YtmmkokomffclmaaDoor

