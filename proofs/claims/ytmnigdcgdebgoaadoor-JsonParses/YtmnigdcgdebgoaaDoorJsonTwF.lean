/-
  Facts of the statement on objects that have a key twice: plain facts.
-/
import Derived.Test.YtmnigdcgdebgoaaDoorJsF
import Derived.Test.YtmnigdcgdebgoaaDoorJsH
namespace Go.Proofs.YtmnigdcgdebgoaaDoor
set_option linter.unusedVariables false

theorem okThen_err {α : Type} (e : Nat) (he : e ≠ 0) (a : α) (r : List UInt8) (f : α → List UInt8 → Nat × List It × List UInt8) : okThen (e, a, r) f = (e, [], []) := by
  unfold okThen
  rw [if_neg he]
theorem key_twice (keys : List (List UInt8)) (k b : List UInt8) (hv : validL k) (hk : k ∈ keys) : keyF keys (quoteL k ++ 58 :: b) = (82, [], []) := by
  have e1 : skipL (quoteL k ++ 58 :: b) = quoteL k ++ 58 :: b := skip_not 34 _ (by decide)
  have hc : keys.contains k = true := by simpa using hk
  unfold keyF
  rw [e1, quot_back k _ hv]
  simp only [hc]
  rfl
theorem numJ_ahead (n : Int) (h1 : -9223372036854775808 ≤ n) (h2 : n ≤ 9223372036854775807) (f d : Nat) (key b : List UInt8) (hb : Stop b) : valueF readD (f + 1) d key (printL n ++ b) = (0, [⟨d, 4, key, [], n⟩], b) := by
  have h := J.back numFair (.num n) (f + 1) d key b (by rw [J.size]; omega) (by rw [J.good]; exact ⟨h1, h2⟩) hb
  rw [J.text, J.rows] at h
  exact h

theorem list_twice (k : List UInt8) (hv : validL k) (n : Int) (h1 : -9223372036854775808 ≤ n) (h2 : n ≤ 9223372036854775807) (f : Nat) (b : List UInt8) :
    listF readD (f + 3) 2 true [] (quoteL k ++ 58 :: (printL n ++ 44 :: (quoteL k ++ 58 :: b))) = (82, [], []) := by
  rw [listF, if_pos rfl, key_back [] k _ hv (by simp), okThen_ok, numJ_ahead n h1 h2 (f + 1) 2 k _ (comma_stop _), okThen_ok]
  have e : skipL (44 :: (quoteL k ++ 58 :: b)) = 44 :: (quoteL k ++ 58 :: b) := skip_not _ _ (by decide)
  rw [e]
  show (if (44 : UInt8) = shutO true then _ else if (44 : UInt8).toNat = 44 then _ else _) = _
  rw [if_neg (by decide), if_pos (by decide), listF, if_pos rfl, key_twice ([] ++ [k]) k _ hv (by simp), okThen_err 82 (by decide), okThen_err 82 (by decide)]

/-- An object that has a key twice, in an array. -/
theorem parse_twice (k : List UInt8) (hv : validL k) (n : Int) (h1 : -9223372036854775808 ≤ n) (h2 : n ≤ 9223372036854775807) (b : List UInt8) :
    parseL readD (91 :: 123 :: (quoteL k ++ 58 :: (printL n ++ 44 :: (quoteL k ++ 58 :: b)))) = (82, []) := by
  obtain ⟨X, hX⟩ : ∃ X, quoteL k ++ 58 :: (printL n ++ 44 :: (quoteL k ++ 58 :: b)) = X := ⟨_, rfl⟩
  have hl : ∀ f, listF readD (f + 3) 2 true [] X = (82, [], []) := fun f => by rw [← hX]; exact list_twice k hv n h1 h2 f b
  have hh : (skipL X).head? ≠ some (shutO true) := by
    rw [← hX]
    have e : skipL (quoteL k ++ 58 :: (printL n ++ 44 :: (quoteL k ++ 58 :: b))) = quoteL k ++ 58 :: (printL n ++ 44 :: (quoteL k ++ 58 :: b)) := skip_not 34 _ (by decide)
    rw [e]
    show some (34 : UInt8) ≠ some (shutO true)
    decide
  rw [hX]
  have hv1 : ∀ f, valueF readD (f + 4) 1 [] (123 :: X) = (82, [], []) := fun f => by
    rw [value_cons readD (f + 3) 1 [] (123 :: X) 123 X (skip_not _ _ (by decide)), if_pos (by decide), if_neg (by decide)]
    show (if (skipL X).head? = some (shutO true) then _ else okThen (listF readD (f + 3) 2 true [] X) _) = _
    rw [if_neg hh, hl f, okThen_err 82 (by decide)]
  have hv0 : ∀ f, valueF readD (f + 6) 0 [] (91 :: 123 :: X) = (82, [], []) := fun f => by
    rw [value_cons readD (f + 5) 0 [] (91 :: 123 :: X) 91 (123 :: X) (skip_not _ _ (by decide)), if_pos (by decide), if_neg (by decide)]
    have e : skipL (123 :: X) = 123 :: X := skip_not _ _ (by decide)
    rw [e]
    show (if (some (123 : UInt8)) = some (shutO false) then _ else okThen (listF readD (f + 5) 1 false [] (123 :: X)) _) = _
    rw [if_neg (by decide), listF]
    simp only [Bool.false_eq_true, if_false]
    rw [okThen_ok, hv1 f, okThen_err 82 (by decide), okThen_err 82 (by decide)]
  unfold parseL
  have e : 2 * (91 :: 123 :: X).length + 2 = 2 * X.length + 6 := by simp only [List.length_cons]; omega
  rw [e, hv0]
  rfl

/-- One that has it, and holds one that has it. -/
theorem parse_within (k : List UInt8) (hv : validL k) (n : Int) (h1 : -9223372036854775808 ≤ n) (h2 : n ≤ 9223372036854775807) :
    parseL readD (123 :: (quoteL k ++ [58, 123] ++ (quoteL k ++ [58] ++ printL n) ++ [125, 125])) = (0, [⟨0, 7, [], [], 0⟩, ⟨1, 7, k, [], 0⟩, ⟨2, 4, k, [], n⟩]) := by
  have h := parse_text (.node true (.cons k (.node true (.cons k (.num n) .nil)) .nil)) (by
    simp only [J.good, Js.good, Js.keys]
    exact ⟨by decide, fun _ => by simp, fun _ => hv, (fun h => by cases h), ⟨by decide, fun _ => by simp, fun _ => hv, (fun h => by cases h), ⟨h1, h2⟩, trivial⟩, trivial⟩)
  have e : J.text printL (.node true (.cons k (.node true (.cons k (.num n) .nil)) .nil)) = 123 :: (quoteL k ++ [58, 123] ++ (quoteL k ++ [58] ++ printL n) ++ [125, 125]) := by
    simp [J.text, Js.text, openO, shutO]
  rw [e] at h
  rw [h]
  simp [J.rows, Js.rows, kindO]
end Go.Proofs.YtmnigdcgdebgoaaDoor
