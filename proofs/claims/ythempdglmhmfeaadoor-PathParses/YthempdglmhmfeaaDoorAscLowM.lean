/-
  Small letters, plain.
-/
import Derived.Test.YthempdglmhmfeaaDoorBase
namespace Go.Proofs.YthempdglmhmfeaaDoor
open Go.RowKit
set_option linter.unusedVariables false

/-- The small letter in place of a great one. -/
def lowC (c : UInt8) : UInt8 := if 65 ≤ c.toNat ∧ c.toNat ≤ 90 then c + 32 else c

def lowB (s : ByteArray) : ByteArray := ⟨(s.data.toList.map lowC).toArray⟩

/-- The first k of a, then b's. -/
def mixed (a b : List UInt8) (k : Nat) : List UInt8 := a.take k ++ b.drop k

theorem mixed_len (a b : List UInt8) (k : Nat) (h : a.length = b.length) (hk : k ≤ a.length) : (mixed a b k).length = a.length := by
  simp [mixed]; omega

theorem mixed_set (a b : List UInt8) (k : Nat) (h : a.length = b.length) (hk : k < a.length) : (mixed a b k).set k a[k] = mixed a b (k + 1) := by
  apply List.ext_getElem
  · simp [mixed]; omega
  · intro j h1 h2
    simp only [mixed, List.getElem_set, List.getElem_append, List.length_take, List.getElem_take, List.getElem_drop]
    by_cases e : k = j
    · subst e
      simp; omega
    · rw [if_neg e]
      by_cases e2 : j < k
      · rw [dif_pos (by omega), dif_pos (by omega)]
      · rw [dif_neg (by omega), dif_neg (by omega)]
        congr 1
        omega

theorem mixed_all (a b : List UInt8) (h : a.length = b.length) : mixed a b a.length = a := by
  unfold mixed
  rw [List.take_length, List.drop_of_length_le (by omega), List.append_nil]

theorem mixed_at (a b : List UInt8) (k : Nat) (h : a.length = b.length) (hk : k < b.length) (hm : k < (mixed a b k).length) : (mixed a b k)[k] = b[k] := by
  simp only [mixed, List.getElem_append, List.length_take, List.getElem_drop]
  rw [dif_neg (by omega)]
  congr 1
  omega

theorem mixed_keep (a b : List UInt8) (k : Nat) (h : a.length = b.length) (hk : k < a.length) (he : a[k] = b[k]'(by omega)) : mixed a b (k + 1) = mixed a b k := by
  rw [← mixed_set a b k h hk, he, ← mixed_at a b k h (by omega) (by rw [mixed_len a b k h (by omega)]; omega), List.set_getElem_self]

theorem lowC_up (c : UInt8) (h1 : 65 ≤ c.toNat) (h2 : c.toNat ≤ 90) : ((lowC c).toNat : Int) = (c.toNat : Int) + 32 := by
  have e : lowC c = c + 32 := by unfold lowC; rw [if_pos ⟨h1, h2⟩]
  rw [e, UInt8.toNat_add]
  simp
  omega

theorem lowC_not (c : UInt8) (h : ¬ (65 ≤ c.toNat ∧ c.toNat ≤ 90)) : lowC c = c := by unfold lowC; rw [if_neg h]

theorem lowB_size (s : ByteArray) : (lowB s).size = s.size := by
  show (s.data.toList.map lowC).toArray.size = s.size
  simp

theorem lowC_idem (c : UInt8) : lowC (lowC c) = lowC c := by
  by_cases h : 65 ≤ c.toNat ∧ c.toNat ≤ 90
  · have e := lowC_up c h.1 h.2
    exact lowC_not _ (by omega)
  · rw [lowC_not c h, lowC_not c h]

theorem lowB_idem (s : ByteArray) : lowB (lowB s) = lowB s := by
  unfold lowB
  simp [lowC_idem]

theorem lowB_list (s : ByteArray) : (lowB s).toList = s.toList.map lowC := by
  rw [ByteArray.toList_eq s]
  exact ByteArray.toList_mk _
end Go.Proofs.YthempdglmhmfeaaDoor
