/-
  Sums of one text.
-/
import Derived.Test.YtbgombgcjfemmaaCrcFns
namespace Go.Proofs.Ytbgombgcjfemmaa
open Go.RowKit
set_option linter.unusedVariables false

theorem at_sum1 {s : ByteArray} (W : World) (h : s.size ≤ 140737488351232) :
    Calls Try.prog 16 #[.slice (some ⟨W.heap.size, 0, none⟩) 1 1] (W.alloc (.cells #[.string s] 9)) fun e w' => e = .returned (.int .u32 (sumB s : Int)) ∧ Below W.heap.size W w' := by
  refine (sum_any _ [s] _ (strs_one W s) (by simp) (by simpa using h)).mono ?_
  rintro _ w1 ⟨rfl, hb⟩
  rw [cat_one]
  exact ⟨rfl, ((Below.refl _ _).alloc (Nat.le_refl _) _).trans (hb.mono (by simp))⟩

theorem at_tail1 {s : ByteArray} (W : World) (h : s.size ≤ 140737488351232) :
    Calls Try.prog 15 #[.slice (some ⟨W.heap.size, 0, none⟩) 1 1] (W.alloc (.cells #[.string s] 9)) fun e w' => e = .returned (.string (tailB s)) ∧ Below W.heap.size W w' := by
  refine (tail_any _ [s] _ (strs_one W s) (by simp) (by simpa using h)).mono ?_
  rintro _ w1 ⟨rfl, hb⟩
  rw [cat_one]
  exact ⟨rfl, ((Below.refl _ _).alloc (Nat.le_refl _) _).trans (hb.mono (by simp))⟩

theorem right_tail (s : ByteArray) : rightB (s ++ tailB s) = true := by
  have hz : (s ++ tailB s).size = s.size + 4 := by rw [ByteArray.size_append, tailB_size]
  have e1 : (s ++ tailB s).extract ((s ++ tailB s).size - 4) (s ++ tailB s).size = tailB s := by
    apply ba_ext
    have hl := list_len s
    have ht := list_len (tailB s)
    rw [tailB_size] at ht
    rw [extract_list, app_list, hz, show s.size + 4 - 4 = s.data.toList.length by omega, List.drop_left, List.take_of_length_le (by omega)]
  have e2 : (s ++ tailB s).extract 0 ((s ++ tailB s).size - 4) = s := by
    apply ba_ext
    have hl := list_len s
    rw [extract_list, app_list, hz, List.drop_zero, show s.size + 4 - 4 - 0 = s.data.toList.length by omega, List.take_left]
  unfold rightB
  rw [e1, e2, hz]
  simp
theorem at_sumL {v : Value} {l : List ByteArray} {W : ByteArray} (w : World) (hv : StrsAt w v l) (hl : l.length ≤ 1000) (hs : ∀ s ∈ l, s.size ≤ 140737488351232) (hW : catB l = W) :
    Calls Try.prog 16 #[v] w fun e w' => e = .returned (.int .u32 (sumB W : Int)) ∧ Below w.heap.size w w' := hW ▸ sum_any v l w hv hl hs

theorem at_tailL {v : Value} {l : List ByteArray} {W : ByteArray} (w : World) (hv : StrsAt w v l) (hl : l.length ≤ 1000) (hs : ∀ s ∈ l, s.size ≤ 140737488351232) (hW : catB l = W) :
    Calls Try.prog 15 #[v] w fun e w' => e = .returned (.string (tailB W)) ∧ Below w.heap.size w w' := hW ▸ tail_any v l w hv hl hs

theorem at_sum2 {s t : ByteArray} (W : World) (h1 : s.size ≤ 140737488351232) (h2 : t.size ≤ 140737488351232) :
    Calls Try.prog 16 #[.slice (some ⟨W.heap.size, 0, none⟩) 2 2] (W.alloc (.cells #[.string s, .string t] 9)) fun e w' => e = .returned (.int .u32 (sumB (s ++ t) : Int)) ∧ Below W.heap.size W w' := by
  refine (sum_any _ [s, t] _ (strs_two W s t) (by simp) (by
    intro x hx
    rcases List.mem_cons.1 hx with rfl | hx
    · exact h1
    · rw [List.mem_singleton.1 hx]
      exact h2)).mono ?_
  rintro _ w1 ⟨rfl, hb⟩
  rw [cat_two]
  exact ⟨rfl, ((Below.refl _ _).alloc (Nat.le_refl _) _).trans (hb.mono (by simp))⟩

theorem sum_none : sumB (catB []) = 0 := by decide +kernel

theorem at_sum0 (w : World) : Calls Try.prog 16 #[.slice none 0 0] w fun e w' => e = .returned (.int .u32 0) ∧ Below w.heap.size w w' := by
  have h := sum_any _ [] w (StrsAt.nil w) (by simp) (by simp)
  rw [sum_none] at h
  exact h

/-- The sum's own bits. -/
def stB (s : ByteArray) : Nat := crcSt ones32 s.data.toList

theorem stB_lt (s : ByteArray) : stB s < 4294967296 := crcSt_lt _ _ (by decide)

theorem max_u32 : IntKind.u32.max = 4294967295 := by decide

theorem not_sum (s : ByteArray) : bits .xor .u32 IntKind.u32.max (sumB s : Int) = (stB s : Int) := by
  rw [max_u32]
  have h := xor_u32 4294967295 (sumB s) (by decide) (sumB_lt s)
  refine h.trans ?_
  have e : 4294967295 ^^^ sumB s = stB s := by
    unfold sumB crcSum stB ones32
    rw [Nat.xor_comm, Nat.xor_assoc, Nat.xor_self, Nat.xor_zero]
  rw [e]

theorem not_step (s : ByteArray) (c : UInt8) : bits .xor .u32 IntKind.u32.max (crcStep (stB s) c.toNat : Int) = (sumB (s ++ ⟨#[c]⟩) : Int) := by
  rw [max_u32]
  have hlt : crcStep (stB s) c.toNat < 4294967296 := crcN_lt 8 _ (Nat.xor_lt_two_pow (n := 32) (stB_lt s) (by have := c.toNat_lt; omega))
  have h := xor_u32 4294967295 _ (by decide) hlt
  refine h.trans ?_
  have e : 4294967295 ^^^ crcStep (stB s) c.toNat = sumB (s ++ ⟨#[c]⟩) := by
    unfold sumB crcSum stB
    rw [app_list, crcSt_append, Nat.xor_comm]
    rfl
  rw [e]
end Go.Proofs.Ytbgombgcjfemmaa
