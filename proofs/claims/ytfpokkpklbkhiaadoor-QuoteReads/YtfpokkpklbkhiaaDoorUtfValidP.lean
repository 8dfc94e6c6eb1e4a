/-
  The program's Valid and Runes (package utf), which range over a text: contracts.
-/
import Derived.Test.YtfpokkpklbkhiaaDoorUtfTakeP
import Derived.Lib.OthersKept
namespace Go.Proofs.YtfpokkpklbkhiaaDoor
open Go.RowKit
set_option linter.unusedVariables false

theorem rest_list (s : ByteArray) (p : Nat) : (s.extract p s.size).data.toList = s.data.toList.drop p := by
  rw [extract_list, List.take_of_length_le (by rw [List.length_drop, list_len]; omega)]

/-- The text s is gone through up to its place p, and had the letters rs. -/
def Gone (s : ByteArray) (p : Nat) (rs : List Nat) : Prop := p ≤ s.size ∧ rs.length ≤ p ∧ s.data.toList = textU rs ++ (s.extract p s.size).data.toList ∧ letters rs

theorem gone_nil (s : ByteArray) : Gone s 0 [] := ⟨Nat.zero_le _, Nat.le_refl _, by rw [rest_list]; simp [textU], fun r hr => absurd hr List.not_mem_nil⟩

theorem gone_end (s : ByteArray) (p : Nat) (rs : List Nat) (h : Gone s p rs) (hp : ¬ p < s.size) : runesU s.data.toList = some rs :=
  runes_end s _ rs h.2.2.1 h.2.2.2 (by rw [ByteArray.size_extract]; omega)

theorem gone_no (s : ByteArray) (p : Nat) (rs : List Nat) (h : Gone s p rs) (hp : p < s.size) (r n : Nat) (ht : takeU (s.extract p s.size).data.toList = (r, n, false)) : runesU s.data.toList = none ∧ Utf8.decode s p = (65533, 1) := by
  refine ⟨runes_stop s _ rs r n h.2.2.1 h.2.2.2 (by rw [ByteArray.size_extract]; omega) ht, ?_⟩
  rw [decode_take s p hp, ← rest_list, ht]
  rfl

theorem gone_yes (s : ByteArray) (p : Nat) (rs : List Nat) (h : Gone s p rs) (hp : p < s.size) (r n : Nat) (ht : takeU (s.extract p s.size).data.toList = (r, n, true)) :
    Gone s (p + n) (rs ++ [r]) ∧ Utf8.decode s p = (r, n) ∧ 1 ≤ n ∧ p + n ≤ s.size ∧ r ≤ 1114111 := by
  obtain ⟨q1, q2, q3, q4, q5, q6⟩ := runes_step s _ rs r n h.2.2.1 h.2.2.2 ht
  have e4 : p + n ≤ s.size := by
    rw [ByteArray.size_extract] at q4
    omega
  refine ⟨⟨e4, ?_, ?_, q2⟩, ?_, q3, e4, q6⟩
  · have := h.2.1
    rw [List.length_append]
    simp
    omega
  · have e : ((s.extract p s.size).extract n (s.extract p s.size).size).data.toList = (s.extract (p + n) s.size).data.toList := by
      rw [rest_list, rest_list, rest_list, List.drop_drop]
    rw [← e]
    exact q1
  · rw [decode_take s p hp, ← rest_list, ht]
    rfl

/-- What the loop of Valid holds: the range's own place is in block g. -/
def ValidAt (s : ByteArray) (g : Nat) (w0 : World) (gk : Nat) (wr : World) : Prop :=
  ∃ (p : Nat) (rs : List Nat), p + gk = s.size ∧ Gone s p rs ∧ wr.heap[g]? = some (.stringIter s p) ∧ Below g w0 wr

theorem iter_keep {w w' : World} {k p : Nat} {s : ByteArray} (h : w.heap[k]? = some (.stringIter s p)) (hb : Below w.heap.size w w') : w'.heap[k]? = some (.stringIter s p) := by
  rw [hb.block k (Array.getElem?_eq_some_iff.1 h).1]
  exact h

theorem valid_yes {s : ByteArray} {rs : List Nat} (h : runesU s.data.toList = some rs) : validB s = true := by unfold validB; rw [h]; rfl
theorem valid_no {s : ByteArray} (h : runesU s.data.toList = none) : validB s = false := by unfold validB; rw [h]; rfl

set_option maxRecDepth 100000 in
set_option maxHeartbeats 1600000 in
theorem valid_any (s : ByteArray) (w : World) (hT : Tabs w) (hs : s.size ≤ 1000000000000) :
    Calls Tryd.prog 17 #[.string s] w fun e w' => e = .returned (.bool (validB s)) ∧ Below w.heap.size w w' := by
  go_enter Tryd.func17, Tryd.ntmps17
  go_wp2
  go_loopg [] s.size (fun gk wr => ValidAt s w.heap.size w gk wr)
  case atStart => exact ⟨0, [], by omega, gone_nil s, World.iter_heap w s 0, (Below.refl _ _).alloc (Nat.le_refl _) _⟩
  case round =>
    obtain ⟨p, rs, hgk, hgo, hit, hbe⟩ := hrel
    have HG := Lib.hid hgo
    have z1 : p ≤ s.size := hgo.1
    clear hgo
    by_cases hp : p < s.size
    · obtain ⟨r, n, b, ht⟩ : ∃ r n b, takeU (s.extract p s.size).data.toList = (r, n, b) := ⟨_, _, _, rfl⟩
      have hnx := fun ty => Lib.run_next_any_at (P := Tryd.prog) wr w.heap.size s p ty hit hp
      cases b with
      | false =>
        obtain ⟨hno, hd⟩ := gone_no s p rs HG.out hp r n ht
        rw [hd] at hnx
        have hb2 := Lib.below_iterAt hbe (k := w.heap.size) (Nat.le_refl _) s (p + 1)
        obtain ⟨W1, hW1⟩ : ∃ W1, W1 = wr.iterAt w.heap.size s (p + 1) := ⟨_, rfl⟩
        rw [← hW1] at hnx hb2
        have HV := Lib.hid (valid_no hno)
        have HB : Hid ((takeU (s.extract p s.size).data.toList).2.2 = false) := by show _ = _; rw [ht]
        clear hW1 hit hd hno ht HG hbe
        go_wp2_with fail
        refine (begins_any _ false _ (hT.keep hb2) HB.out).mono ?_
        rintro _ w2 ⟨rfl, hb⟩
        have hb1 := hb2.trans (hb.mono hb2.size)
        clear hb hb2
        go_wp2
        go_ret
        exact ⟨ret_bool HV.out.symm, hb1⟩
      | true =>
        obtain ⟨g1, hd, g3, g4, g5⟩ := gone_yes s p rs HG.out hp r n ht
        rw [hd] at hnx
        have hit2 := Lib.iterAt_heap wr w.heap.size s p (p + n) hit
        have hb2 := Lib.below_iterAt hbe (k := w.heap.size) (Nat.le_refl _) s (p + n)
        obtain ⟨W1, hW1⟩ : ∃ W1, W1 = wr.iterAt w.heap.size s (p + n) := ⟨_, rfl⟩
        rw [← hW1] at hnx hit2 hb2
        have G1 := Lib.hid g1
        have HI := Lib.hid hit2
        have HB : Hid ((takeU (s.extract p s.size).data.toList).2.2 = true) := by show _ = _; rw [ht]
        clear hW1 hit hd g1 ht HG hbe hit2
        by_cases h3 : r = 65533
        · subst h3
          go_wp2_with fail
          refine (begins_any _ true _ (hT.keep hb2) HB.out).mono ?_
          rintro _ w2 ⟨rfl, hb⟩
          have hb1 := hb2.trans (hb.mono hb2.size)
          have hi2 := iter_keep HI.out hb
          clear hb hb2 HI HB
          go_wp2
          go_roundg (gk - n)
          case measure => omega
          case rel => exact ⟨p + n, rs ++ [65533], by omega, G1.out, hi2, hb1⟩
        · have d0 : ((r : Int) == 65533) = false := by rw [beq_eq_false_iff_ne]; omega
          clear HB
          go_wp2
          go_roundg (gk - n)
          case measure => omega
          case rel => exact ⟨p + n, rs ++ [r], by omega, G1.out, HI.out, hb2⟩
    · have hnx := fun ty => Lib.run_next_end_at (P := Tryd.prog) wr w.heap.size s p ty hit hp
      have HV := Lib.hid (valid_yes (gone_end s p rs HG.out hp))
      clear HG hit
      go_wp2
      go_ret
      exact ⟨ret_bool HV.out.symm, hbe⟩
end Go.Proofs.YtfpokkpklbkhiaaDoor
