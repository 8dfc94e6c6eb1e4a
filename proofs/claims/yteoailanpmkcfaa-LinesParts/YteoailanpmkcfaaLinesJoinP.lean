/-
  The program's own Join (package lines): a contract.
-/
import Derived.Test.YteoailanpmkcfaaLinesLine
import Derived.Test.YteoailanpmkcfaaBaseFinds
import Derived.Test.YteoailanpmkcfaaBaseString
namespace Go.Proofs.Yteoailanpmkcfaa
open Go.RowKit
set_option linter.unusedVariables false

/-- What Join holds at place k: the builder in block g. -/
def PJoinAt (l : List ByteArray) (g : Nat) (w0 : World) (i : Value) (wr : World) : Prop :=
  ∃ k : Nat, k ≤ l.length ∧ i = .int .i64 (k : Int) ∧ okLines (l.take k) = true ∧ Bld wr g (joinL (toLs (l.take k))) ∧ Below g w0 wr

theorem joinL_step (l : List ByteArray) (k : Nat) (hk : k < l.length) : (joinL (toLs (l.take k)) ++ l[k].data.toList) ++ [10] = joinL (toLs (l.take (k + 1))) := by
  rw [toLs_take l k hk]
  simp [joinL]

theorem joinL_size (l : List ByteArray) (h : ∀ s ∈ l, s.size ≤ 1000000) : (joinL (toLs l)).length ≤ l.length * 1000001 := by
  have := joinL_len 1000000 (toLs l) (toLs_le _ l h)
  have hl : (toLs l).length = l.length := List.length_map _
  rw [hl] at this
  exact this

theorem joinV_bad (l : List ByteArray) (k : Nat) (hk : k < l.length) (h : okLine l[k].data.toList = false) : joinV l = .tuple #[.string ByteArray.empty, .bool false] := by
  unfold joinV okLines
  rw [all_not okLine l k hk h]
  rfl
theorem joinV_good (l : List ByteArray) (h : okLines l = true) : joinV l = .tuple #[.string ⟨(joinL (toLs l)).toArray⟩, .bool true] := by
  unfold joinV
  rw [if_pos h]
  rfl

set_option maxRecDepth 100000 in
set_option maxHeartbeats 1600000 in
theorem join_any (v : Value) (l : List ByteArray) (w : World) (hv : StrsAt w v l) (hl : l.length ≤ 10000) (hs : ∀ s ∈ l, s.size ≤ 1000000) :
    Calls Try.prog 15 #[v] w fun e w' => e = .returned (joinV l) ∧ Below w.heap.size w w' := by
  obtain ⟨ao, n, cap, rfl, hn, hcell⟩ := hv.shape
  have HC := Lib.hid hcell
  have HSZ := Lib.hid hs
  have n1 : n ≤ l.length := by omega
  have n2 : l.length ≤ n := by omega
  clear hcell hv hn hs
  go_enter Try.func15, Try.ntmps15
  go_wp2
  go_loopw [9] (fun i wr => PJoinAt l w.heap.size w i wr) (fun i _ => n - (intOf i).toNat)
  case atStart => exact ⟨0, by omega, rfl, rfl, Bld.fresh w, (Below.refl _ _).alloc (Nat.le_refl _) _⟩
  case round =>
    obtain ⟨k, hk, rfl, ha, hb, hbe⟩ := hrel
    have hgl := hb.lt
    have HB := Lib.hid hb
    have HA := Lib.hid ha
    clear ha hb
    by_cases hlt : k < l.length
    · obtain ⟨ad, rfl, hcl0⟩ := HC.out k hlt
      have hblk := World.block_lt_of_cell? w _ hcl0
      have hcl : wr.cell? (ad.add k) = some (.string l[k]) := by
        rw [hbe.cell hblk]
        exact hcl0
      have hz := joinL_size (l.take k) (fun s h => HSZ.out s (List.mem_of_mem_take h))
      rw [List.length_take] at hz
      have htz := HSZ.out l[k] (List.getElem_mem hlt)
      have HST := Lib.hid (joinL_step l k hlt)
      have HBAD := Lib.hid (joinV_bad l k hlt)
      have HGOOD : Hid (okLine l[k].data.toList = true → okLines (l.take (k + 1)) = true) := fun h => all_take okLine l k hlt h HA.out
      obtain ⟨t, ht⟩ : ∃ t, t = l[k] := ⟨_, rfl⟩
      rw [← ht] at hcl htz HST HBAD HGOOD
      have HF : Hid (okLine t.data.toList = (!t.data.toList.contains 10 && !(t.data.toList.getLast? == some 13))) := rfl
      have k0 : (k : Int) < (n : Int) := by omega
      have htm : t.size ≤ 9223372036854775807 := by omega
      have HZ := Lib.hid hz
      clear ht hz hcl0 hblk
      cases h10 : t.data.toList.contains 10 with
      | true =>
        have H10 := Lib.hid h10
        have HE : Hid (joinV l = .tuple #[.string ByteArray.empty, .bool false]) := HBAD.out (by rw [HF.out, H10.out]; rfl)
        clear h10 HBAD HGOOD HF HZ
        go_wp2_with (go_at_call 31; refine (contains_at t 10 true _ H10.out).mono ?_; rintro _ w1 ⟨rfl, rfl⟩)
        go_ret2
        rw [HE.out]
        exact ⟨rfl, hbe⟩
      | false =>
        have H10 := Lib.hid h10
        clear h10
        cases h13 : (t.data.toList.getLast? == some 13) with
        | true =>
          have H13 := Lib.hid h13
          have HE : Hid (joinV l = .tuple #[.string ByteArray.empty, .bool false]) := HBAD.out (by rw [HF.out, H10.out, H13.out]; rfl)
          clear h13 HBAD HGOOD HF HZ
          go_wp2_with (first
            | (go_at_call 31; refine (contains_at t 10 false _ H10.out).mono ?_; rintro _ w1 ⟨rfl, rfl⟩)
            | (go_at_call 32; refine (suffix_at t 13 true _ htm H13.out).mono ?_; rintro _ w1 ⟨rfl, rfl⟩))
          go_ret2
          rw [HE.out]
          exact ⟨rfl, hbe⟩
        | false =>
          have H13 := Lib.hid h13
          have HE : Hid (okLines (l.take (k + 1)) = true) := HGOOD.out (by rw [HF.out, H10.out, H13.out]; rfl)
          clear h13 HBAD HGOOD HF
          go_wp2_with (first
            | (go_at_call 31; refine (contains_at t 10 false _ H10.out).mono ?_; rintro _ w1 ⟨rfl, rfl⟩)
            | (go_at_call 32; refine (suffix_at t 13 false _ htm H13.out).mono ?_; rintro _ w1 ⟨rfl, rfl⟩)
            | fail)
          refine (wstr_any w.heap.size _ t _ HB.out (by have := HZ.out; omega)).mono ?_
          rintro _ w1 ⟨rfl, hb1, hbe1⟩
          have HB1 := Lib.hid hb1
          clear hb1 HB
          go_wp2_with fail
          refine (wbyte_any w.heap.size _ 10 _ _ rfl HB1.out (by rw [List.length_append, list_len]; have := HZ.out; omega)).mono ?_
          rintro _ w2 ⟨rfl, hb2, hbe2⟩
          rw [HST.out] at hb2
          have HB2 := Lib.hid hb2
          have hbe3 := (hbe.trans hbe1).trans hbe2
          clear hb2 HB1 HZ HST hbe hbe1 hbe2
          go_wp2
          go_roundw
          case rel => exact ⟨k + 1, by omega, by go_num, HE.out, HB2.out, hbe3⟩
          case measure => simp [intOf]; omega
    · have e : l.take k = l := List.take_of_length_le (by omega)
      have HE := Lib.hid (joinV_good l (by rw [← e]; exact HA.out))
      rw [e] at HB
      clear e HA
      go_wp2_with fail
      refine (bstring_any w.heap.size _ _ HB.out).mono ?_
      rintro _ w1 ⟨rfl, hb1⟩
      go_wp2
      go_ret2
      rw [HE.out]
      exact ⟨rfl, hbe.trans hb1⟩
end Go.Proofs.Yteoailanpmkcfaa
