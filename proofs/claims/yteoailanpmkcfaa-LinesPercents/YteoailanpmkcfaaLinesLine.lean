/-
  The document's own Join (package cracknelref06): its contract.
-/
import Derived.Test.YteoailanpmkcfaaLinesJoin
import Derived.Test.YteoailanpmkcfaaBaseDraw
namespace Go.Proofs.Yteoailanpmkcfaa
open Go.RowKit
set_option linter.unusedVariables false

set_option maxRecDepth 100000 in
set_option maxHeartbeats 1600000 in
theorem rjoin_any (v : Value) (l : List ByteArray) (w : World) (hv : StrsAt w v l) (hl : l.length ≤ 10000) (hs : ∀ s ∈ l, s.size ≤ 1000000) :
    Calls Try.prog 16 #[v] w fun e w' => e = .returned (joinV l) ∧ Below w.heap.size w w' := by
  obtain ⟨ao, n, cap, rfl, hn, hcell⟩ := hv.shape
  have HC := Lib.hid hcell
  have HSZ := Lib.hid hs
  have n1 : n ≤ l.length := by omega
  have n2 : l.length ≤ n := by omega
  clear hcell hv hn hs
  go_enter Try.func16, Try.ntmps16
  go_wp2
  go_loopw [4, 5] (fun out i wr => JoinAt l w.heap.size w out i wr) (fun _ i _ => n - (intOf i).toNat)
  case atStart => exact ⟨0, by omega, rfl, rfl, rfl, Below.refl _ _⟩
  case round =>
    obtain ⟨k, hk, rfl, rfl, ha, hbe⟩ := hrel
    have HA := Lib.hid ha
    clear ha
    by_cases hlt : k < l.length
    · obtain ⟨ad, rfl, hcl0⟩ := HC.out k hlt
      have hblk := World.block_lt_of_cell? w _ hcl0
      have hcl : wr.cell? (ad.add k) = some (.string l[k]) := by
        rw [hbe.cell hblk]
        exact hcl0
      have hz := joinB_size (l.take k) (fun s h => HSZ.out s (List.mem_of_mem_take h))
      rw [List.length_take] at hz
      have htz := HSZ.out l[k] (List.getElem_mem hlt)
      have HST := Lib.hid (join_step l k hlt)
      obtain ⟨t, ht⟩ : ∃ t, t = l[k] := ⟨_, rfl⟩
      obtain ⟨o, ho⟩ : ∃ o, o = joinB (l.take k) := ⟨_, rfl⟩
      rw [← ht] at hcl htz
      rw [← ho] at hz ⊢
      have HT := Lib.hid ht
      have HO := Lib.hid ho
      have hss1 : o.size + t.size ≤ 9223372036854775807 := by omega
      have hss2 : o.size + t.size + 1 ≤ 9223372036854775807 := by omega
      have htm : t.size ≤ maxLen := by unfold maxLen; omega
      have hx : ∀ x : Ext wr, x.world.cell? (ad.add k) = some (.string t) := fun x => by
        rw [x.cell _ (World.block_lt_of_cell? wr _ hcl)]
        exact hcl
      have HXX := Lib.hid hx
      clear ht ho HC hcl0 hz HSZ hcl htz hblk hx
      have k0 : (k : Int) < (n : Int) := by omega
      have HBAD : Hid (okLine t.data.toList = false → joinV l = .tuple #[.string ByteArray.empty, .bool false]) := by
        show _ → _
        intro h
        rw [HT.out] at h
        unfold joinV okLines
        rw [all_not okLine l k hlt h]
        rfl
      have HGOOD : Hid (okLine t.data.toList = true → okLines (l.take (k + 1)) = true) := by
        show _ → _
        intro h
        rw [HT.out] at h
        exact all_take okLine l k hlt h HA.out
      have HF : Hid (okLine t.data.toList = (!hasC t 10 && !(t.data.toList.getLast? == some 13))) := rfl
      have HM := Lib.hid htm
      clear HA htm
      cases h10 : hasC t 10 with
      | true =>
        have HE : Hid (joinV l = .tuple #[.string ByteArray.empty, .bool false]) := HBAD.out (by rw [HF.out, h10]; rfl)
        have H10 := Lib.hid h10
        clear HBAD HGOOD HF h10
        go_wp2_with fail
        have hx := HXX.out
        refine wp_region_ext (by kernel_rfl) (by kernel_rfl) ?_
        repeat (go_big_quiet_step (first
          | (go_at_call 36; refine (at_rhas t 10 _ true _ rfl HM.out H10.out).mono ?_; rintro _ w1 ⟨rfl, hb1⟩; exact ⟨rfl, Ext.same _ hb1⟩)))
        refine wpQuiet_nil ?_
        rintro _ ⟨x, rfl⟩
        have hb1 := hbe.trans (x.below.mono hbe.size)
        go_wp2
        go_ret2
        rw [HE.out]
        exact ⟨rfl, hb1⟩
      | false =>
        have H10 := Lib.hid h10
        clear h10
        rcases Nat.eq_zero_or_pos t.size with h0 | h0
        · have HE : Hid (okLines (l.take (k + 1)) = true) := HGOOD.out (by rw [HF.out, H10.out, last_none t h0]; rfl)
          have z1 : ¬ 0 < t.size := by omega
          have z2 : decide (0 < t.size) = false := by simpa using z1
          clear HBAD HGOOD HF h0
          go_wp2_with fail
          have hx := HXX.out
          refine wp_region_ext (by kernel_rfl) (by kernel_rfl) ?_
          repeat (go_big_quiet_step (first
            | (go_at_call 36; refine (at_rhas t 10 _ false _ rfl HM.out H10.out).mono ?_; rintro _ w1 ⟨rfl, hb1⟩; exact ⟨rfl, Ext.same _ hb1⟩)))
          refine wpQuiet_nil ?_
          rintro _ ⟨x, rfl⟩
          have hb1 := hbe.trans (x.below.mono hbe.size)
          have hcx := hx x
          clear hx
          go_wp2
          go_roundw
          case rel => exact ⟨k + 1, by omega, by rw [HST.out, ← HO.out, ← HT.out], by go_num, HE.out, hb1⟩
          case measure => simp [intOf]; omega
        · by_cases h13 : t[t.size - 1] = 13
          · have HE : Hid (joinV l = .tuple #[.string ByteArray.empty, .bool false]) := HBAD.out (by rw [HF.out, H10.out, last_list t h0, h13]; rfl)
            have hj := u8_is h13 13 rfl
            have c1 : ((t.size : Int) - 1) = ((t.size - 1 : Nat) : Int) := by omega
            have i1 : t.size - 1 < t.size := by omega
            clear HBAD HGOOD HF h13
            go_wp2_with fail
            have hx := HXX.out
            refine wp_region_ext (by kernel_rfl) (by kernel_rfl) ?_
            repeat (go_big_quiet_step (first
              | (go_at_call 36; refine (at_rhas t 10 _ false _ rfl HM.out H10.out).mono ?_; rintro _ w1 ⟨rfl, hb1⟩; exact ⟨rfl, Ext.same _ hb1⟩)))
            refine wpQuiet_nil ?_
            rintro _ ⟨x, rfl⟩
            have hb1 := hbe.trans (x.below.mono hbe.size)
            go_wp2
            go_ret2
            rw [HE.out]
            exact ⟨rfl, hb1⟩
          · have HE : Hid (okLines (l.take (k + 1)) = true) := HGOOD.out (by
              rw [HF.out, H10.out, last_list t h0]
              simpa using h13)
            have hj := u8_isnt h13 13 rfl
            have hj2 : ((t[t.size - 1].toNat : Int) == 13) = false := by simpa using hj
            have c1 : ((t.size : Int) - 1) = ((t.size - 1 : Nat) : Int) := by omega
            have i1 : t.size - 1 < t.size := by omega
            clear HBAD HGOOD HF h13
            go_wp2_with fail
            have hx := HXX.out
            refine wp_region_ext (by kernel_rfl) (by kernel_rfl) ?_
            repeat (go_big_quiet_step (first
              | (go_at_call 36; refine (at_rhas t 10 _ false _ rfl HM.out H10.out).mono ?_; rintro _ w1 ⟨rfl, hb1⟩; exact ⟨rfl, Ext.same _ hb1⟩)))
            refine wpQuiet_nil ?_
            rintro _ ⟨x, rfl⟩
            have hb1 := hbe.trans (x.below.mono hbe.size)
            have hcx := hx x
            clear hx
            go_wp2
            go_roundw
            case rel => exact ⟨k + 1, by omega, by rw [HST.out, ← HO.out, ← HT.out], by go_num, HE.out, hb1⟩
            case measure => simp [intOf]; omega
    · have ek : l.take k = l := List.take_of_length_le (by omega)
      have HE : Hid (joinV l = .tuple #[.string (joinB l), .bool true]) := by
        show _ = _
        have h := HA.out
        rw [ek] at h
        unfold joinV
        rw [h]
        rfl
      rw [ek]
      clear ek HA HC HSZ
      go_wp2
      go_ret2
      rw [HE.out]
      exact ⟨rfl, hbe⟩
end Go.Proofs.Yteoailanpmkcfaa
