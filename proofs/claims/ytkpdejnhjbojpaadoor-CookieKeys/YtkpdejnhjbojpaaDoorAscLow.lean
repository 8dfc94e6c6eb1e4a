/-
  The document's own Lower (package cracknelref01): a contract.
-/
import Derived.Test.YtkpdejnhjbojpaaDoorCkMa
import Derived.Test.YtkpdejnhjbojpaaDoorBaseBytes
import Derived.Laws.IdiomStrings
namespace Go.Proofs.YtkpdejnhjbojpaaDoor
open Go.RowKit
set_option linter.unusedVariables false

set_option maxRecDepth 100000 in
set_option maxHeartbeats 1600000 in
theorem rlower_any (s : ByteArray) (w : World) (hs : s.size ≤ 281474976710656) :
    Calls Tryd.prog 56 #[.string s] w fun e w' => e = .returned (.string (lowB s)) ∧ Below w.heap.size w w' := by
  have hcv2 := run_bytes_of_string (P := Tryd.prog) w 9 80 5 s Tryd.underlying9 Tryd.underlying80 Tryd.underlying5
  have HB := bytes_made s w (grownCap w s.size 0 5) (grownCap_ge _ _ _ _)
  have HW : Below w.heap.size w ((w.alloc (.cells (bytesRow s (grownCap w s.size 0 5)) 5 ((bytesRow s (grownCap w s.size 0 5)).size, (bytesRow s (grownCap w s.size 0 5)).size + 1))).drew) := ((Below.refl _ _).alloc (Nat.le_refl _) _).drew
  go_enter Tryd.func56, Tryd.ntmps56
  go_wp2
  clear hcv2
  generalize ((w.alloc (.cells (bytesRow s (grownCap w s.size 0 5)) 5 ((bytesRow s (grownCap w s.size 0 5)).size, (bytesRow s (grownCap w s.size 0 5)).size + 1))).drew) = W at HB HW ⊢
  generalize grownCap w s.size 0 5 = cap
  go_loopw [4] (fun i wr => ∃ k : Nat, k ≤ s.size ∧ i = .int .i64 k ∧ BytesAt wr w.heap.size (mixed (s.data.toList.map lowC) s.data.toList k) ∧ Below w.heap.size w wr) (fun i _ => s.size - (intOf i).toNat)
  case atStart => exact ⟨0, Nat.zero_le _, rfl, by simpa [mixed] using HB, HW⟩
  case round =>
    obtain ⟨k, hk, rfl, hby, hbe⟩ := hrel
    clear HB HW
    have hlen : (s.data.toList.map lowC).length = s.data.toList.length := by simp
    by_cases hlt : k < s.size
    · have hml : k < (mixed (s.data.toList.map lowC) s.data.toList k).length := by rw [mixed_len _ _ _ hlen (by simpa using hk)]; simpa using hlt
      have hg0 : (mixed (s.data.toList.map lowC) s.data.toList k)[k] = s[k] := by
        rw [mixed_at _ _ _ hlen (by simpa using hlt), bget s k hlt]
      have c0 := hby.1 k hml
      have f0 := hby.2 k hml
      rw [hg0] at c0
      have hg := Lib.hid (bget s k hlt)
      have hms := Lib.hid (mixed_set _ _ k hlen (by simpa using hlt))
      have Hlen := Lib.hid hlen
      clear hlen hg0
      by_cases hu : 65 ≤ s[k].toNat ∧ s[k].toNat ≤ 90
      · obtain ⟨hu1, hu2⟩ := hu
        have hv := Lib.hid (lowC_up s[k] hu1 hu2)
        have hst2 := Lib.hid (hby.set k hml (lowC s[k]) _ hv.out.symm)
        go_wp2
        go_roundw
        case rel =>
          refine ⟨k + 1, by omega, by go_num, ?_, (hbe.setCell (Nat.le_refl _) _)⟩
          have h := hst2.out
          rw [← hms.out, List.getElem_map, hg.out]
          exact h
        case measure => simp [intOf]; omega
      · have hv := Lib.hid (lowC_not s[k] hu)
        have hkeep := Lib.hid (mixed_keep (s.data.toList.map lowC) s.data.toList k Hlen.out (by simpa using hlt) (by rw [List.getElem_map, hg.out, hv.out]))
        rcases (show s[k].toNat < 65 ∨ 90 < s[k].toNat from by omega) with h1 | h1
        all_goals
          clear hu
          go_wp2
          go_roundw
          case rel => exact ⟨k + 1, by omega, by go_num, by rw [hkeep.out]; exact hby, hbe⟩
          case measure => simp [intOf]; omega
    · have e : k = s.size := by omega
      subst e
      have hcv := BytesAt.back (w := wr) (g := w.heap.size) (l := s.data.toList.map lowC) (n := s.size) (cap := cap) (hn := by simp) (by
        have h := hby
        have e2 : s.size = (s.data.toList.map lowC).length := by simp
        rw [e2, mixed_all _ _ (by simp)] at h
        exact h)
      clear hlen
      go_wp2
      go_ret
      exact ⟨rfl, hbe⟩
end Go.Proofs.YtkpdejnhjbojpaaDoor
