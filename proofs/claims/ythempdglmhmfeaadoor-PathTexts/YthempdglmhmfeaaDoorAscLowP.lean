/-
  Lower of package ascii: a contract.
-/
import Derived.Test.YthempdglmhmfeaaDoorAscLowM
import Derived.Test.YthempdglmhmfeaaDoorAscSpan
import Derived.Test.YthempdglmhmfeaaDoorBaseBytes
import Derived.Laws.IdiomStrings
namespace Go.Proofs.YthempdglmhmfeaaDoor
open Go.RowKit
set_option linter.unusedVariables false

theorem BytesAt.of_owned {w : World} {base g n : Nat} (h : w.ownsRow base 5 1 (.slice (some ⟨g, 0, none⟩) n n) n (madeCells (Value.int .u8 0).cells (n * 1)).toList) : BytesAt w g (List.replicate n 0) := by
  refine ⟨fun j hj => ?_, fun j _ => h.frozenAt j⟩
  have hj' : j < n := by simpa using hj
  rw [h.cellAt j (by omega)]
  show (madeCells #[Value.int .u8 0] (n * 1)).toList[j]? = _
  rw [toList_madeCells_one]
  simp [hj']

set_option maxHeartbeats 1600000 in
theorem lower_any (s : ByteArray) (w : World) (hs : s.size ≤ 281474976710656) :
    Calls Tryd.prog 41 #[.string s] w fun e w' => e = .returned (.string (lowB s)) ∧ Below w.heap.size w w' := by
  have HC : Hid (∀ w1 c, Below ((w.alloc (.cells #[.int .u8 65, .int .u8 90] 52)).alloc (.cells #[.slice (some ⟨w.heap.size, 0, none⟩) 1 1] 62)).heap.size ((w.alloc (.cells #[.int .u8 65, .int .u8 90] 52)).alloc (.cells #[.slice (some ⟨w.heap.size, 0, none⟩) 1 1] 62)) w1 → Calls Tryd.prog 51 #[.int .u8 c, .pointer (some ⟨w.heap.size + 1, 0, none⟩)] w1 fun e w' => e = .returned (.bool (inSpans upL c)) ∧ w1 = w') :=
    Lib.hid fun w1 c hb => spans_calls upL (cellsOf upL) w (by decide) (has_cellsOf _) 1 rfl _ c hb
  have HB : Below w.heap.size w ((w.alloc (.cells #[.int .u8 65, .int .u8 90] 52)).alloc (.cells #[.slice (some ⟨w.heap.size, 0, none⟩) 1 1] 62)) := ((Below.refl _ _).alloc (Nat.le_refl _) _).alloc (by simp) _
  obtain ⟨i0, hi, hz0, hz1, hz2⟩ := info_parts Tryd.infoU8
  go_enter Tryd.func41, Tryd.ntmps41
  go_wp2_with fail
  refine (among_any _ _ _ _).mono ?_
  rintro e w' ⟨rfl, rfl⟩
  generalize ((w.alloc (.cells #[.int .u8 65, .int .u8 90] 52)).alloc (.cells #[.slice (some ⟨w.heap.size, 0, none⟩) 1 1] 62)) = W at HC HB ⊢
  go_wp2_with (at_make; refine wpList_make_full _ rfl _ _ 53 rfl W.heap.size 5 i0 (.int .u8 0) 1 Tryd.underlying53 hi hz0 hz1 .i64 .i64 s.size s.size s.size rfl rfl rfl rfl (by rw [hz2]; omega) (by unfold maxLen; omega) (Nat.le_refl _) ?_; intro w1 hown hgrow)
  have hb1 := BytesAt.of_owned hown
  have hB1 : Below W.heap.size W w1 := (Below.refl _ _).grown hgrow (Nat.le_refl _) (fun j hj => by cases hj)
  clear hown hgrow hi hz0 hz1 hz2
  go_loopw [14] (fun i wr => ∃ k : Nat, k ≤ s.size ∧ i = .int .i64 k ∧ BytesAt wr W.heap.size (mixed (s.data.toList.map lowC) (List.replicate s.size 0) k) ∧ Below W.heap.size W wr) (fun i _ => s.size - (intOf i).toNat)
  case atStart => exact ⟨0, Nat.zero_le _, rfl, by simpa [mixed] using hb1, hB1⟩
  case round =>
    obtain ⟨k, hk, rfl, hby, hbe⟩ := hrel
    clear hb1 hB1
    have hlen : (s.data.toList.map lowC).length = (List.replicate s.size (0 : UInt8)).length := by simp
    by_cases hlt : k < s.size
    · have hml : k < (mixed (s.data.toList.map lowC) (List.replicate s.size 0) k).length := by rw [mixed_len _ _ _ hlen (by simpa using hk)]; simpa using hlt
      have c0 := hby.1 k hml
      have f0 := hby.2 k hml
      have hg := Lib.hid (bget s k hlt)
      have hms := Lib.hid (mixed_set _ _ k hlen (by simpa using hlt))
      have Hlen := Lib.hid hlen
      have hst := Lib.hid (hby.set k hml s[k] _ rfl)
      clear hlen
      go_wp2_with fail
      refine (HC.out _ _ (hbe.setCell (Nat.le_refl _) _)).mono ?_
      rintro _ w' ⟨rfl, rfl⟩
      rw [upL_iff]
      have hst1 := hst.out
      by_cases hu : 65 ≤ s[k].toNat ∧ s[k].toNat ≤ 90
      · obtain ⟨hu1, hu2⟩ := hu
        have d1 : decide ((65 : Int) ≤ (s[k].toNat : Int)) = true := by simp; omega
        have d2 : decide ((s[k].toNat : Int) ≤ 90) = true := by simp; omega
        rw [d1, d2]
        have hv := Lib.hid (lowC_up s[k] hu1 hu2)
        have hst2 := Lib.hid (hst1.set k (by simpa using hml) (lowC s[k]) _ hv.out.symm)
        clear hst1 d1 d2
        go_wp2
        go_roundw
        case rel =>
          refine ⟨k + 1, by omega, by go_num, ?_, (hbe.setCell (Nat.le_refl _) _).setCell (Nat.le_refl _) _⟩
          have h := hst2.out
          rw [List.set_set] at h
          rw [← hms.out, List.getElem_map, hg.out]
          exact h
        case measure => simp [intOf]; omega
      · have hd : (decide ((65 : Int) ≤ (s[k].toNat : Int)) && decide ((s[k].toNat : Int) ≤ 90)) = false := by simp; omega
        rw [hd]
        have hv := Lib.hid (lowC_not s[k] hu)
        clear hst1 hd hu
        go_wp2
        go_roundw
        case rel =>
          refine ⟨k + 1, by omega, by go_num, ?_, (hbe.setCell (Nat.le_refl _) _)⟩
          have h := hst.out
          rw [← hms.out, List.getElem_map, hg.out, hv.out]
          exact h
        case measure => simp [intOf]; omega
    · have e : k = s.size := by omega
      subst e
      have hcv := BytesAt.back (l := s.data.toList.map lowC) (g := W.heap.size) (w := wr) (by
        have h := hby
        have e2 : s.size = (s.data.toList.map lowC).length := by simp
        rw [e2, mixed_all _ _ (by simp)] at h
        exact h) s.size s.size (by simp)
      clear hlen
      go_wp2
      go_ret
      exact ⟨rfl, HB.trans (hbe.mono HB.size)⟩
end Go.Proofs.YthempdglmhmfeaaDoor
