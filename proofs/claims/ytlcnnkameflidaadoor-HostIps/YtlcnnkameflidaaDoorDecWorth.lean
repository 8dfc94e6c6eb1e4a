/-
  worth of package dec: contracts.
-/
import Derived.Test.YtlcnnkameflidaaDoorDecPref
import Derived.Lib.OthersKept
import Derived.Laws.RangeAny
import Derived.Laws.Bits64
import Derived.WalkMore
import Derived.Deep.LoopGhost
namespace Go.Proofs.YtlcnnkameflidaaDoor
open Go.RowKit
set_option linter.unusedVariables false

/-- What worth holds at place pos. -/
def WorthAt (s : ByteArray) (g : Nat) (w0 : World) (gk : Nat) (sum : Value) (wr : World) : Prop :=
  ∃ pos S : Nat, pos + gk = s.size ∧ sum = .int .u64 (S : Int) ∧ S < 18446744073709551616 ∧ S = valN (s.data.toList.take pos) % 18446744073709551616 ∧ allD (s.data.toList.take pos) = true ∧
    wr.heap[g]? = some (.stringIter s pos) ∧ Below g w0 wr

theorem worth_step (S V c : Nat) (h : S = V % 18446744073709551616) (h1 : 48 ≤ c) : IntKind.u64.wrap (IntKind.u64.wrap ((S : Int) * 10) + ((c : Int) - 48)) = (((10 * V + (c - 48)) % 18446744073709551616 : Nat) : Int) := by
  rw [IntKind.wrap_u64, IntKind.wrap_u64]
  omega

/-- One digit on. -/
theorem worthAt_step (s : ByteArray) (g : Nat) (w0 : World) (gk pos S : Nat) (wr : World) (hp : pos < s.size) (hpg : pos + gk = s.size) (hSv : S = valN (s.data.toList.take pos) % 18446744073709551616)
    (hall : allD (s.data.toList.take pos) = true) (hc : isD s[pos] = true) (hit : wr.heap[g]? = some (.stringIter s (pos + 1))) (hbe : Below g w0 wr) :
    WorthAt s g w0 (gk - 1) (.int .u64 (IntKind.u64.wrap (IntKind.u64.wrap ((S : Int) * 10) + ((s[pos].toNat : Int) - 48)))) wr := by
  have hc' : 48 ≤ s[pos].toNat ∧ s[pos].toNat ≤ 57 := by simpa [isD] using hc
  refine ⟨pos + 1, _, by omega, by rw [worth_step S _ _ hSv hc'.1], Nat.mod_lt _ (by decide), ?_, ?_, hit, hbe⟩
  · rw [take_snoc s pos hp, valN_snoc]
  · rw [take_snoc s pos hp, allD_snoc _ _ hall, hc]

set_option maxRecDepth 100000 in
set_option maxHeartbeats 1600000 in
theorem worth_yes (s : ByteArray) (w : World) (hs : s.size ≤ maxLen) (h : allD s.data.toList = true) :
    Calls Tryd.prog 42 #[.string s] w fun e w' => e = .returned (.tuple #[.int .u64 ((valN s.data.toList % 18446744073709551616 : Nat) : Int), .bool true]) ∧ Below w.heap.size w w' := by
  unfold maxLen at hs
  have HA := Lib.hid h
  clear h
  go_enter Tryd.func42, Tryd.ntmps42
  go_wp2
  go_loopg [4] s.size (fun gk sum wr => WorthAt s w.heap.size w gk sum wr)
  case atStart => exact ⟨0, 0, by omega, rfl, by omega, rfl, rfl, World.iter_heap w s 0, (Below.refl _ _).alloc (Nat.le_refl _) _⟩
  case round =>
    obtain ⟨pos, S, hpg, rfl, hS, hSv, hall, hit, hbe⟩ := hrel
    have HSv := Lib.hid hSv
    have Hall := Lib.hid hall
    clear hSv hall
    by_cases hp : pos < s.size
    · have hcd : isD s[pos] = true := by
        have := HA.out
        unfold allD at this
        rw [List.all_eq_true] at this
        exact this _ (by rw [← bget s pos hp]; exact List.getElem_mem _)
      have hc : 48 ≤ s[pos].toNat ∧ s[pos].toNat ≤ 57 := by simpa [isD] using hcd
      obtain ⟨hc1, hc2⟩ := hc
      have hnx : ∀ ty, (Instr.next (.pointer (some ⟨w.heap.size, 0, none⟩)) true ty).run Tryd.prog wr = _ := fun ty => Lib.run_next_any_at wr w.heap.size s pos ty hit hp
      rw [decode_ascii s pos hp (by omega)] at hnx
      have hit2 := Lib.iterAt_heap wr w.heap.size s pos (pos + 1) hit
      have hbe2 := Lib.below_iterAt hbe (k := w.heap.size) (Nat.le_refl _) s (pos + 1)
      have HCD := Lib.hid hcd
      clear hcd hit hbe
      go_wp2
      go_roundg (gk - 1)
      case measure => omega
      case rel => exact worthAt_step s _ _ gk pos S _ hp hpg HSv.out Hall.out HCD.out hit2 hbe2
    · have hnx : ∀ ty, (Instr.next (.pointer (some ⟨w.heap.size, 0, none⟩)) true ty).run Tryd.prog wr = _ := fun ty => Lib.run_next_end_at wr w.heap.size s pos ty hit hp
      go_wp2
      go_ret2
      refine ⟨ret_u64b true ?_, hbe⟩
      rw [HSv.out, List.take_of_length_le (by rw [list_len]; omega)]

set_option maxRecDepth 100000 in
set_option maxHeartbeats 1600000 in
theorem worth_no (s : ByteArray) (w : World) (hs : s.size ≤ maxLen) (h : allD s.data.toList = false) :
    Calls Tryd.prog 42 #[.string s] w fun e w' => e = .returned (.tuple #[.int .u64 0, .bool false]) ∧ Below w.heap.size w w' := by
  unfold maxLen at hs
  have HA := Lib.hid h
  clear h
  go_enter Tryd.func42, Tryd.ntmps42
  go_wp2
  go_loopg [4] s.size (fun gk sum wr => WorthAt s w.heap.size w gk sum wr)
  case atStart => exact ⟨0, 0, by omega, rfl, by omega, rfl, rfl, World.iter_heap w s 0, (Below.refl _ _).alloc (Nat.le_refl _) _⟩
  case round =>
    obtain ⟨pos, S, hpg, rfl, hS, hSv, hall, hit, hbe⟩ := hrel
    have HSv := Lib.hid hSv
    have Hall := Lib.hid hall
    clear hSv hall
    by_cases hp : pos < s.size
    · have hnx : ∀ ty, (Instr.next (.pointer (some ⟨w.heap.size, 0, none⟩)) true ty).run Tryd.prog wr = _ := fun ty => Lib.run_next_any_at wr w.heap.size s pos ty hit hp
      rcases (show s[pos].toNat < 48 ∨ (48 ≤ s[pos].toNat ∧ s[pos].toNat ≤ 57) ∨ (57 < s[pos].toNat ∧ s[pos].toNat < 128) ∨ 128 ≤ s[pos].toNat from by omega) with hc | ⟨hc1, hc2⟩ | ⟨hc1, hc2⟩ | hc
      · rw [decode_ascii s pos hp (by omega)] at hnx
        have hbe2 := Lib.below_iterAt hbe (k := w.heap.size) (Nat.le_refl _) s (pos + 1)
        go_wp2
        go_ret2
        exact ⟨rfl, hbe2⟩
      · have HCD : Hid (isD s[pos] = true) := by show _ = _; simp [isD, hc1, hc2]
        rw [decode_ascii s pos hp (by omega)] at hnx
        have hit2 := Lib.iterAt_heap wr w.heap.size s pos (pos + 1) hit
        have hbe2 := Lib.below_iterAt hbe (k := w.heap.size) (Nat.le_refl _) s (pos + 1)
        clear hit hbe
        go_wp2
        go_roundg (gk - 1)
        case measure => omega
        case rel => exact worthAt_step s _ _ gk pos S _ hp hpg HSv.out Hall.out HCD.out hit2 hbe2
      · rw [decode_ascii s pos hp (by omega)] at hnx
        have hbe2 := Lib.below_iterAt hbe (k := w.heap.size) (Nat.le_refl _) s (pos + 1)
        go_wp2
        go_ret2
        exact ⟨rfl, hbe2⟩
      · have hh := (decode_high s pos hp hc).1
        have hbe2 := Lib.below_iterAt hbe (k := w.heap.size) (Nat.le_refl _) s (pos + (Utf8.decode s pos).2)
        generalize (Utf8.decode s pos).1 = r at hnx hh
        generalize (Utf8.decode s pos).2 = t at hnx hbe2
        have h1 : ¬ (r : Int) < 48 := by omega
        have h2 : (57 : Int) < (r : Int) := by omega
        go_wp2
        go_ret2
        exact ⟨rfl, hbe2⟩
    · exfalso
      have h := Hall.out
      rw [List.take_of_length_le (by rw [list_len]; omega), HA.out] at h
      cases h
end Go.Proofs.YtlcnnkameflidaaDoor
