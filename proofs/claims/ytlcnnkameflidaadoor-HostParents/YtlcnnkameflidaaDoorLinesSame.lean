/-
  The document's own Same (package cracknelref06): a contract.
-/
import Derived.Test.YtlcnnkameflidaaDoorBaseRows
import Derived.Deep.QuietTactic
namespace Go.Proofs.YtlcnnkameflidaaDoor
open Go.RowKit
set_option linter.unusedVariables false

/-- What Same holds at place k. -/
def SameAt (a b : List ByteArray) (i : Value) : Prop := ∃ k : Nat, k ≤ a.length ∧ i = .int .i64 (k : Int) ∧ a.take k = b.take k

set_option maxRecDepth 100000 in
set_option maxHeartbeats 800000 in
theorem rsame_any (u v : Value) (a b : List ByteArray) (w : World) (hu : StrsAt w u a) (hv : StrsAt w v b) (ha : a.length ≤ 1000000000000) (hb : b.length ≤ 1000000000000) :
    Calls Tryd.prog 18 #[u, v] w fun e w' => e = .returned (.bool (decide (a = b))) ∧ Below w.heap.size w w' := by
  obtain ⟨ao, n, cap, rfl, hn, hc⟩ := hu.shape
  obtain ⟨bo, m, cap2, rfl, hm, hd⟩ := hv.shape
  have HC := Lib.hid hc
  have HD := Lib.hid hd
  have n1 : n ≤ a.length := by omega
  have n2 : a.length ≤ n := by omega
  have m1 : m ≤ b.length := by omega
  have m2 : b.length ≤ m := by omega
  clear hc hd hu hv hn hm
  by_cases hl : n = m
  · have l1 : n ≤ m := by omega
    have l2 : m ≤ n := by omega
    subst hl
    go_enter Tryd.func18, Tryd.ntmps18
    go_wp2
    go_loopw [5] (fun i wr => SameAt a b i ∧ Below w.heap.size w wr) (fun i _ => n - (intOf i).toNat)
    case atStart => exact ⟨⟨0, by omega, rfl, rfl⟩, Below.refl _ _⟩
    case round =>
      obtain ⟨⟨k, hk, rfl, hs⟩, hbe⟩ := hrel
      have HS := Lib.hid hs
      clear hs
      by_cases hlt : k < a.length
      · have hlt2 : k < b.length := by omega
        obtain ⟨ad, rfl, hca0⟩ := HC.out k hlt
        obtain ⟨bd, rfl, hcb0⟩ := HD.out k hlt2
        have hca : wr.cell? (ad.add k) = some (.string a[k]) := by
          rw [hbe.cell (World.block_lt_of_cell? w _ hca0)]
          exact hca0
        have hcb : wr.cell? (bd.add k) = some (.string b[k]) := by
          rw [hbe.cell (World.block_lt_of_cell? w _ hcb0)]
          exact hcb0
        obtain ⟨x, hx⟩ : ∃ x, x = a[k] := ⟨_, rfl⟩
        obtain ⟨y, hy⟩ : ∃ y, y = b[k] := ⟨_, rfl⟩
        rw [← hx] at hca
        rw [← hy] at hcb
        have HX := Lib.hid hx
        have HY := Lib.hid hy
        have k0 : (k : Int) < (n : Int) := by omega
        clear hx hy HC HD hca0 hcb0
        by_cases he : x = y
        · have HE : Hid (a.take (k + 1) = b.take (k + 1)) := by
            show _ = _
            rw [List.take_succ_eq_append_getElem hlt, List.take_succ_eq_append_getElem hlt2, HS.out, ← HX.out, ← HY.out, he]
          subst he
          have hq : (x.toList == x.toList) = true := by simp
          clear HX HY HS
          go_wp2_with fail
          go_region
          all_goals (try go_wp2)
          all_goals
            go_roundw
            case rel => exact ⟨⟨k + 1, by omega, by go_num, HE.out⟩, by first | exact hbe.drew | exact hbe⟩
            case measure => simp [intOf]; omega
        · have HE : Hid (decide (a = b) = false) := by
            show _ = _
            rw [decide_eq_false_iff_not]
            intro h
            subst h
            exact he (by rw [HX.out, HY.out])
          have hq : (x.toList == y.toList) = false := by rw [eq_toList]; simpa using he
          have hq2 : x.toList ≠ y.toList := fun h => by rw [h] at hq; simp at hq
          clear HX HY HS he
          go_wp2_with fail
          go_region
          all_goals (try go_wp2)
          all_goals
            go_ret
            exact ⟨ret_bool HE.out.symm, by first | exact hbe.drew | exact hbe⟩
      · have HE : Hid (decide (a = b) = true) := by
          show _ = _
          have h := HS.out
          rw [List.take_of_length_le (by omega), List.take_of_length_le (by omega)] at h
          simpa using h
        clear HS HC HD
        go_wp2
        go_ret
        exact ⟨ret_bool HE.out.symm, hbe⟩
  · have HE : Hid (decide (a = b) = false) := by
      show _ = _
      rw [decide_eq_false_iff_not]
      intro h
      subst h
      omega
    clear HC HD
    go_enter Tryd.func18, Tryd.ntmps18
    go_wp2
    go_ret
    exact ⟨ret_bool HE.out.symm, Below.refl _ _⟩
end Go.Proofs.YtlcnnkameflidaaDoor
