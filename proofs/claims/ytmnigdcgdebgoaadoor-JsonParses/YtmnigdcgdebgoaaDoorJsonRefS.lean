/-
  The statements' own small.
-/
import Derived.Test.YtmnigdcgdebgoaaDoorJsonRefR
import Derived.Test.YtmnigdcgdebgoaaDoorJsF
namespace Go.Proofs.YtmnigdcgdebgoaaDoor
open Go.RowKit
set_option linter.unusedVariables false

def SmallTold (l : List It) (w : World) (e : Ending) (w' : World) : Prop :=
  ∃ b : Bool, e = .returned (.bool b) ∧ (b = true → l.length ≤ 100 ∧ wt l ≤ 1100) ∧ Below w.heap.size w w'
def SmallW (l : List It) (w : World) (n : Nat) (v3 v8 : Value) (wr : World) : Prop :=
  ∃ (i : Nat) (s : Int), v3 = .int .i64 s ∧ v8 = .int .i64 (i : Int) ∧ i + n = l.length ∧ 0 ≤ s ∧ s ≤ 1000 ∧ s + (i : Int) = (wt (l.take i) : Int) ∧ (0 < i → l.length ≤ 100) ∧ Below w.heap.size w wr

set_option maxRecDepth 100000 in
set_option maxHeartbeats 1600000 in
theorem small_some (l : List It) (ad : Addr) (cap n : Nat) (w : World) (hn : l.length = n) (hc : CellsR w ad l) (hnz : n ≤ 9223372036854775807) (hit : ∀ j, j < l.length → (itL l j).key.length ≤ 9223372036854775807 ∧ (itL l j).text.length ≤ 9223372036854775807) :
    Calls Tryd.prog 11 #[.slice (some ad) n cap] w fun e w' => SmallTold l w e w' := by
  have HST : Hid (SmallW l w n (.int .i64 0) (.int .i64 0) w) := ⟨0, 0, rfl, rfl, by omega, by omega, by omega, rfl, fun h => by omega, Below.refl _ _⟩
  have HC := Lib.hid hc
  have HN := Lib.hid hn
  have HIT := Lib.hid hit
  clear hc hn hit
  go_enter Tryd.func11, Tryd.ntmps11
  go_wp2
  go_loopg [3, 8] n (fun n v3 v8 wr => SmallW l w n v3 v8 wr)
  case atStart => exact HST.out
  case round =>
    obtain ⟨i, s, rfl, rfl, hin, hs0, hs1, hall, hlen, hbe⟩ := hrel
    rw [HN.out] at hin
    have HALL := Lib.hid hall
    have HLEN := Lib.hid hlen
    clear HST hall hlen
    by_cases hi : i < n
    · have hil : i < l.length := by rw [HN.out]; exact hi
      obtain ⟨d, K, key, text, N, hx⟩ := it_parts (itL l i)
      obtain ⟨q0, q1, q2, q3, q4⟩ := (HC.out.keep hbe).at_ i hil d K key text N hx
      have hzz := HIT.out i hil
      rw [hx] at hzz
      simp only [list_len] at hzz
      obtain ⟨hkz, htz⟩ := hzz
      have HX := Lib.hid hx
      have HB2 := Lib.hid (hbe.trans (((Below.refl wr.heap.size wr).alloc (Nat.le_refl _) (.cells #[.int .i64 d, .int .i64 K, .string key, .string text, .int .i64 N] 46)).mono hbe.size))
      clear hx hbe
      by_cases hk3 : (key.size : Int) ≤ 3000
      · by_cases ht3 : (text.size : Int) ≤ 3000
        · by_cases hsum : s + ((key.size : Int) + (text.size : Int)) > 1000
          · go_wp2
            go_ret
            exact ⟨false, rfl, (fun h => by cases h), HB2.out⟩
          · by_cases hl : (n : Int) > 100
            · go_wp2
              go_ret
              exact ⟨false, rfl, (fun h => by cases h), HB2.out⟩
            · have more : ∀ s' i' : Int, s' = s + ((key.size : Int) + (text.size : Int)) → i' = (i : Int) + 1 → ∀ w4, Below w.heap.size w w4 → SmallW l w (gk - 1) (.int .i64 s') (.int .i64 i') w4 := by
                intro s' i' hs' hi' w4 hb
                subst hs' hi'
                refine ⟨i + 1, _, rfl, by go_num, by rw [HN.out]; omega, by omega, by omega, ?_, fun _ => by rw [HN.out]; omega, hb⟩
                have e1 : l.take (i + 1) = l.take i ++ [itL l i] := by rw [List.take_succ_eq_append_getElem hil, itL_get l i hil]
                have e2 : wt [itL l i] = 1 + key.size + text.size := by
                  rw [HX.out]
                  simp [wt, wtI]
                rw [e1, wt_app, e2]
                have := HALL.out
                omega
              have HMO := Lib.hid more
              clear more
              go_wp2
              go_roundg (gk - 1)
              case measure => omega
              case rel => exact HMO.out _ _ (by first | rfl | rw [Int.min_eq_left hk3, Int.min_eq_left ht3]) rfl _ HB2.out
        · have hsum : s + ((key.size : Int) + 3000) > 1000 := by omega
          go_wp2
          go_ret
          exact ⟨false, rfl, (fun h => by cases h), HB2.out⟩
      · by_cases ht3 : (text.size : Int) ≤ 3000
        · have hsum : s + (3000 + (text.size : Int)) > 1000 := by omega
          go_wp2
          go_ret
          exact ⟨false, rfl, (fun h => by cases h), HB2.out⟩
        · have hsum : s + 6000 > 1000 := by omega
          go_wp2
          go_ret
          exact ⟨false, rfl, (fun h => by cases h), HB2.out⟩
    · have hfin : l.length ≤ 100 ∧ wt l ≤ 1100 := by
        have h1 : l.length ≤ 100 := by
          by_cases e : 0 < i
          · exact HLEN.out e
          · rw [HN.out]; omega
        have h2 := HALL.out
        rw [List.take_of_length_le (by rw [HN.out]; omega)] at h2
        have h3 := HN.out
        exact ⟨h1, by omega⟩
      have HF := Lib.hid hfin
      clear hfin
      go_wp2
      go_ret
      exact ⟨true, rfl, fun _ => HF.out, hbe⟩

set_option maxRecDepth 100000 in
theorem small_none (ao : Option Addr) (cap : Nat) (w : World) : Calls Tryd.prog 11 #[.slice ao 0 cap] w fun e w' => SmallTold [] w e w' := by
  have HST : Hid (SameW w 0 (.int .i64 0) w) := ⟨rfl, rfl⟩
  go_enter Tryd.func11, Tryd.ntmps11
  go_wp2
  go_loopg [8] 0 (fun n v8 wr => SameW w n v8 wr)
  case atStart => exact HST.out
  case round =>
    obtain ⟨rfl, rfl⟩ := hrel
    clear HST
    go_wp2
    go_ret
    exact ⟨true, rfl, fun _ => ⟨by decide, by decide⟩, Below.refl _ _⟩

theorem small_any (v : Value) (l : List It) (w : World) (h : ItsAt w v l) (hnz : l.length ≤ 9223372036854775807) (hit : ∀ j, j < l.length → (itL l j).key.length ≤ 9223372036854775807 ∧ (itL l j).text.length ≤ 9223372036854775807) :
    Calls Tryd.prog 11 #[v] w fun e w' => SmallTold l w e w' := by
  rcases h with ⟨rfl, rfl⟩ | ⟨ad, cap, rfl, h1, h2⟩
  · exact small_none none 0 w
  · by_cases h0 : 0 < l.length
    · exact small_some l ad cap l.length w rfl h2 hnz hit
    · have hl : l = [] := List.length_eq_zero_iff.1 (by omega)
      subst hl
      exact small_none (some ad) cap w
end Go.Proofs.YtmnigdcgdebgoaaDoor
