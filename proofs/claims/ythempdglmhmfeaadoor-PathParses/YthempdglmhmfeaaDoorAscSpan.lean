/-
  The closure of package ascii over spans of bytes: contracts.
-/
import Derived.Test.YthempdglmhmfeaaDoorAscMth
namespace Go.Proofs.YthempdglmhmfeaaDoor
open Go.RowKit
set_option linter.unusedVariables false

/-- The spans lie in block r. -/
def SpansAt (w : World) (r : Nat) (L : List (Int × Int)) : Prop :=
  ∀ i, i < L.length → w.cell? ⟨r, i * 2, none⟩ = some (.int .u8 (L.getD i (0, 0)).1) ∧ w.cell? ⟨r, i * 2 + 1, none⟩ = some (.int .u8 (L.getD i (0, 0)).2)

set_option maxHeartbeats 400000 in
theorem among1_any (c : Int) (b r : Nat) (L : List (Int × Int)) (w : World) (hc : w.cell? ⟨b, 0, none⟩ = some (.slice (some ⟨r, 0, none⟩) L.length L.length))
    (hL : SpansAt w r L) (hl : L.length ≤ 100) :
    Calls Tryd.prog 51 #[.int .u8 c, .pointer (some ⟨b, 0, none⟩)] w fun e w' => e = .returned (.bool (inSpans L c)) ∧ w = w' := by
  go_enter Tryd.func51, Tryd.ntmps51
  go_wp2
  go_loop [7] (fun i => ∃ k : Nat, k ≤ L.length ∧ i = .int .i64 k ∧ inSpans (L.take k) c = false) (fun i => L.length - (intOf i).toNat)
  case atStart => exact ⟨0, Nat.zero_le _, rfl, by simp [inSpans]⟩
  case round =>
    obtain ⟨k, hk, rfl, hno⟩ := hrel
    have Hno := Lib.hid hno
    clear hno
    by_cases hlt : k < L.length
    · obtain ⟨c1, c2⟩ := hL k hlt
      have hsn := Lib.hid (inSpans_snoc L c k hlt)
      have hit := Lib.hid (inSpans_hit L c k hlt)
      generalize hlo : (L.getD k (0, 0)).1 = lo at *
      generalize hhi : (L.getD k (0, 0)).2 = hi at *
      clear hlo hhi
      go_wp2
      · go_ret
        exact ⟨ret_bool (hit.out ‹_› ‹_›).symm, rfl⟩
      · have h2 : hi < c := by assumption
        go_round
        case rel => exact ⟨k + 1, by omega, by go_num, by rw [hsn.out, Hno.out]; simp; omega⟩
        case measure => simp [intOf]; omega
      · have h1 : ¬ lo ≤ c := by assumption
        go_round
        case rel => exact ⟨k + 1, by omega, by go_num, by rw [hsn.out, Hno.out]; simp; omega⟩
        case measure => simp [intOf]; omega
    · go_wp2
      go_ret
      have e : k = L.length := by omega
      subst e
      exact ⟨ret_bool (by rw [← Hno.out, List.take_length]), rfl⟩

/-- among: the spans, boxed, and the closure over the box. -/
theorem among_any (w : World) (a : Option Addr) (n m : Nat) :
    Calls Tryd.prog 37 #[.slice a n m] w fun e w' => e = .returned (.func (.func 51) #[] #[.pointer (some ⟨w.heap.size, 0, none⟩)]) ∧ w' = w.alloc (.cells #[.slice a n m] 62) := by
  go_enter Tryd.func37, Tryd.ntmps37
  go_wp2
  go_ret
  exact ⟨rfl, rfl⟩

/-- The cells of spans. -/
def HasSpans (cs : Array Value) (L : List (Int × Int)) : Prop :=
  ∀ i, i < L.length → cs[i * 2]? = some (.int .u8 (L.getD i (0, 0)).1) ∧ cs[i * 2 + 1]? = some (.int .u8 (L.getD i (0, 0)).2)

/-- The closure over spans that were just laid: what it answers in any later world. -/
theorem spans_calls (L : List (Int × Int)) (cs : Array Value) (w : World) (hl : L.length ≤ 100) (hcs : HasSpans cs L) (n : Nat) (hn : n = L.length) (w1 : World) (c : Int)
    (hb : Below ((w.alloc (.cells cs 52)).alloc (.cells #[.slice (some ⟨w.heap.size, 0, none⟩) n n] 62)).heap.size ((w.alloc (.cells cs 52)).alloc (.cells #[.slice (some ⟨w.heap.size, 0, none⟩) n n] 62)) w1) :
    Calls Tryd.prog 51 #[.int .u8 c, .pointer (some ⟨w.heap.size + 1, 0, none⟩)] w1 fun e w' => e = .returned (.bool (inSpans L c)) ∧ w1 = w' := by
  subst hn
  refine among1_any c (w.heap.size + 1) w.heap.size L w1 ?_ ?_ hl
  · rw [hb.cell (by simp)]
    simp
  · intro i hi
    obtain ⟨h1, h2⟩ := hcs i hi
    refine ⟨?_, ?_⟩
    · rw [hb.cell (by simp; omega)]
      simpa using h1
    · rw [hb.cell (by simp; omega)]
      simpa using h2

def cellsOf (L : List (Int × Int)) : Array Value := (L.flatMap fun p => [.int .u8 p.1, .int .u8 p.2]).toArray

theorem has_cellsOf : ∀ L, HasSpans (cellsOf L) L
  | [] => fun i hi => by simp at hi
  | (a, b) :: r => fun i hi => by
    have ih := has_cellsOf r
    unfold cellsOf at *
    cases i with
    | zero => simp
    | succ i =>
      have := ih i (by simpa using hi)
      have e1 : (i + 1) * 2 = i * 2 + 2 := by omega
      simp only [List.flatMap_cons, e1, List.getD_cons_succ]
      simpa using this
end Go.Proofs.YthempdglmhmfeaaDoor
