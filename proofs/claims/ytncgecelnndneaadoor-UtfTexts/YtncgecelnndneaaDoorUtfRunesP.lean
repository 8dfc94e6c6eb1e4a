/-
  The program's Runes (package utf): a contract.
-/
import Derived.Test.YtncgecelnndneaaDoorUtfValidP
namespace Go.Proofs.YtncgecelnndneaaDoor
open Go.RowKit
set_option linter.unusedVariables false

/-- What the program's Runes answers, in the world w. -/
def RunesP (s : ByteArray) (w : World) (e : Ending) : Prop :=
  (∃ rs v, runesU s.data.toList = some rs ∧ e = .returned (.tuple #[v, .bool true]) ∧ IntsAt w v (intsN rs)) ∨ (∃ v, runesU s.data.toList = none ∧ e = .returned (.tuple #[v, .bool false]) ∧ IntsAt w v [])

/-- What the loop of Runes holds: the range's own place is in block g, the row's behind it. -/
def RunesIn (s : ByteArray) (g : Nat) (w0 : World) (gk : Nat) (out : Value) (wr : World) : Prop :=
  ∃ (p : Nat) (rs : List Nat), p + gk = s.size ∧ Gone s p rs ∧ wr.heap[g]? = some (.stringIter s p) ∧ RowI wr (g + 1) out (intsN rs) ∧ Below g w0 wr ∧ g + 1 ≤ wr.heap.size

theorem RowI.iterAt {w : World} {g : Nat} {v : Value} {l : List Int} (h : RowI w (g + 1) v l) (s : ByteArray) (p : Nat) : RowI (w.iterAt g s p) (g + 1) v l := by
  refine ⟨h.1, ?_⟩
  rcases h.2 with hn | ⟨b, cap, cur, hv, hbg, hg, rest⟩
  · exact .inl hn
  · exact .inr ⟨b, cap, cur, hv, hbg, (Lib.iterAt_other w g b s p (by omega)).trans hg, rest⟩

theorem iter_size (w : World) (s : ByteArray) (p : Nat) : w.heap.size + 1 ≤ (w.iter s p).heap.size := by
  have := (Array.getElem?_eq_some_iff.1 (World.iter_heap w s p)).1
  omega

theorem some_of_valid {s : ByteArray} (h : validB s = true) : ∃ rs, runesU s.data.toList = some rs := by
  unfold validB at h
  exact Option.isSome_iff_exists.1 h
theorem none_of_valid {s : ByteArray} (h : validB s = false) : runesU s.data.toList = none := by
  unfold validB at h
  simpa using h

theorem at_valid {s : ByteArray} {b : Bool} (w : World) (hT : Tabs w) (hs : s.size ≤ 1000000000000) (h : validB s = b) :
    Calls Tryd.prog 18 #[.string s] w fun e w' => e = .returned (.bool b) ∧ Below w.heap.size w w' := h ▸ valid_any s w hT hs

theorem intsN_len (rs : List Nat) : (intsN rs).length = rs.length := List.length_map _

set_option maxRecDepth 100000 in
set_option maxHeartbeats 1600000 in
theorem runes_any (s : ByteArray) (w : World) (hT : Tabs w) (hs : s.size ≤ 1000000000000) :
    Calls Tryd.prog 16 #[.string s] w fun e w' => RunesP s w' e ∧ Below w.heap.size w w' := by
  by_cases hv : validB s = true
  · have HV := Lib.hid hv
    obtain ⟨all, hall⟩ := some_of_valid hv
    have HA := Lib.hid hall
    clear hv hall
    go_enter Tryd.func16, Tryd.ntmps16
    go_wp2_with fail
    refine (at_valid _ hT hs HV.out).mono ?_
    rintro _ w1 ⟨rfl, hb1⟩
    clear HV
    go_wp2
    go_loopg [4] s.size (fun gk out wr => RunesIn s w1.heap.size w1 gk out wr)
    case atStart => exact ⟨0, [], by omega, gone_nil s, World.iter_heap w1 s 0, RowI.nil _ _, (Below.refl _ _).alloc (Nat.le_refl _) _, iter_size w1 s 0⟩
    case round =>
      obtain ⟨p, rs, hgk, hgo, hit, hrow, hbe, hsz⟩ := hrel
      have HG := Lib.hid hgo
      have z1 : p ≤ s.size := hgo.1
      have z2 : rs.length ≤ p := hgo.2.1
      clear hgo
      by_cases hp : p < s.size
      · obtain ⟨r, n, b, ht⟩ : ∃ r n b, takeU (s.extract p s.size).data.toList = (r, n, b) := ⟨_, _, _, rfl⟩
        have hnx := fun ty => Lib.run_next_any_at (P := Tryd.prog) wr w1.heap.size s p ty hit hp
        cases b with
        | false =>
          exfalso
          have := (gone_no s p rs HG.out hp r n ht).1
          rw [HA.out] at this
          cases this
        | true =>
          obtain ⟨g1, hd, g3, g4, g5⟩ := gone_yes s p rs HG.out hp r n ht
          rw [hd] at hnx
          have hit2 := Lib.iterAt_heap wr w1.heap.size s p (p + n) hit
          have hb2 := Lib.below_iterAt hbe (k := w1.heap.size) (Nat.le_refl _) s (p + n)
          have hr2 := hrow.iterAt s (p + n)
          have hz2 : w1.heap.size + 1 ≤ (wr.iterAt w1.heap.size s (p + n)).heap.size := by rw [Lib.iterAt_size]; exact hsz
          obtain ⟨W1, hW1⟩ : ∃ W1, W1 = wr.iterAt w1.heap.size s (p + n) := ⟨_, rfl⟩
          rw [← hW1] at hnx hit2 hb2 hr2 hz2
          have G1 := Lib.hid g1
          have HI := Lib.hid hit2
          have HR := Lib.hid hr2
          have hrl := intsN_len rs
          have hlen : ((intsN rs).length + 1) * 8 ≤ 140737488355328 := by omega
          clear hW1 hit hd g1 ht HG hbe hit2 hrow hr2 hrl hsz
          go_wp2_with (at_builtin; refine wpList_pushI rfl _ _ rfl HR.out rfl rfl hlen hz2 ?_; intro v' w2 hrow' hB' hsz')
          have hb3 := hB' _ _ hb2 (by omega)
          have hb4 := hB' _ _ (Below.refl (w1.heap.size + 1) W1) (Nat.le_refl _)
          have hi2 : w2.heap[w1.heap.size]? = some (.stringIter s (p + n)) := by rw [hb4.block _ (by omega)]; exact HI.out
          have e : intsN rs ++ [(r : Int)] = intsN (rs ++ [r]) := by simp [intsN]
          rw [e] at hrow'
          have HR2 := Lib.hid hrow'
          have HI2 := Lib.hid hi2
          clear hB' hrow' HR e hi2 HI hb2 hb4
          go_wp2
          go_roundg (gk - n)
          case measure => omega
          case rel => exact ⟨p + n, rs ++ [r], by omega, G1.out, HI2.out, HR2.out, hb3, hsz'⟩
      · have hnx := fun ty => Lib.run_next_end_at (P := Tryd.prog) wr w1.heap.size s p ty hit hp
        have HE := Lib.hid (gone_end s p rs HG.out hp)
        have hints := hrow.ints
        have hb3 := chain hb1 hbe
        clear HG hit hrow
        go_wp2
        go_ret2
        exact ⟨.inl ⟨rs, _, HE.out, rfl, hints⟩, hb3⟩
  · have hv' : validB s = false := by simpa using hv
    have HV := Lib.hid hv'
    clear hv hv'
    go_enter Tryd.func16, Tryd.ntmps16
    go_wp2_with fail
    refine (at_valid _ hT hs HV.out).mono ?_
    rintro _ w1 ⟨rfl, hb1⟩
    go_wp2
    go_ret2
    exact ⟨.inr ⟨_, none_of_valid HV.out, rfl, IntsAt.nil _⟩, hb1⟩
end Go.Proofs.YtncgecelnndneaaDoor
