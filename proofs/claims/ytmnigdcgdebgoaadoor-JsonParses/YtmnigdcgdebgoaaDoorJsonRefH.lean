/-
  The document's own holder and alone.
-/
import Derived.Test.YtmnigdcgdebgoaaDoorJsonRefM
import Derived.IntWalk
namespace Go.Proofs.YtmnigdcgdebgoaaDoor
open Go.RowKit
set_option linter.unusedVariables false

theorem it_parts (x : It) : ∃ (d K : Int) (key text : ByteArray) (N : Int), x = ⟨d, K, key.data.toList, text.data.toList, N⟩ :=
  ⟨x.depth, x.kind, bytesOf x.key, bytesOf x.text, x.n, by rw [list_bytesOf, list_bytesOf]⟩

/-- The items at an address. -/
def CellsR (w : World) (ad : Addr) (l : List It) : Prop := ∀ j u, (itsV l)[j]? = some u → w.cell? (ad.add j) = some u
theorem CellsR.keep {w w' : World} {ad : Addr} {l : List It} (h : CellsR w ad l) (hb : Below w.heap.size w w') : CellsR w' ad l := fun j u hj => by
  have h4 := h j u hj
  rw [hb.cell (World.block_lt_of_cell? w _ h4)]
  exact h4
theorem CellsR.at_ {w : World} {ad : Addr} {l : List It} (h : CellsR w ad l) (i : Nat) (hi : i < l.length) (d K : Int) (key text : ByteArray) (N : Int) (hx : itL l i = ⟨d, K, key.data.toList, text.data.toList, N⟩) :
    w.cell? (ad.add (i * 5)) = some (.int .i64 d) ∧ w.cell? ⟨(ad.add (i * 5)).block, (ad.add (i * 5)).off + 1, none⟩ = some (.int .i64 K) ∧ w.cell? ⟨(ad.add (i * 5)).block, (ad.add (i * 5)).off + 2, none⟩ = some (.string key) ∧ w.cell? ⟨(ad.add (i * 5)).block, (ad.add (i * 5)).off + 3, none⟩ = some (.string text) ∧ w.cell? ⟨(ad.add (i * 5)).block, (ad.add (i * 5)).off + 4, none⟩ = some (.int .i64 N) := by
  rw [itL_get l i hi] at hx
  have hcl := its_cells h i hi key text (by rw [hx, bytesOf_list]) (by rw [hx, bytesOf_list])
  rw [hx] at hcl
  exact hcl

def HoldW (l : List It) (D : Int) (at_ : Nat) (w : World) (n : Nat) (v5 : Value) (wr : World) : Prop :=
  ∃ (i : Int), v5 = .int .i64 i ∧ i = (n : Int) - 1 ∧ n ≤ at_ ∧ holdN l D n = holdN l D at_ ∧ Below w.heap.size w wr

set_option maxRecDepth 100000 in
set_option maxHeartbeats 1600000 in
theorem rholder_any (l : List It) (ad : Addr) (cap n at_ : Nat) (w : World) (hn : l.length = n) (hc : CellsR w ad l) (h1 : 1 ≤ at_) (hat : at_ < n) (hz : n ≤ 100000) (hd1 : 1 ≤ (itL l at_).depth) (hd2 : (itL l at_).depth ≤ 1000) (r : Int) (hr : holdAt l at_ = r) :
    Calls Tryd.prog 29 #[.slice (some ad) n cap, .int .i64 (at_ : Int)] w fun e w' => e = .returned (.int .i64 r) ∧ Below w.heap.size w w' := by
  obtain ⟨d, K, key, text, N, hx⟩ := it_parts (itL l at_)
  rw [hx] at hd1 hd2
  unfold holdAt at hr
  rw [hx] at hr
  simp only at hd1 hd2 hr
  have HST : Hid (HoldW l (d - 1) at_ w at_ (.int .i64 ((at_ : Int) - 1)) w) := ⟨_, rfl, rfl, Nat.le_refl _, rfl, Below.refl _ _⟩
  have HC := Lib.hid hc
  have HN := Lib.hid hn
  have HX := Lib.hid hx
  have HR := Lib.hid hr
  have hz1 : (1 : Int) ≤ (at_ : Int) := by omega
  clear hc hn hx hr
  go_enter Tryd.func29, Tryd.ntmps29
  go_wp2
  go_loopg [5] at_ (fun n v5 wr => HoldW l (d - 1) at_ w n v5 wr)
  case atStart => exact HST.out
  case round =>
    obtain ⟨i, rfl, hi, hle, hh, hbe⟩ := hrel
    have HH := Lib.hid hh
    have HBE := Lib.hid hbe
    clear HST hh
    cases gk with
    | zero =>
      have e : i = -1 := by omega
      have HR2 : Hid (r = -1) := by
        show _ = _
        rw [← HR.out, ← HH.out]
        rfl
      subst e
      clear hi
      go_wp2
      go_ret
      rw [HR2.out]
      exact ⟨rfl, HBE.out⟩
    | succ j =>
      obtain rfl : i = (j : Int) := by omega
      have hjn : j < n := by omega
      have hjl : j < l.length := by rw [HN.out]; exact hjn
      obtain ⟨dj, Kj, kj, tj, Nj, hxj⟩ := it_parts (itL l j)
      have hcw := HC.out.keep HBE.out
      obtain ⟨p0, p1, p2, p3, p4⟩ := hcw.at_ j hjl dj Kj kj tj Nj hxj
      obtain ⟨q0, q1, q2, q3, q4⟩ := hcw.at_ at_ (by rw [HN.out]; exact hat) d K key text N HX.out
      have hw1 : IntKind.i64.wrap (d - 1) = d - 1 := IntWalk.i64_in _ (by omega)
      have hstep : holdN l (d - 1) (j + 1) = if dj = d - 1 then (j : Int) else holdN l (d - 1) j := by
        show (if (itL l j).depth = d - 1 then (j : Int) else holdN l (d - 1) j) = _
        rw [hxj]
      have HSTEP := Lib.hid hstep
      clear hcw hxj hi hstep p1 p2 p3 p4 q1 q2 q3 q4 hbe
      by_cases hdd : dj = d - 1
      · have z1 : (dj == d - 1) = true := by rw [beq_iff_eq]; exact hdd
        have HR2 : Hid (r = (j : Int)) := by
          show _ = _
          rw [← HR.out, ← HH.out, HSTEP.out, if_pos hdd]
        clear hdd
        go_wp2_with fail
        go_quiet (fail)
        obtain ⟨w4, hw4⟩ : ∃ w4, wr.drewN nq = w4 := ⟨_, rfl⟩
        rw [hw4]
        have hb4 : Below wr.heap.size wr w4 := by rw [← hw4]; exact ⟨rfl, rfl, rfl, Nat.le_refl _, fun _ _ => rfl⟩
        have HBE2 := Lib.hid (chain HBE.out hb4)
        clear hw4 hb4 hw1 p0 q0 z1
        go_wp2
        go_ret
        rw [HR2.out]
        exact ⟨rfl, HBE2.out⟩
      · have z1 : (dj == d - 1) = false := by rw [beq_eq_false_iff_ne]; exact hdd
        have HH2 : Hid (holdN l (d - 1) j = holdN l (d - 1) at_) := by
          show _ = _
          rw [← HH.out, HSTEP.out, if_neg hdd]
        clear hdd
        go_wp2_with fail
        go_quiet (fail)
        obtain ⟨w4, hw4⟩ : ∃ w4, wr.drewN nq = w4 := ⟨_, rfl⟩
        rw [hw4]
        have hb4 : Below wr.heap.size wr w4 := by rw [← hw4]; exact ⟨rfl, rfl, rfl, Nat.le_refl _, fun _ _ => rfl⟩
        have HBE2 := Lib.hid (chain HBE.out hb4)
        clear hw4 hb4 hw1 p0 q0 z1
        go_wp2
        go_roundg j
        case measure => omega
        case rel => exact ⟨_, rfl, rfl, by omega, HH2.out, HBE2.out⟩

def AloneW (l : List It) (at_ h : Nat) (w : World) (n : Nat) (v7 : Value) (wr : World) : Prop :=
  ∃ k : Nat, v7 = .int .i64 (k : Int) ∧ h < k ∧ k ≤ at_ ∧ k + n = at_ ∧ (∀ i, h < i → i < k → ¬ ((itL l i).depth = (itL l at_).depth ∧ (itL l i).key = (itL l at_).key)) ∧ Below w.heap.size w wr

set_option maxRecDepth 100000 in
set_option maxHeartbeats 1600000 in
theorem ralone_any (l : List It) (ad : Addr) (cap n at_ h : Nat) (w : World) (hn : l.length = n) (hc : CellsR w ad l) (hh : h < at_) (hat : at_ < n) (hz : n ≤ 100000) (r : Bool) (hr : r = true ↔ AloneAt l at_ (h : Int)) :
    Calls Tryd.prog 30 #[.slice (some ad) n cap, .int .i64 (at_ : Int), .int .i64 (h : Int)] w fun e w' => e = .returned (.bool r) ∧ Below w.heap.size w w' := by
  obtain ⟨d, K, key, text, N, hx⟩ := it_parts (itL l at_)
  have HST : Hid (AloneW l at_ h w (at_ - (h + 1)) (.int .i64 ((h : Int) + 1)) w) := ⟨h + 1, by go_num, by omega, by omega, by omega, fun i a b => by omega, Below.refl _ _⟩
  have HC := Lib.hid hc
  have HN := Lib.hid hn
  have HX := Lib.hid hx
  have HR := Lib.hid hr
  clear hc hn hx hr
  go_enter Tryd.func30, Tryd.ntmps30
  go_wp2
  go_loopg [7] (at_ - (h + 1)) (fun n v7 wr => AloneW l at_ h w n v7 wr)
  case atStart => exact HST.out
  case round =>
    obtain ⟨k, rfl, hhk, hka, hkn, hno, hbe⟩ := hrel
    have HNO := Lib.hid hno
    have HBE := Lib.hid hbe
    clear HST hno hbe
    by_cases hlt : k < at_
    · have hkl : k < l.length := by rw [HN.out]; omega
      have hkn2 : k < n := by omega
      obtain ⟨dk, Kk, kk, tk, Nk, hxk⟩ := it_parts (itL l k)
      have hcw := HC.out.keep HBE.out
      obtain ⟨p0, p1, p2, p3, p4⟩ := hcw.at_ k hkl dk Kk kk tk Nk hxk
      obtain ⟨q0, q1, q2, q3, q4⟩ := hcw.at_ at_ (by rw [HN.out]; exact hat) d K key text N HX.out
      have HXK := Lib.hid hxk
      clear hcw hxk p1 p3 p4 q1 q3 q4
      have more : ¬ (dk = d ∧ kk = key) → ∀ i : Int, i = (k : Int) + 1 → ∀ w4, Below w.heap.size w w4 → AloneW l at_ h w (gk - 1) (.int .i64 i) w4 := by
        intro hne i hi w4 hb
        subst hi
        refine ⟨k + 1, by go_num, by omega, by omega, by omega, fun i a b => ?_, hb⟩
        by_cases e : i = k
        · rw [e, HXK.out, HX.out]
          rintro ⟨h1, h2⟩
          exact hne ⟨h1, ba_ext h2⟩
        · exact HNO.out i a (by omega)
      have HMO := Lib.hid more
      clear more
      by_cases hdd : dk = d
      · have z1 : (dk == d) = true := by rw [beq_iff_eq]; exact hdd
        by_cases hkk : kk = key
        · have z2 : (kk.toList == key.toList) = true := by rw [eq_toList]; simpa using hkk
          have HR2 : Hid (r = false) := by
            show _ = _
            cases hrr : r with
            | false => rfl
            | true =>
              exfalso
              have := HR.out.1 hrr k (by omega) hlt
              rw [HXK.out, HX.out] at this
              exact this ⟨hdd, by rw [hkk]⟩
          clear hdd hkk HMO
          go_wp2_with fail
          go_quiet (fail)
          obtain ⟨w4, hw4⟩ : ∃ w4, wr.drewN nq = w4 := ⟨_, rfl⟩
          rw [hw4]
          have hb4 : Below wr.heap.size wr w4 := by rw [← hw4]; exact ⟨rfl, rfl, rfl, Nat.le_refl _, fun _ _ => rfl⟩
          have HBE2 := Lib.hid (chain HBE.out hb4)
          clear hw4 hb4 p0 p2 q0 q2 z1 z2
          go_wp2
          go_ret
          rw [HR2.out]
          exact ⟨rfl, HBE2.out⟩
        · have z2 : (kk.toList == key.toList) = false := by rw [eq_toList]; simpa using hkk
          have HNE : Hid (¬ (dk = d ∧ kk = key)) := fun hh => hkk hh.2
          clear hdd hkk
          go_wp2_with fail
          go_quiet (fail)
          obtain ⟨w4, hw4⟩ : ∃ w4, wr.drewN nq = w4 := ⟨_, rfl⟩
          rw [hw4]
          have hb4 : Below wr.heap.size wr w4 := by rw [← hw4]; exact ⟨rfl, rfl, rfl, Nat.le_refl _, fun _ _ => rfl⟩
          have HBE2 := Lib.hid (chain HBE.out hb4)
          clear hw4 hb4 p0 p2 q0 q2 z1 z2
          go_wp2
          go_roundg (gk - 1)
          case measure => omega
          case rel => exact HMO.out HNE.out _ rfl _ HBE2.out
      · have z1 : (dk == d) = false := by rw [beq_eq_false_iff_ne]; exact hdd
        have HNE : Hid (¬ (dk = d ∧ kk = key)) := fun hh => hdd hh.1
        clear hdd
        go_wp2_with fail
        go_quiet (fail)
        obtain ⟨w4, hw4⟩ : ∃ w4, wr.drewN nq = w4 := ⟨_, rfl⟩
        rw [hw4]
        have hb4 : Below wr.heap.size wr w4 := by rw [← hw4]; exact ⟨rfl, rfl, rfl, Nat.le_refl _, fun _ _ => rfl⟩
        have HBE2 := Lib.hid (chain HBE.out hb4)
        clear hw4 hb4 p0 p2 q0 q2 z1
        go_wp2
        go_roundg (gk - 1)
        case measure => omega
        case rel => exact HMO.out HNE.out _ rfl _ HBE2.out
    · have HR2 : Hid (r = true) := by
        show _ = _
        rw [HR.out]
        intro i a b
        exact HNO.out i (by omega) (by omega)
      go_wp2
      go_ret
      rw [HR2.out]
      exact ⟨rfl, HBE.out⟩
end Go.Proofs.YtmnigdcgdebgoaaDoor
