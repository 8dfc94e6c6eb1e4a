/-
  later of cracknellaw09: which of two clocks is the later one: a contract.
-/
import Derived.Test.YtfpakabdgnnheaaDoorCivBox
import Derived.Deep.RegionHeld3
import Derived.Test.YtfpakabdgnnheaaDoorBaseDraw
namespace Go.Proofs.YtfpakabdgnnheaaDoor
open Go.RowKit
set_option linter.unusedVariables false

/-- Is the first list of numbers the later one? -/
def laterL : List Int → List Int → Bool
  | x :: xs, y :: ys => if x = y then laterL xs ys else decide (y < x)
  | _, _ => false

/-- Six numbers lie in block g. -/
def SixAt (w : World) (g : Nat) (l : List Int) : Prop := ∀ k (n : Int), l[k]? = some n → w.cell? ⟨g, k, none⟩ = some (.int .i64 n)

theorem SixAt.drew {w : World} {g : Nat} {l : List Int} (h : SixAt w g l) : SixAt w.drew g l := fun k n hk => by simpa using h k n hk

theorem SixAt.of {w : World} {g : Nat} {y m d h i s : Int} (hc : ClkAt w g y m d h i s) : SixAt w g [y, m, d, h, i, s] := by
  obtain ⟨c0, c1, c2, c3, c4, c5⟩ := hc
  intro k n hk
  match k, hk with
  | 0, hk => rw [c0]; simpa using hk
  | 1, hk => rw [c1]; simpa using hk
  | 2, hk => rw [c2]; simpa using hk
  | 3, hk => rw [c3]; simpa using hk
  | 4, hk => rw [c4]; simpa using hk
  | 5, hk => rw [c5]; simpa using hk
  | k + 6, hk => simp at hk

theorem two_rows (W : World) (y m d h i s y' m' d' h' i' s' : Int) (t : TypeId) :
    SixAt (((W.alloc (.cells #[.int .i64 y, .int .i64 m, .int .i64 d, .int .i64 h, .int .i64 i, .int .i64 s] t)).alloc (.cells #[.int .i64 y', .int .i64 m', .int .i64 d', .int .i64 h', .int .i64 i', .int .i64 s'] t)).drew) W.heap.size [y, m, d, h, i, s] ∧
    SixAt (((W.alloc (.cells #[.int .i64 y, .int .i64 m, .int .i64 d, .int .i64 h, .int .i64 i, .int .i64 s] t)).alloc (.cells #[.int .i64 y', .int .i64 m', .int .i64 d', .int .i64 h', .int .i64 i', .int .i64 s'] t)).drew) (W.heap.size + 1) [y', m', d', h', i', s'] ∧
    Below W.heap.size W (((W.alloc (.cells #[.int .i64 y, .int .i64 m, .int .i64 d, .int .i64 h, .int .i64 i, .int .i64 s] t)).alloc (.cells #[.int .i64 y', .int .i64 m', .int .i64 d', .int .i64 h', .int .i64 i', .int .i64 s'] t)).drew) := by
  refine ⟨(SixAt.of ((ClkAt.new W y m d h i s t).keep ((Below.refl _ _).alloc (Nat.le_refl _) _))).drew, ?_, (((Below.refl _ _).alloc (Nat.le_refl _) _).alloc (by simp) _).drew⟩
  have h := (SixAt.of (ClkAt.new (W.alloc (.cells #[.int .i64 y, .int .i64 m, .int .i64 d, .int .i64 h, .int .i64 i, .int .i64 s] t)) y' m' d' h' i' s' t)).drew
  rwa [show ∀ o : Obj, (W.alloc o).heap.size = W.heap.size + 1 from fun o => by simp] at h

/-- What the loop keeps. -/
def RLater (A B : Nat) (xs ys : List Int) (w0 : World) (gk : Nat) (c : Value) (wr : World) : Prop :=
  ∃ j : Nat, c = .int .i64 (j : Int) ∧ j + gk = 7 ∧ j ≤ 6 ∧ laterL (xs.drop j) (ys.drop j) = laterL xs ys ∧ SixAt wr A xs ∧ SixAt wr B ys ∧ Below w0.heap.size w0 wr

theorem laterL_at (xs ys : List Int) (j : Nat) (x y : Int) (hx : xs[j]? = some x) (hy : ys[j]? = some y) : laterL (xs.drop j) (ys.drop j) = if x = y then laterL (xs.drop (j + 1)) (ys.drop (j + 1)) else decide (y < x) := by
  obtain ⟨h1, e1⟩ := List.getElem?_eq_some_iff.1 hx
  obtain ⟨h2, e2⟩ := List.getElem?_eq_some_iff.1 hy
  rw [List.drop_eq_getElem_cons h1, List.drop_eq_getElem_cons h2, e1, e2]
  rfl

theorem two_alloc {W : World} {g k : Nat} {y m d h i s y' m' d' h' i' s' : Int} (o : Obj) (H : W.cell? ⟨g, 0, none⟩ = some (.int .i64 y) ∧ W.cell? ⟨g, 1, none⟩ = some (.int .i64 m) ∧ W.cell? ⟨g, 2, none⟩ = some (.int .i64 d) ∧ W.cell? ⟨g, 3, none⟩ = some (.int .i64 h) ∧ W.cell? ⟨g, 4, none⟩ = some (.int .i64 i) ∧ W.cell? ⟨g, 5, none⟩ = some (.int .i64 s) ∧
    W.cell? ⟨k, 0, none⟩ = some (.int .i64 y') ∧ W.cell? ⟨k, 1, none⟩ = some (.int .i64 m') ∧ W.cell? ⟨k, 2, none⟩ = some (.int .i64 d') ∧ W.cell? ⟨k, 3, none⟩ = some (.int .i64 h') ∧ W.cell? ⟨k, 4, none⟩ = some (.int .i64 i') ∧ W.cell? ⟨k, 5, none⟩ = some (.int .i64 s')) :
    ClkAt (W.alloc o) g y m d h i s ∧ ClkAt (W.alloc o) k y' m' d' h' i' s' := by
  obtain ⟨c0, c1, c2, c3, c4, c5, e0, e1, e2, e3, e4, e5⟩ := H
  have HA : ClkAt W g y m d h i s := ⟨c0, c1, c2, c3, c4, c5⟩
  have HB : ClkAt W k y' m' d' h' i' s' := ⟨e0, e1, e2, e3, e4, e5⟩
  exact ⟨HA.keep ((Below.refl _ _).alloc (Nat.le_refl _) o), HB.keep ((Below.refl _ _).alloc (Nat.le_refl _) o)⟩

set_option maxRecDepth 100000 in
set_option maxHeartbeats 1600000 in
theorem later_any (y m d h i s y' m' d' h' i' s' : Int) (w : World) :
    Calls Tryd.prog 25 #[clkV y m d h i s, clkV y' m' d' h' i' s'] w fun e w' => e = .returned (.bool (laterL [y, m, d, h, i, s] [y', m', d', h', i', s'])) ∧ Below w.heap.size w w' := by
  go_enter Tryd.func25, Tryd.ntmps25
  go_wp2_with (with_reducible refine wp_halt ?_)
  refine Halt.on ?_
  have hA := (ClkAt.new w y m d h i s 32).keep ((Below.refl _ _).alloc (Nat.le_refl _) (.cells #[.int .i64 y', .int .i64 m', .int .i64 d', .int .i64 h', .int .i64 i', .int .i64 s'] 32))
  have hB := ClkAt.new (w.alloc (.cells #[.int .i64 y, .int .i64 m, .int .i64 d, .int .i64 h, .int .i64 i, .int .i64 s] 32)) y' m' d' h' i' s' 32
  have hb1 := ((Below.refl w.heap.size w).alloc (Nat.le_refl _) (.cells #[.int .i64 y, .int .i64 m, .int .i64 d, .int .i64 h, .int .i64 i, .int .i64 s] 32)).alloc (by simp) (.cells #[.int .i64 y', .int .i64 m', .int .i64 d', .int .i64 h', .int .i64 i', .int .i64 s'] 32)
  rw [show ∀ o : Obj, (w.alloc o).heap.size = w.heap.size + 1 from fun o => by simp] at hB
  obtain ⟨c0, c1, c2, c3, c4, c5⟩ := hA
  obtain ⟨e0, e1, e2, e3, e4, e5⟩ := hB
  generalize (w.alloc (.cells #[.int .i64 y, .int .i64 m, .int .i64 d, .int .i64 h, .int .i64 i, .int .i64 s] 32)).alloc (.cells #[.int .i64 y', .int .i64 m', .int .i64 d', .int .i64 h', .int .i64 i', .int .i64 s'] 32) = W0 at *
  obtain ⟨k, hk⟩ : ∃ k, k = w.heap.size + 1 := ⟨_, rfl⟩
  rw [← hk] at e0 e1 e2 e3 e4 e5 ⊢
  obtain ⟨g, hg⟩ : ∃ g, g = w.heap.size := ⟨_, rfl⟩
  rw [← hg] at c0 c1 c2 c3 c4 c5 hb1 ⊢
  have HG := Lib.hid hg
  have HB := Lib.hid hb1
  clear hk hg
  go_region_held3 (fun W => W.cell? ⟨g, 0, none⟩ = some (.int .i64 y) ∧ W.cell? ⟨g, 1, none⟩ = some (.int .i64 m) ∧ W.cell? ⟨g, 2, none⟩ = some (.int .i64 d) ∧ W.cell? ⟨g, 3, none⟩ = some (.int .i64 h) ∧ W.cell? ⟨g, 4, none⟩ = some (.int .i64 i) ∧ W.cell? ⟨g, 5, none⟩ = some (.int .i64 s) ∧
    W.cell? ⟨k, 0, none⟩ = some (.int .i64 y') ∧ W.cell? ⟨k, 1, none⟩ = some (.int .i64 m') ∧ W.cell? ⟨k, 2, none⟩ = some (.int .i64 d') ∧ W.cell? ⟨k, 3, none⟩ = some (.int .i64 h') ∧ W.cell? ⟨k, 4, none⟩ = some (.int .i64 i') ∧ W.cell? ⟨k, 5, none⟩ = some (.int .i64 s')) (first | exact ⟨c0, c1, c2, c3, c4, c5, e0, e1, e2, e3, e4, e5⟩ | assumption | (refine two_alloc _ ?_; assumption) | go_keep) (first | fail)
  · obtain ⟨hx, hy, hbV⟩ := two_rows W0 y m d h i s y' m' d' h' i' s' 44
    have hbW := HB.out
    rw [HG.out] at hbW
    have hbw := chain hbW hbV
    clear hbW hbV
    generalize ((W0.alloc (.cells #[.int .i64 y, .int .i64 m, .int .i64 d, .int .i64 h, .int .i64 i, .int .i64 s] 44)).alloc (.cells #[.int .i64 y', .int .i64 m', .int .i64 d', .int .i64 h', .int .i64 i', .int .i64 s'] 44)).drew = V at hx hy hbw ⊢
    obtain ⟨A, hA⟩ : ∃ A, A = W0.heap.size := ⟨_, rfl⟩
    obtain ⟨B, hB⟩ : ∃ B, B = W0.heap.size + 1 := ⟨_, rfl⟩
    rw [← hB, ← hA]
    rw [← hA] at hx
    rw [← hB] at hy
    have HX := Lib.hid hx
    have HY := Lib.hid hy
    clear hA hB hx hy
    go_wp2_with fail
    go_loopg [34] 7 (fun gk c wr => RLater A B [y, m, d, h, i, s] [y', m', d', h', i', s'] w gk c wr)
    case atStart => exact ⟨0, rfl, by omega, by omega, rfl, HX.out, HY.out, hbw⟩
    case round =>
      clear HX HY hbw
      obtain ⟨j, rfl, hj, hj6, hl, hx, hy, hb⟩ := hrel
      have HL := Lib.hid hl
      clear hl
      rcases Nat.lt_or_ge j 6 with hlt | hlt
      · obtain ⟨p, hp⟩ : ∃ p, [y, m, d, h, i, s][j]? = some p := ⟨_, List.getElem?_eq_getElem (by exact hlt)⟩
        obtain ⟨q, hq⟩ : ∃ q, [y', m', d', h', i', s'][j]? = some q := ⟨_, List.getElem?_eq_getElem (by exact hlt)⟩
        have cx := hx j p hp
        have cy := hy j q hq
        have HAT := Lib.hid (laterL_at _ _ j p q hp hq)
        have HX := Lib.hid hx
        have HY := Lib.hid hy
        clear hx hy hp hq
        by_cases he : p = q
        · subst he
          go_wp2_with (with_reducible refine wp_halt ?_)
          refine Halt.on ?_
          go_region
          go_wp2
          go_roundg (gk - 1)
          case measure => omega
          case rel => exact ⟨j + 1, by go_num, by omega, by omega, by rw [← HL.out, HAT.out, if_pos trivial], HX.out.drew, HY.out.drew, hb.drew⟩
        · have HE := Lib.hid he
          go_wp2_with (with_reducible refine wp_halt ?_)
          refine Halt.on ?_
          go_region
          go_wp2_with (with_reducible refine wp_halt ?_)
          refine Halt.on ?_
          go_region
          go_wp2
          go_ret
          exact ⟨ret_bool (by rw [← HL.out, HAT.out, if_neg HE.out]), hb.drew.drew⟩
      · have ej : j = 6 := by omega
        subst ej
        go_wp2
        go_ret
        exact ⟨ret_bool (by rw [← HL.out]; rfl), hb⟩
  · obtain ⟨hx, hy, hbV⟩ := two_rows W0 y' m' d' h' i' s' y m d h i s 44
    have hbW := HB.out
    rw [HG.out] at hbW
    have hbw := chain hbW hbV
    clear hbW hbV
    generalize ((W0.alloc (.cells #[.int .i64 y', .int .i64 m', .int .i64 d', .int .i64 h', .int .i64 i', .int .i64 s'] 44)).alloc (.cells #[.int .i64 y, .int .i64 m, .int .i64 d, .int .i64 h, .int .i64 i, .int .i64 s] 44)).drew = V at hx hy hbw ⊢
    obtain ⟨A, hA⟩ : ∃ A, A = W0.heap.size := ⟨_, rfl⟩
    obtain ⟨B, hB⟩ : ∃ B, B = W0.heap.size + 1 := ⟨_, rfl⟩
    rw [← hB, ← hA]
    rw [← hA] at hx
    rw [← hB] at hy
    have HX := Lib.hid hx
    have HY := Lib.hid hy
    clear hA hB hx hy
    go_wp2_with fail
    go_loopg [34] 7 (fun gk c wr => RLater B A [y, m, d, h, i, s] [y', m', d', h', i', s'] w gk c wr)
    case atStart => exact ⟨0, rfl, by omega, by omega, rfl, HY.out, HX.out, hbw⟩
    case round =>
      clear HX HY hbw
      obtain ⟨j, rfl, hj, hj6, hl, hx, hy, hb⟩ := hrel
      have HL := Lib.hid hl
      clear hl
      rcases Nat.lt_or_ge j 6 with hlt | hlt
      · obtain ⟨p, hp⟩ : ∃ p, [y, m, d, h, i, s][j]? = some p := ⟨_, List.getElem?_eq_getElem (by exact hlt)⟩
        obtain ⟨q, hq⟩ : ∃ q, [y', m', d', h', i', s'][j]? = some q := ⟨_, List.getElem?_eq_getElem (by exact hlt)⟩
        have cx := hx j p hp
        have cy := hy j q hq
        have HAT := Lib.hid (laterL_at _ _ j p q hp hq)
        have HX := Lib.hid hx
        have HY := Lib.hid hy
        clear hx hy hp hq
        by_cases he : p = q
        · subst he
          go_wp2_with (with_reducible refine wp_halt ?_)
          refine Halt.on ?_
          go_region
          go_wp2
          go_roundg (gk - 1)
          case measure => omega
          case rel => exact ⟨j + 1, by go_num, by omega, by omega, by rw [← HL.out, HAT.out, if_pos trivial], HX.out.drew, HY.out.drew, hb.drew⟩
        · have HE := Lib.hid he
          go_wp2_with (with_reducible refine wp_halt ?_)
          refine Halt.on ?_
          go_region
          go_wp2_with (with_reducible refine wp_halt ?_)
          refine Halt.on ?_
          go_region
          go_wp2
          go_ret
          exact ⟨ret_bool (by rw [← HL.out, HAT.out, if_neg HE.out]), hb.drew.drew⟩
      · have ej : j = 6 := by omega
        subst ej
        go_wp2
        go_ret
        exact ⟨ret_bool (by rw [← HL.out]; rfl), hb⟩
end Go.Proofs.YtfpakabdgnnheaaDoor
