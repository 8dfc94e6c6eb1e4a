/-
  The document's own answers (package cracknelref13): Cmp: a contract.
-/
import Derived.Test.YtkpdejnhjbojpaaDoorCkRq
import Derived.Test.YtkpdejnhjbojpaaDoorBaseLast
namespace Go.Proofs.YtkpdejnhjbojpaaDoor
open Go.RowKit
set_option linter.unusedVariables false

/-- The first that is not 0. -/
def firstZ : List Int → Int
  | [] => 0
  | x :: l => if x = 0 then firstZ l else x

theorem firstZ_at : ∀ (l : List Int) (k : Nat), k < l.length → firstZ (l.drop k) = if l.getD k 0 = 0 then firstZ (l.drop (k + 1)) else l.getD k 0
  | [], k, h => by simp at h
  | x :: l, 0, _ => by simp [firstZ]
  | x :: l, k + 1, h => by
    have := firstZ_at l k (by simpa using h)
    simpa using this

theorem cmpC_first (a b : Ck) : cmpC a b = firstZ [cmpK a b, cmpN a.cr b.cr, cmpN a.ac b.ac, cmpT a.val.data.toList b.val.data.toList, cmpN a.ex b.ex, cmpN (bitN a.ho) (bitN b.ho), cmpN (bitN a.se) (bitN b.se), cmpN (bitN a.hp) (bitN b.hp), cmpN a.ss b.ss] := by
  have e : ∀ x : Int, (if x = 0 then 0 else x) = x := fun x => by split <;> simp_all
  simp only [cmpC, lexF, firstZ, e]

def CmpAt (l : List Int) (W : World) (g : Nat) (i : Value) (wr : World) : Prop :=
  ∃ k : Nat, i = .int .i64 (k : Int) ∧ k + g = 10 ∧ 1 ≤ g ∧ firstZ l = firstZ (l.drop k) ∧ W = wr

set_option maxRecDepth 100000 in
set_option maxHeartbeats 3200000 in
theorem rcmp_any (a b : Ck) (w : World) (ha : a.dom.size ≤ 9223372036854775807 ∧ a.path.size ≤ 9223372036854775807 ∧ a.name.size ≤ 9223372036854775807 ∧ a.val.size ≤ 9223372036854775807) (hb : b.dom.size ≤ 9223372036854775807 ∧ b.path.size ≤ 9223372036854775807 ∧ b.name.size ≤ 9223372036854775807 ∧ b.val.size ≤ 9223372036854775807) :
    Calls Tryd.prog 18 #[ckV a, ckV b] w fun e w' => e = .returned (.int .i64 (cmpC a b)) ∧ Below w.heap.size w w' := by
  have HK := Lib.hid (rkeys_any a b · (by omega) (by omega))
  have HT := Lib.hid (rtextc_any a.val b.val · (by omega) (by omega))
  have HO1 := Lib.hid (rofk_any a)
  have HO2 := Lib.hid (rofk_any b)
  have hb0 := ((Below.refl w.heap.size w).alloc (Nat.le_refl _) (.cells (ckCells a) 23)).alloc (by simp) (.cells (ckCells b) 23)
  have ga := (CkAt.new w a 23).keep ((Below.refl _ _).alloc (Nat.le_refl _) (.cells (ckCells b) 23))
  have gb := CkAt.new (w.alloc (.cells (ckCells a) 23)) b 23
  rw [show ∀ o : Obj, (w.alloc o).heap.size = w.heap.size + 1 from fun o => by simp] at gb
  have HR := Lib.hid (cmpC_first a b)
  generalize cmpC a b = R at HR ⊢
  generalize cmpK a b = k0 at HK HR
  generalize cmpT a.val.data.toList b.val.data.toList = k3 at HT HR
  obtain ⟨d, p, n, v, cr, ac, ex, ho, se, hp, ss⟩ := a
  obtain ⟨d', p', n', v', cr', ac', ex', ho', se', hp', ss'⟩ := b
  clear ha hb
  simp only [ckCells] at hb0 ga gb
  go_enter Tryd.func18, Tryd.ntmps18
  go_wp2_with (with_reducible refine wp_halt ?_)
  refine Halt.on ?_
  generalize hW : (w.alloc (.cells #[.string d, .string p, .string n, .string v, .int .i64 cr, .int .i64 ac, .int .i64 ex, .bool ho, .bool se, .bool hp, .int .i64 ss] 23)).alloc (.cells #[.string d', .string p', .string n', .string v', .int .i64 cr', .int .i64 ac', .int .i64 ex', .bool ho', .bool se', .bool hp', .int .i64 ss'] 23) = W at *
  clear hW
  have p0 : ∀ x : Ext W, x.world.cell? ⟨w.heap.size, 0, none⟩ = some (.string d) := fun x => (ga.keep x.below).1
  have p1 : ∀ x : Ext W, x.world.cell? ⟨w.heap.size, 1, none⟩ = some (.string p) := fun x => (ga.keep x.below).2.1
  have p2 : ∀ x : Ext W, x.world.cell? ⟨w.heap.size, 2, none⟩ = some (.string n) := fun x => (ga.keep x.below).2.2.1
  have p3 : ∀ x : Ext W, x.world.cell? ⟨w.heap.size, 3, none⟩ = some (.string v) := fun x => (ga.keep x.below).2.2.2.1
  have p4 : ∀ x : Ext W, x.world.cell? ⟨w.heap.size, 4, none⟩ = some (.int .i64 cr) := fun x => (ga.keep x.below).2.2.2.2.1
  have p5 : ∀ x : Ext W, x.world.cell? ⟨w.heap.size, 5, none⟩ = some (.int .i64 ac) := fun x => (ga.keep x.below).2.2.2.2.2.1
  have p6 : ∀ x : Ext W, x.world.cell? ⟨w.heap.size, 6, none⟩ = some (.int .i64 ex) := fun x => (ga.keep x.below).2.2.2.2.2.2.1
  have p7 : ∀ x : Ext W, x.world.cell? ⟨w.heap.size, 7, none⟩ = some (.bool ho) := fun x => (ga.keep x.below).2.2.2.2.2.2.2.1
  have p8 : ∀ x : Ext W, x.world.cell? ⟨w.heap.size, 8, none⟩ = some (.bool se) := fun x => (ga.keep x.below).2.2.2.2.2.2.2.2.1
  have p9 : ∀ x : Ext W, x.world.cell? ⟨w.heap.size, 9, none⟩ = some (.bool hp) := fun x => (ga.keep x.below).2.2.2.2.2.2.2.2.2.1
  have p10 : ∀ x : Ext W, x.world.cell? ⟨w.heap.size, 10, none⟩ = some (.int .i64 ss) := fun x => (ga.keep x.below).2.2.2.2.2.2.2.2.2.2
  have q0 : ∀ x : Ext W, x.world.cell? ⟨w.heap.size + 1, 0, none⟩ = some (.string d') := fun x => (gb.keep x.below).1
  have q1 : ∀ x : Ext W, x.world.cell? ⟨w.heap.size + 1, 1, none⟩ = some (.string p') := fun x => (gb.keep x.below).2.1
  have q2 : ∀ x : Ext W, x.world.cell? ⟨w.heap.size + 1, 2, none⟩ = some (.string n') := fun x => (gb.keep x.below).2.2.1
  have q3 : ∀ x : Ext W, x.world.cell? ⟨w.heap.size + 1, 3, none⟩ = some (.string v') := fun x => (gb.keep x.below).2.2.2.1
  have q4 : ∀ x : Ext W, x.world.cell? ⟨w.heap.size + 1, 4, none⟩ = some (.int .i64 cr') := fun x => (gb.keep x.below).2.2.2.2.1
  have q5 : ∀ x : Ext W, x.world.cell? ⟨w.heap.size + 1, 5, none⟩ = some (.int .i64 ac') := fun x => (gb.keep x.below).2.2.2.2.2.1
  have q6 : ∀ x : Ext W, x.world.cell? ⟨w.heap.size + 1, 6, none⟩ = some (.int .i64 ex') := fun x => (gb.keep x.below).2.2.2.2.2.2.1
  have q7 : ∀ x : Ext W, x.world.cell? ⟨w.heap.size + 1, 7, none⟩ = some (.bool ho') := fun x => (gb.keep x.below).2.2.2.2.2.2.2.1
  have q8 : ∀ x : Ext W, x.world.cell? ⟨w.heap.size + 1, 8, none⟩ = some (.bool se') := fun x => (gb.keep x.below).2.2.2.2.2.2.2.2.1
  have q9 : ∀ x : Ext W, x.world.cell? ⟨w.heap.size + 1, 9, none⟩ = some (.bool hp') := fun x => (gb.keep x.below).2.2.2.2.2.2.2.2.2.1
  have q10 : ∀ x : Ext W, x.world.cell? ⟨w.heap.size + 1, 10, none⟩ = some (.int .i64 ss') := fun x => (gb.keep x.below).2.2.2.2.2.2.2.2.2.2
  clear ga gb
  refine wp_region_lastL (z := 51) (r := 2) (by kernel_rfl) (by kernel_rfl) (by dsimp only [List.take]) (by dsimp only [List.drop]) ?_
  repeat (go_big_quiet_step (first
    | (go_at_call 15; with_reducible refine (HO1.out _).mono ?_; rintro _ w1 ⟨rfl, hb1⟩; exact ⟨rfl, Ext.on _ hb1⟩)
    | (go_at_call 15; with_reducible refine (HO2.out _).mono ?_; rintro _ w1 ⟨rfl, hb1⟩; exact ⟨rfl, Ext.on _ hb1⟩)
    | (go_at_call 16; with_reducible refine (HK.out _).mono ?_; rintro _ w1 ⟨rfl, hb1⟩; exact ⟨rfl, Ext.on _ hb1⟩)
    | (go_at_call 38; with_reducible refine (HT.out _).mono ?_; rintro _ w1 ⟨rfl, hb1⟩; exact ⟨rfl, Ext.on _ hb1⟩)
    | (go_at_call 45; refine (rbit_any _ _).mono ?_; rintro _ w1 ⟨rfl, rfl⟩; exact ⟨rfl, Ext.same _ rfl⟩)
    | (go_at_call 44; refine (rnumber_any _ _ _).mono ?_; rintro _ w1 ⟨rfl, rfl⟩; exact ⟨rfl, Ext.same _ rfl⟩)))
  refine wpQuiet_nil ?_
  rintro _ ⟨x, rfl⟩
  have hb1 := chain hb0 x.below
  clear p0 p1 p2 p3 p4 p5 p6 p7 p8 p9 p10 q0 q1 q2 q3 q4 q5 q6 q7 q8 q9 q10 HK HT HO1 HO2
  generalize x.world = V at hb1 ⊢
  go_wp2
  replace HR : Hid (R = firstZ [k0, cmpN cr cr', cmpN ac ac', k3, cmpN ex ex', cmpN (bitN ho) (bitN ho'), cmpN (bitN se) (bitN se'), cmpN (bitN hp) (bitN hp'), cmpN ss ss']) := HR
  generalize cmpN cr cr' = k1 at HR ⊢
  generalize cmpN ac ac' = k2 at HR ⊢
  generalize cmpN ex ex' = k4 at HR ⊢
  generalize cmpN (bitN ho) (bitN ho') = k5 at HR ⊢
  generalize cmpN (bitN se) (bitN se') = k6 at HR ⊢
  generalize cmpN (bitN hp) (bitN hp') = k7 at HR ⊢
  generalize cmpN ss ss' = k8 at HR ⊢
  have hb2 := hb1.alloc hb1.size (.cells #[.int .i64 k0, .int .i64 k1, .int .i64 k2, .int .i64 k3, .int .i64 k4, .int .i64 k5, .int .i64 k6, .int .i64 k7, .int .i64 k8] 3)
  have hL : ∀ k, k < 9 → (V.alloc (.cells #[.int .i64 k0, .int .i64 k1, .int .i64 k2, .int .i64 k3, .int .i64 k4, .int .i64 k5, .int .i64 k6, .int .i64 k7, .int .i64 k8] 3)).cell? ⟨V.heap.size, k, none⟩ = some (.int .i64 ([k0, k1, k2, k3, k4, k5, k6, k7, k8].getD k 0)) := by
    intro k hk
    rcases (show k = 0 ∨ k = 1 ∨ k = 2 ∨ k = 3 ∨ k = 4 ∨ k = 5 ∨ k = 6 ∨ k = 7 ∨ k = 8 by omega) with rfl | rfl | rfl | rfl | rfl | rfl | rfl | rfl | rfl <;> simp
  have hA : ∀ k, k < 9 → firstZ ([k0, k1, k2, k3, k4, k5, k6, k7, k8].drop k) = if [k0, k1, k2, k3, k4, k5, k6, k7, k8].getD k 0 = 0 then firstZ ([k0, k1, k2, k3, k4, k5, k6, k7, k8].drop (k + 1)) else [k0, k1, k2, k3, k4, k5, k6, k7, k8].getD k 0 := fun k hk => firstZ_at _ k (by simpa using hk)
  have hE : firstZ ([k0, k1, k2, k3, k4, k5, k6, k7, k8].drop 9) = 0 := rfl
  generalize V.alloc (.cells #[.int .i64 k0, .int .i64 k1, .int .i64 k2, .int .i64 k3, .int .i64 k4, .int .i64 k5, .int .i64 k6, .int .i64 k7, .int .i64 k8] 3) = W2 at *
  generalize [k0, k1, k2, k3, k4, k5, k6, k7, k8] = L at HR hL hA hE
  replace hL := Lib.hid hL
  replace hA := Lib.hid hA
  go_loopg [6] 10 (fun g i wr => CmpAt L W2 g i wr)
  case atStart => exact ⟨0, rfl, rfl, by omega, rfl, rfl⟩
  case round =>
    obtain ⟨k, rfl, hk, hg, hinv, rfl⟩ := hrel
    have HI := Lib.hid (HR.out.trans hinv)
    have HI2 := Lib.hid hinv
    clear hinv
    by_cases hlt : k < 9
    · have HS := Lib.hid (hA.out k hlt)
      have hc := hL.out k hlt
      generalize L.getD k 0 = y at HS hc
      have d3 : decide ((k : Int) < 9) = true := by simp; omega
      have d4 : (k : Int) < 9 := by omega
      by_cases hy : y = 0
      · have e0 : ((y : Int) == 0) = true := by simpa using hy
        have HN : Hid (firstZ L = firstZ (L.drop (k + 1))) := by show _ = _; rw [HI2.out, HS.out, if_pos hy]
        go_wp2
        go_roundg (gk - 1)
        case measure => omega
        case rel => exact ⟨k + 1, by go_num, by omega, by omega, HN.out, rfl⟩
      · have e0 : ((y : Int) == 0) = false := by simpa using hy
        have HN : Hid (R = y) := by show _ = _; rw [HI.out, HS.out, if_neg hy]
        go_wp2
        go_ret
        exact ⟨ret_i64 HN.out.symm, hb2⟩
    · have h9 : k = 9 := by omega
      have HN : Hid (R = 0) := by show _ = _; rw [HI.out, h9]; exact hE
      have d3 : decide ((k : Int) < 9) = false := by simp; omega
      have d4 : ¬ (k : Int) < 9 := by omega
      go_wp2
      go_ret
      exact ⟨ret_i64 HN.out.symm, hb2⟩
end Go.Proofs.YtkpdejnhjbojpaaDoor
