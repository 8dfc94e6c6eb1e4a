/-
  Package date: clock, hours, Imf, Iso: contracts.
  Package date: Uniso: a contract.
-/
import Derived.Test.YtmmkokomffclmaaDoorDatTab
import Derived.Test.YtmmkokomffclmaaDoorDatQa
import Derived.Test.YtmmkokomffclmaaDoorDatMore
import Derived.Test.YtmmkokomffclmaaDoorCivP4
import Derived.Test.YtmmkokomffclmaaDoorDatRefF
import Derived.Test.YtmmkokomffclmaaDoorDatRefU
namespace Go.Proofs.YtmmkokomffclmaaDoor
open Go.RowKit
set_option linter.unusedVariables false

theorem six_set {w0 w : World} {n g : Nat} {v0 v1 v2 v3 v4 v5 : Value} (hb : Below n w0 w) (hg : n ≤ g) : Below n w0 ((((((w.setCell ⟨g, 0, none⟩ v0).setCell ⟨g, 1, none⟩ v1).setCell ⟨g, 2, none⟩ v2).setCell ⟨g, 3, none⟩ v3).setCell ⟨g, 4, none⟩ v4).setCell ⟨g, 5, none⟩ v5) :=
  (((((hb.setCell (p := ⟨g, 0, none⟩) hg v0).setCell (p := ⟨g, 1, none⟩) hg v1).setCell (p := ⟨g, 2, none⟩) hg v2).setCell (p := ⟨g, 3, none⟩) hg v3).setCell (p := ⟨g, 4, none⟩) hg v4).setCell (p := ⟨g, 5, none⟩) hg v5

set_option maxRecDepth 100000 in
set_option maxHeartbeats 1600000 in
theorem pclock_yes (t y m d h i s : Int) (w : World) (hs : Shows t y m d h i s) (h0 : 0 ≤ t) (hT : CTabs w) :
    Calls Tryd.prog 31 #[.int .i64 t] w fun e w' => e = .returned (.tuple #[clkV y m d h i s, .bool true]) ∧ Below w.heap.size w w' := by
  have t2 := hs.within.2
  have HO := Lib.hid (of_yes t y m d h i s · hs)
  have hb0 := (Below.refl w.heap.size w).alloc (Nat.le_refl _) (.cells #[.int .i64 0, .int .i64 0, .int .i64 0, .int .i64 0, .int .i64 0, .int .i64 0] 34)
  have hc0 := ClkAt.new w 0 0 0 0 0 0 34
  have HB0 := Lib.hid hb0
  have HC0 := Lib.hid hc0
  have HT := Lib.hid hT
  clear hs hT hb0 hc0
  go_enter Tryd.func31, Tryd.ntmps31
  go_wp2_with fail
  refine (HO.out _ (HT.out.alloc _)).mono ?_
  rintro _ w1 ⟨rfl, hb⟩
  have hb1 := chain HB0.out hb
  obtain ⟨c0, c1, c2, c3, c4, c5⟩ := HC0.out.keep hb
  have f : ∀ j, j < 6 → w1.frozen? ⟨w.heap.size, j, none⟩ = false := fun j hj => by
    rw [hb.frozen (p := ⟨w.heap.size, j, none⟩) (by simp)]
    rcases (show j = 0 ∨ j = 1 ∨ j = 2 ∨ j = 3 ∨ j = 4 ∨ j = 5 from by omega) with rfl | rfl | rfl | rfl | rfl | rfl <;> simp
  have f0 := f 0 (by decide)
  have f1 := f 1 (by decide)
  have f2 := f 2 (by decide)
  have f3 := f 3 (by decide)
  have f4 := f 4 (by decide)
  have f5 := f 5 (by decide)
  clear f hb
  go_wp2
  refine bodyPost_ret (v := .tuple #[clkV y m d h i s, .bool true]) (by rw [results_cell_tmp rfl]; go_simp) rfl ?_
  exact ⟨rfl, six_set hb1 (Nat.le_refl _)⟩

set_option maxRecDepth 100000 in
set_option maxHeartbeats 1600000 in
theorem pclock_no (t : Int) (w : World) (h1 : -9223372036854775808 ≤ t) (h2 : t ≤ 9223372036854775807) (h : t < 0 ∨ 253402300799 < t) :
    Calls Tryd.prog 31 #[.int .i64 t] w fun e w' => e = .returned (.tuple #[clkV 0 0 0 0 0 0, .bool false]) ∧ Below w.heap.size w w' := by
  have hb0 := (Below.refl w.heap.size w).alloc (Nat.le_refl _) (.cells #[.int .i64 0, .int .i64 0, .int .i64 0, .int .i64 0, .int .i64 0, .int .i64 0] 34)
  have HB0 := Lib.hid hb0
  clear hb0
  rcases (show t < 0 ∨ (¬ t < 0 ∧ 253402300799 < t) from by omega) with h | ⟨h, h'⟩
  all_goals
    go_enter Tryd.func31, Tryd.ntmps31
    go_wp2
    refine bodyPost_ret (v := .tuple #[clkV 0 0 0 0 0 0, .bool false]) (by rw [results_cell_tmp rfl]; go_simp) rfl ?_
    exact ⟨rfl, HB0.out⟩

/-- hh:mm:ss -/
def hoursB (h i s : Nat) : ByteArray := ⟨(hmsL h i s).toArray⟩
theorem hoursB_size (h i s : Nat) : (hoursB h i s).size = 8 := by
  show (hmsL h i s).toArray.size = 8
  rw [List.size_toArray]
  simp [hmsL, padK_len]

set_option maxRecDepth 100000 in
set_option maxHeartbeats 1600000 in
theorem hours_any (y m d : Int) (h i s : Nat) (w : World) (s5 : h < 100) (s6 : i < 100) (s7 : s < 100) :
    Calls Tryd.prog 34 #[clkV y m d h i s] w fun e w' => e = .returned (.string (hoursB h i s)) ∧ Below w.heap.size w w' := by
  have HHv : Hid (∀ W, Calls Tryd.prog 33 #[.int .i64 (h : Int), .int .i64 2] W fun e w' => e = .returned (.string (padB h 2)) ∧ Below W.heap.size W w') := fun W => fixed_yes h 2 W (by decide) (by decide) s5
  have HIv : Hid (∀ W, Calls Tryd.prog 33 #[.int .i64 (i : Int), .int .i64 2] W fun e w' => e = .returned (.string (padB i 2)) ∧ Below W.heap.size W w') := fun W => fixed_yes i 2 W (by decide) (by decide) s6
  have HSv : Hid (∀ W, Calls Tryd.prog 33 #[.int .i64 (s : Int), .int .i64 2] W fun e w' => e = .returned (.string (padB s 2)) ∧ Below W.heap.size W w') := fun W => fixed_yes s 2 W (by decide) (by decide) s7
  have zh := padB_size h 2
  have zi := padB_size i 2
  have zs := padB_size s 2
  have HE : Hid (((padB h 2 ++ ⟨#[58]⟩ ++ padB i 2 ++ ⟨#[58]⟩ ++ padB s 2 : ByteArray)) = hoursB h i s) := by
    show _ = _
    apply ba_ext
    simp [hmsL, padB, hoursB]
  have o1 : ∀ c : UInt8, (ByteArray.mk #[c]).size = 1 := fun _ => rfl
  clear s5 s6 s7
  go_enter Tryd.func34, Tryd.ntmps34
  go_wp2_with (with_reducible refine wp_halt ?_)
  refine Halt.on ?_
  have hc := ClkAt.new w y m d h i s 34
  have hb1 := (Below.refl w.heap.size w).alloc (Nat.le_refl _) (.cells #[.int .i64 y, .int .i64 m, .int .i64 d, .int .i64 h, .int .i64 i, .int .i64 s] 34)
  generalize w.alloc (.cells #[.int .i64 y, .int .i64 m, .int .i64 d, .int .i64 h, .int .i64 i, .int .i64 s] 34) = W at *
  have x3 : ∀ x : Ext W, x.world.cell? ⟨w.heap.size, 3, none⟩ = some (.int .i64 h) := fun x => (hc.keep x.below).2.2.2.1
  have x4 : ∀ x : Ext W, x.world.cell? ⟨w.heap.size, 4, none⟩ = some (.int .i64 i) := fun x => (hc.keep x.below).2.2.2.2.1
  have x5 : ∀ x : Ext W, x.world.cell? ⟨w.heap.size, 5, none⟩ = some (.int .i64 s) := fun x => (hc.keep x.below).2.2.2.2.2
  clear hc
  refine wp_region_ext (by kernel_rfl) (by kernel_rfl) ?_
  repeat (go_big_quiet_step (first
    | (go_at_call 33; with_reducible refine (HHv.out _).mono ?_; rintro _ w1 ⟨rfl, hb1⟩; exact ⟨rfl, Ext.on _ hb1⟩)
    | (go_at_call 33; with_reducible refine (HIv.out _).mono ?_; rintro _ w1 ⟨rfl, hb1⟩; exact ⟨rfl, Ext.on _ hb1⟩)
    | (go_at_call 33; with_reducible refine (HSv.out _).mono ?_; rintro _ w1 ⟨rfl, hb1⟩; exact ⟨rfl, Ext.on _ hb1⟩)))
  refine wpQuiet_nil ?_
  rintro _ ⟨x, rfl⟩
  have hb2 := chain hb1 x.below
  go_wp2
  go_ret
  exact ⟨ret_str HE.out, hb2⟩

set_option maxRecDepth 100000 in
set_option maxHeartbeats 1600000 in
theorem piso_yes (t : Int) (y m d h i s : Nat) (w : World) (hs : Shows t y m d h i s) (h0 : 0 ≤ t) (hT : CTabs w) :
    Calls Tryd.prog 15 #[.int .i64 t] w fun e w' => e = .returned (.tuple #[.string ⟨(isoL y m d h i s).toArray⟩, .bool true]) ∧ Below w.heap.size w w' := by
  obtain ⟨s1, s2, s3, s4, s5, s6, s7⟩ := shows_small hs
  have HO := Lib.hid (pclock_yes t y m d h i s w hs h0 hT)
  have HYv : Hid (∀ W, Calls Tryd.prog 33 #[.int .i64 (y : Int), .int .i64 4] W fun e w' => e = .returned (.string (padB y 4)) ∧ Below W.heap.size W w') := fun W => fixed_yes y 4 W (by decide) (by decide) s1
  have HMv : Hid (∀ W, Calls Tryd.prog 33 #[.int .i64 (m : Int), .int .i64 2] W fun e w' => e = .returned (.string (padB m 2)) ∧ Below W.heap.size W w') := fun W => fixed_yes m 2 W (by decide) (by decide) (by omega)
  have HDv : Hid (∀ W, Calls Tryd.prog 33 #[.int .i64 (d : Int), .int .i64 2] W fun e w' => e = .returned (.string (padB d 2)) ∧ Below W.heap.size W w') := fun W => fixed_yes d 2 W (by decide) (by decide) s4
  have HHv := Lib.hid (hours_any y m d h i s · s5 s6 s7)
  have zy := padB_size y 4
  have zm := padB_size m 2
  have zd := padB_size d 2
  have zh := hoursB_size h i s
  have HE : Hid (((padB y 4 ++ ⟨#[45]⟩ ++ padB m 2 ++ ⟨#[45]⟩ ++ padB d 2 ++ ⟨#[84]⟩ ++ hoursB h i s ++ ⟨#[90]⟩ : ByteArray)) = ⟨(isoL y m d h i s).toArray⟩) := by
    show _ = _
    apply ba_ext
    simp [isoL, hoursB, padB]
  have o1 : ∀ c : UInt8, (ByteArray.mk #[c]).size = 1 := fun _ => rfl
  clear hs s1 s2 s3 s4 s5 s6 s7 hT
  go_enter Tryd.func15, Tryd.ntmps15
  go_wp2_with fail
  refine HO.out.mono ?_
  rintro _ w1 ⟨rfl, hb1⟩
  go_wp2_with (with_reducible refine wp_halt ?_)
  refine Halt.on ?_
  have hc := ClkAt.new w1 y m d h i s 34
  replace hb1 := hb1.alloc hb1.size (.cells #[.int .i64 y, .int .i64 m, .int .i64 d, .int .i64 h, .int .i64 i, .int .i64 s] 34)
  generalize w1.alloc (.cells #[.int .i64 y, .int .i64 m, .int .i64 d, .int .i64 h, .int .i64 i, .int .i64 s] 34) = W at *
  have x0 : ∀ x : Ext W, x.world.cell? ⟨w1.heap.size, 0, none⟩ = some (.int .i64 y) := fun x => (hc.keep x.below).1
  have x1 : ∀ x : Ext W, x.world.cell? ⟨w1.heap.size, 1, none⟩ = some (.int .i64 m) := fun x => (hc.keep x.below).2.1
  have x2 : ∀ x : Ext W, x.world.cell? ⟨w1.heap.size, 2, none⟩ = some (.int .i64 d) := fun x => (hc.keep x.below).2.2.1
  have x3 : ∀ x : Ext W, x.world.cell? ⟨w1.heap.size, 3, none⟩ = some (.int .i64 h) := fun x => (hc.keep x.below).2.2.2.1
  have x4 : ∀ x : Ext W, x.world.cell? ⟨w1.heap.size, 4, none⟩ = some (.int .i64 i) := fun x => (hc.keep x.below).2.2.2.2.1
  have x5 : ∀ x : Ext W, x.world.cell? ⟨w1.heap.size, 5, none⟩ = some (.int .i64 s) := fun x => (hc.keep x.below).2.2.2.2.2
  clear hc
  refine wp_region_ext (by kernel_rfl) (by kernel_rfl) ?_
  repeat (go_big_quiet_step (first
    | (go_at_call 33; with_reducible refine (HYv.out _).mono ?_; rintro _ w1 ⟨rfl, hb1⟩; exact ⟨rfl, Ext.on _ hb1⟩)
    | (go_at_call 33; with_reducible refine (HMv.out _).mono ?_; rintro _ w1 ⟨rfl, hb1⟩; exact ⟨rfl, Ext.on _ hb1⟩)
    | (go_at_call 33; with_reducible refine (HDv.out _).mono ?_; rintro _ w1 ⟨rfl, hb1⟩; exact ⟨rfl, Ext.on _ hb1⟩)
    | (go_at_call 34; with_reducible refine (HHv.out _).mono ?_; rintro _ w1 ⟨rfl, hb1⟩; exact ⟨rfl, Ext.on _ hb1⟩)))
  refine wpQuiet_nil ?_
  rintro _ ⟨x, rfl⟩
  have hb2 := chain hb1 x.below
  go_wp2
  go_ret2
  exact ⟨ret_strb _ HE.out, hb2⟩

set_option maxRecDepth 100000 in
theorem piso_no (t : Int) (w : World) (h1 : -9223372036854775808 ≤ t) (h2 : t ≤ 9223372036854775807) (h : t < 0 ∨ 253402300799 < t) :
    Calls Tryd.prog 15 #[.int .i64 t] w fun e w' => e = .returned (.tuple #[.string ByteArray.empty, .bool false]) ∧ Below w.heap.size w w' := by
  have HO := Lib.hid (pclock_no t w h1 h2 h)
  clear h
  go_enter Tryd.func15, Tryd.ntmps15
  go_wp2_with fail
  refine HO.out.mono ?_
  rintro _ w1 ⟨rfl, hb1⟩
  go_wp2
  go_ret2
  exact ⟨rfl, hb1.alloc hb1.size _⟩

set_option maxRecDepth 100000 in
set_option maxHeartbeats 3200000 in
theorem pimf_yes (t : Int) (x y m d h i s : Nat) (w : World) (hs : Shows t y m d h i s) (h0 : 0 ≤ t) (hx : wday (t / 86400) = x) (hT : DTabs w) :
    Calls Tryd.prog 13 #[.int .i64 t] w fun e w' => e = .returned (.tuple #[.string ⟨(imfL x y m d h i s).toArray⟩, .bool true]) ∧ Below w.heap.size w w' := by
  obtain ⟨s1, s2, s3, s4, s5, s6, s7⟩ := shows_small hs
  have t2 := hs.within.2
  have hx7 : x < 7 := by unfold wday at hx; omega
  have HO := Lib.hid (pclock_yes t y m d h i s w hs h0 hT.civ)
  have HYv : Hid (∀ W, Calls Tryd.prog 33 #[.int .i64 (y : Int), .int .i64 4] W fun e w' => e = .returned (.string (padB y 4)) ∧ Below W.heap.size W w') := fun W => fixed_yes y 4 W (by decide) (by decide) s1
  have HDv : Hid (∀ W, Calls Tryd.prog 33 #[.int .i64 (d : Int), .int .i64 2] W fun e w' => e = .returned (.string (padB d 2)) ∧ Below W.heap.size W w') := fun W => fixed_yes d 2 W (by decide) (by decide) s4
  have HHv := Lib.hid (hours_any y m d h i s · s5 s6 s7)
  have hq : t.tdiv 86400 = t / 86400 := Int.tdiv_eq_ediv_of_nonneg h0
  have HW : Hid (∀ W, Calls Tryd.prog 32 #[.int .i64 (t.tdiv 86400)] W fun e w' => e = .returned (.int .i64 (x : Int)) ∧ Below W.heap.size W w') := fun W => by
    have := weekday_any (t / 86400) W (by omega) (by omega)
    rw [hx] at this
    rw [hq]
    exact this
  have hqr : -9223372036854775808 ≤ t.tdiv 86400 ∧ t.tdiv 86400 ≤ 9223372036854775807 := by rw [hq]; omega
  have zy := padB_size y 4
  have zd := padB_size d 2
  have zh := hoursB_size h i s
  have zx := dayB_size x hx7
  have zm := monHB_size (m - 1) (by omega)
  have HE : Hid (((dayB x ++ ⟨#[44, 32]⟩ ++ padB d 2) ++ ⟨#[32]⟩ ++ monHB (m - 1) ++ ⟨#[32]⟩ ++ padB y 4 ++ ⟨#[32]⟩ ++ hoursB h i s ++ ⟨#[32, 71, 77, 84]⟩ : ByteArray) = ⟨(imfL x y m d h i s).toArray⟩) := by
    show _ = _
    apply ba_ext
    simp [imfL, hoursB, padB, dayB, monHB]
  have o1 : ∀ c : UInt8, (ByteArray.mk #[c]).size = 1 := fun _ => rfl
  have o2 : ∀ a b : UInt8, (ByteArray.mk #[a, b]).size = 2 := fun _ _ => rfl
  have o4 : ∀ a b c d : UInt8, (ByteArray.mk #[a, b, c, d]).size = 4 := fun _ _ _ _ => rfl
  obtain ⟨j, hj⟩ : ∃ j, j = m - 1 := ⟨_, rfl⟩
  rw [← hj] at zm HE
  have hjm : (m : Int) - 1 = (j : Int) := by omega
  have hj12 : j < 12 := by omega
  have HTT := Lib.hid hT
  clear hs s1 s2 s3 s4 s5 s6 s7 hj hx hq hT
  go_enter Tryd.func13, Tryd.ntmps13
  go_wp2_with fail
  refine HO.out.mono ?_
  rintro _ w1 ⟨rfl, hb1⟩
  have ht1 := HTT.out.keep hb1
  go_wp2_with (with_reducible refine wp_halt ?_)
  refine Halt.on ?_
  have hc := ClkAt.new w1 y m d h i s 34
  replace hb1 := hb1.alloc hb1.size (.cells #[.int .i64 y, .int .i64 m, .int .i64 d, .int .i64 h, .int .i64 i, .int .i64 s] 34)
  replace ht1 := ht1.alloc (.cells #[.int .i64 y, .int .i64 m, .int .i64 d, .int .i64 h, .int .i64 i, .int .i64 s] 34)
  generalize w1.alloc (.cells #[.int .i64 y, .int .i64 m, .int .i64 d, .int .i64 h, .int .i64 i, .int .i64 s] 34) = W at *
  have x2 : ∀ x : Ext W, x.world.cell? ⟨w1.heap.size, 2, none⟩ = some (.int .i64 d) := fun x => (hc.keep x.below).2.2.1
  have x6 : ∀ z : Ext W, z.world.cell? ⟨0, x, none⟩ = some (.string (dayB x)) := fun z => cell_keep (ht1.day x hx7) z.below
  have HC := Lib.hid hc
  have HT1 := Lib.hid ht1
  clear hc ht1
  refine wp_region_ext (by kernel_rfl) (by kernel_rfl) ?_
  repeat (go_big_quiet_step (first
    | (go_at_call 32; with_reducible refine (HW.out _).mono ?_; rintro _ w1 ⟨rfl, hb1⟩; exact ⟨rfl, Ext.on _ hb1⟩)
    | (go_at_call 33; with_reducible refine (HDv.out _).mono ?_; rintro _ w1 ⟨rfl, hb1⟩; exact ⟨rfl, Ext.on _ hb1⟩)))
  refine wpQuiet_nil ?_
  rintro _ ⟨z, rfl⟩
  have hb2 := chain hb1 z.below
  have hc := HC.out.keep z.below
  have ht2 := HT1.out.keep z.below
  clear x2 x6
  have zp : (dayB x ++ ⟨#[44, 32]⟩ ++ padB d 2 : ByteArray).size = 7 := by rw [ByteArray.size_append, ByteArray.size_append, zx, zd, o2]
  obtain ⟨p, hp⟩ : ∃ p : ByteArray, p = dayB x ++ ⟨#[44, 32]⟩ ++ padB d 2 := ⟨_, rfl⟩
  go_wp2_with (with_reducible refine wp_halt ?_)
  refine Halt.on ?_
  rw [← hp] at zp HE ⊢
  clear hp
  generalize z.world = V at *
  have x0 : ∀ x : Ext V, x.world.cell? ⟨w1.heap.size, 0, none⟩ = some (.int .i64 y) := fun x => (hc.keep x.below).1
  have x1 : ∀ x : Ext V, x.world.cell? ⟨w1.heap.size, 1, none⟩ = some (.int .i64 m) := fun x => (hc.keep x.below).2.1
  have x2 : ∀ x : Ext V, x.world.cell? ⟨w1.heap.size, 2, none⟩ = some (.int .i64 d) := fun x => (hc.keep x.below).2.2.1
  have x3 : ∀ x : Ext V, x.world.cell? ⟨w1.heap.size, 3, none⟩ = some (.int .i64 h) := fun x => (hc.keep x.below).2.2.2.1
  have x4 : ∀ x : Ext V, x.world.cell? ⟨w1.heap.size, 4, none⟩ = some (.int .i64 i) := fun x => (hc.keep x.below).2.2.2.2.1
  have x5 : ∀ x : Ext V, x.world.cell? ⟨w1.heap.size, 5, none⟩ = some (.int .i64 s) := fun x => (hc.keep x.below).2.2.2.2.2
  have x7 : ∀ z : Ext V, z.world.cell? ⟨1, j, none⟩ = some (.string (monHB j)) := fun z => cell_keep (ht2.mon j hj12) z.below
  clear hc ht2 HC HT1
  refine wp_region_ext (by kernel_rfl) (by kernel_rfl) ?_
  repeat (go_big_quiet_step (first
    | (go_at_call 33; with_reducible refine (HYv.out _).mono ?_; rintro _ w1 ⟨rfl, hb1⟩; exact ⟨rfl, Ext.on _ hb1⟩)
    | (go_at_call 34; with_reducible refine (HHv.out _).mono ?_; rintro _ w1 ⟨rfl, hb1⟩; exact ⟨rfl, Ext.on _ hb1⟩)))
  refine wpQuiet_nil ?_
  rintro _ ⟨z2, rfl⟩
  have hb3 := chain hb2 z2.below
  go_wp2
  go_ret2
  exact ⟨ret_strb _ HE.out, hb3⟩

set_option maxRecDepth 100000 in
theorem pimf_no (t : Int) (w : World) (h1 : -9223372036854775808 ≤ t) (h2 : t ≤ 9223372036854775807) (h : t < 0 ∨ 253402300799 < t) :
    Calls Tryd.prog 13 #[.int .i64 t] w fun e w' => e = .returned (.tuple #[.string ByteArray.empty, .bool false]) ∧ Below w.heap.size w w' := by
  have HO := Lib.hid (pclock_no t w h1 h2 h)
  clear h
  go_enter Tryd.func13, Tryd.ntmps13
  go_wp2_with fail
  refine HO.out.mono ?_
  rintro _ w1 ⟨rfl, hb1⟩
  go_wp2
  go_ret2
  exact ⟨rfl, hb1.alloc hb1.size _⟩
end Go.Proofs.YtmmkokomffclmaaDoor
namespace Go.Proofs.YtmmkokomffclmaaDoor
open Go.RowKit
set_option linter.unusedVariables false

theorem puf_at (s : ByteArray) (h1 : 1 ≤ s.size) (h2 : s.size ≤ 18) : ∃ b, ∀ w, Calls Tryd.prog 40 #[.string s] w fun e w' => e = .returned (.tuple #[.int .i64 (ufL s.data.toList : Nat), .bool b]) ∧ Below w.heap.size w w' := by
  by_cases h : allD s.data.toList = true
  · have e : ufL s.data.toList = valN s.data.toList := if_pos h
    rw [e]
    exact ⟨true, fun w => unfixed_yes s _ w h1 h2 h rfl⟩
  · have e : ufL s.data.toList = 0 := if_neg h
    rw [e]
    exact ⟨false, fun w => unfixed_no s w (by unfold maxLen; omega) (.inr (.inr (by simpa using h)))⟩

set_option maxRecDepth 100000 in
theorem pnum_any (S : ByteArray) (i j n g : Nat) (w : World) (hc : w.cell? ⟨g, 0, none⟩ = some (.string S)) (h1 : i < j) (h2 : j ≤ S.size) (h3 : j ≤ 18 + i) (h4 : S.size ≤ 1000000) (hn : ufL (S.extract i j).data.toList = n) :
    Calls Tryd.prog 39 #[.int .i64 (i : Int), .int .i64 (j : Int), .pointer (some ⟨g, 0, none⟩)] w fun e w' => e = .returned (.int .i64 (n : Int)) ∧ Below w.heap.size w w' := by
  have hz : (S.extract i j).size = j - i := by rw [ByteArray.size_extract]; omega
  obtain ⟨b, hb⟩ := puf_at (S.extract i j) (by omega) (by omega)
  rw [hn] at hb
  have HU := Lib.hid hb
  clear hb hn
  go_enter Tryd.func39, Tryd.ntmps39
  go_wp2_with fail
  refine (HU.out _).mono ?_
  rintro _ w1 ⟨rfl, hb1⟩
  go_wp2
  go_ret
  exact ⟨rfl, hb1⟩

theorem pepoch_at (y m d h i s : Int) : ∃ (t : Int) (b : Bool), (∀ w, CTabs w → Calls Tryd.prog 27 #[clkV y m d h i s] w fun e w' => e = .returned (.tuple #[.int .i64 t, .bool b]) ∧ Below w.heap.size w w') ∧
    (b = true → IsClock y m d h i s ∧ secs y m d h i s = t) ∧ (b = false → t = 0) := by
  by_cases hc : IsClock y m d h i s
  · exact ⟨_, true, fun w hT => epoch_yes y m d h i s w hc hT, fun _ => ⟨hc, rfl⟩, fun h => by cases h⟩
  · exact ⟨0, false, fun w hT => pepoch_no y m d h i s w hc hT, (fun h => by cases h), fun _ => rfl⟩

/-- A call of number, wherever the text lies in block g. -/
abbrev NumAt (g : Nat) (S : ByteArray) (i j : Int) (n : Nat) : Prop :=
  ∀ W : World, W.cell? ⟨g, 0, none⟩ = some (.string S) → Calls Tryd.prog 39 #[.int .i64 i, .int .i64 j, .pointer (some ⟨g, 0, none⟩)] W fun e w' => e = .returned (.int .i64 (n : Int)) ∧ Below W.heap.size W w'

set_option maxRecDepth 100000 in
set_option maxHeartbeats 1600000 in
theorem puniso_yes (t : Int) (y m d h i s : Nat) (w : World) (hs : Shows t y m d h i s) (h0 : 0 ≤ t) (hT : CTabs w) :
    Calls Tryd.prog 17 #[.string ⟨(isoL y m d h i s).toArray⟩] w fun e w' => e = .returned (.tuple #[.int .i64 t, .bool true]) ∧ Below w.heap.size w w' := by
  obtain ⟨p0, p1, p2, p3, p4, p5, p6⟩ := iso_pieces y m d h i s
  obtain ⟨s1, s2, s3, s4, s5, s6, s7⟩ := shows_small hs
  obtain ⟨S, hS⟩ : ∃ S : ByteArray, S = ⟨(isoL y m d h i s).toArray⟩ := ⟨_, rfl⟩
  have hl : S.data.toList = isoL y m d h i s := by rw [hS]
  have hz : S.size = 20 := by rw [← list_len, hl]; exact p0
  have cut : ∀ a b, (S.extract a b).data.toList = ((isoL y m d h i s).drop a).take (b - a) := fun a b => by rw [extract_list, hl]
  have H1 : Hid (NumAt w.heap.size S 0 4 y) := fun W hc => pnum_any S 0 4 y _ W hc (by decide) (by omega) (by decide) (by omega) (by rw [cut 0 4, show 4 - 0 = 4 from rfl, p1, ufL_pad y 4 s1])
  have H2 : Hid (NumAt w.heap.size S 5 7 m) := fun W hc => pnum_any S 5 7 m _ W hc (by decide) (by omega) (by decide) (by omega) (by rw [cut 5 7, show 7 - 5 = 2 from rfl, p2, ufL_pad m 2 (by omega)])
  have H3 : Hid (NumAt w.heap.size S 8 10 d) := fun W hc => pnum_any S 8 10 d _ W hc (by decide) (by omega) (by decide) (by omega) (by rw [cut 8 10, show 10 - 8 = 2 from rfl, p3, ufL_pad d 2 (by omega)])
  have H4 : Hid (NumAt w.heap.size S 11 13 h) := fun W hc => pnum_any S 11 13 h _ W hc (by decide) (by omega) (by decide) (by omega) (by rw [cut 11 13, show 13 - 11 = 2 from rfl, p4, ufL_pad h 2 (by omega)])
  have H5 : Hid (NumAt w.heap.size S 14 16 i) := fun W hc => pnum_any S 14 16 i _ W hc (by decide) (by omega) (by decide) (by omega) (by rw [cut 14 16, show 16 - 14 = 2 from rfl, p5, ufL_pad i 2 (by omega)])
  have H6 : Hid (NumAt w.heap.size S 17 19 s) := fun W hc => pnum_any S 17 19 s _ W hc (by decide) (by omega) (by decide) (by omega) (by rw [cut 17 19, show 19 - 17 = 2 from rfl, p6, ufL_pad s 2 (by omega)])
  have HE := Lib.hid (epoch_yes y m d h i s · hs.1)
  rw [hs.2] at HE
  have HI := Lib.hid (piso_yes t y m d h i s · hs h0)
  rw [← hS] at HI
  have hq : (S.toList == S.toList) = true := by simp
  have hc0 : (w.alloc (.cells #[.string S] 9)).cell? ⟨w.heap.size, 0, none⟩ = some (.string S) := by simp
  have HC0 := Lib.hid hc0
  have HB0 := Lib.hid ((Below.refl w.heap.size w).alloc (Nat.le_refl _) (.cells #[.string S] 9))
  have HTT := Lib.hid (hT.alloc (.cells #[.string S] 9))
  rw [← hS]
  clear p0 p1 p2 p3 p4 p5 p6 s1 s2 s3 s4 s5 s6 s7 cut hl hs hS hT hc0
  go_enter Tryd.func17, Tryd.ntmps17
  go_wp2_with fail
  refine (H1.out _ HC0.out).mono ?_
  rintro _ w1 ⟨rfl, hb⟩
  have hb1 := chain HB0.out hb
  have HC1 := Lib.hid (cell_keep HC0.out hb)
  have HT1 := Lib.hid (HTT.out.keep hb)
  clear hb
  go_wp2_with fail
  refine (H2.out _ HC1.out).mono ?_
  rintro _ w2 ⟨rfl, hb⟩
  have hb2 := chain hb1 hb
  have HC2 := Lib.hid (cell_keep HC1.out hb)
  have HT2 := Lib.hid (HT1.out.keep hb)
  clear hb hb1
  go_wp2_with fail
  refine (H3.out _ HC2.out).mono ?_
  rintro _ w3 ⟨rfl, hb⟩
  have hb3 := chain hb2 hb
  have HC3 := Lib.hid (cell_keep HC2.out hb)
  have HT3 := Lib.hid (HT2.out.keep hb)
  clear hb hb2
  go_wp2_with fail
  refine (H4.out _ HC3.out).mono ?_
  rintro _ w4 ⟨rfl, hb⟩
  have hb4 := chain hb3 hb
  have HC4 := Lib.hid (cell_keep HC3.out hb)
  have HT4 := Lib.hid (HT3.out.keep hb)
  clear hb hb3
  go_wp2_with fail
  refine (H5.out _ HC4.out).mono ?_
  rintro _ w5 ⟨rfl, hb⟩
  have hb5 := chain hb4 hb
  have HC5 := Lib.hid (cell_keep HC4.out hb)
  have HT5 := Lib.hid (HT4.out.keep hb)
  clear hb hb4
  go_wp2_with fail
  refine (H6.out _ HC5.out).mono ?_
  rintro _ w6 ⟨rfl, hb⟩
  have hb6 := chain hb5 hb
  have HC6 := Lib.hid (cell_keep HC5.out hb)
  have HT6 := Lib.hid (HT5.out.keep hb)
  clear hb hb5
  go_wp2_with fail
  refine (HE.out _ HT6.out).mono ?_
  rintro _ w7 ⟨rfl, hb⟩
  have hb7 := chain hb6 hb
  have HC7 := Lib.hid (cell_keep HC6.out hb)
  have HT7 := Lib.hid (HT6.out.keep hb)
  clear hb hb6
  go_wp2_with fail
  refine (HI.out _ HT7.out).mono ?_
  rintro _ w8 ⟨rfl, hb⟩
  have hb8 := chain hb7 hb
  have hc8 := cell_keep HC7.out hb
  clear hb hb7
  go_wp2
  go_ret2
  exact ⟨rfl, hb8⟩

set_option maxRecDepth 100000 in
set_option maxHeartbeats 3200000 in
theorem puniso_no (S : ByteArray) (w : World) (hS : S.size ≤ 1000000000000000) (hn : ∀ (t : Int) (y m d h i s : Nat), Shows t y m d h i s → 0 ≤ t → S ≠ ⟨(isoL y m d h i s).toArray⟩) (hT : CTabs w) :
    Calls Tryd.prog 17 #[.string S] w fun e w' => e = .returned (.tuple #[.int .i64 0, .bool false]) ∧ Below w.heap.size w w' := by
  have HC0 : Hid ((w.alloc (.cells #[.string S] 9)).cell? ⟨w.heap.size, 0, none⟩ = some (.string S)) := by show _ = _; simp
  have HB0 := Lib.hid ((Below.refl w.heap.size w).alloc (Nat.le_refl _) (.cells #[.string S] 9))
  have HTT := Lib.hid (hT.alloc (.cells #[.string S] 9))
  clear hT
  by_cases hz : S.size = 20
  · obtain ⟨y, hy⟩ : ∃ y, ufL (S.extract 0 4).data.toList = y := ⟨_, rfl⟩
    obtain ⟨m, hm⟩ : ∃ y, ufL (S.extract 5 7).data.toList = y := ⟨_, rfl⟩
    obtain ⟨d, hd⟩ : ∃ y, ufL (S.extract 8 10).data.toList = y := ⟨_, rfl⟩
    obtain ⟨h, hh⟩ : ∃ y, ufL (S.extract 11 13).data.toList = y := ⟨_, rfl⟩
    obtain ⟨i, hi⟩ : ∃ y, ufL (S.extract 14 16).data.toList = y := ⟨_, rfl⟩
    obtain ⟨s, hs⟩ : ∃ y, ufL (S.extract 17 19).data.toList = y := ⟨_, rfl⟩
    have H1 : Hid (NumAt w.heap.size S 0 4 y) := fun W hc => pnum_any S 0 4 y _ W hc (by decide) (by omega) (by decide) (by omega) hy
    have H2 : Hid (NumAt w.heap.size S 5 7 m) := fun W hc => pnum_any S 5 7 m _ W hc (by decide) (by omega) (by decide) (by omega) hm
    have H3 : Hid (NumAt w.heap.size S 8 10 d) := fun W hc => pnum_any S 8 10 d _ W hc (by decide) (by omega) (by decide) (by omega) hd
    have H4 : Hid (NumAt w.heap.size S 11 13 h) := fun W hc => pnum_any S 11 13 h _ W hc (by decide) (by omega) (by decide) (by omega) hh
    have H5 : Hid (NumAt w.heap.size S 14 16 i) := fun W hc => pnum_any S 14 16 i _ W hc (by decide) (by omega) (by decide) (by omega) hi
    have H6 : Hid (NumAt w.heap.size S 17 19 s) := fun W hc => pnum_any S 17 19 s _ W hc (by decide) (by omega) (by decide) (by omega) hs
    obtain ⟨t, b, HEp, hyes, hno⟩ := pepoch_at y m d h i s
    have hI : ∃ (U : ByteArray) (q : Bool), (∀ w, CTabs w → Calls Tryd.prog 15 #[.int .i64 t] w fun e w' => e = .returned (.tuple #[.string U, .bool q]) ∧ Below w.heap.size w w') ∧ (b = true → q = true → U ≠ S) := by
      cases b
      · have ht := hno rfl
        subst ht
        obtain ⟨U, hU⟩ : ∃ U : ByteArray, U = ⟨(isoL 1970 1 1 0 0 0).toArray⟩ := ⟨_, rfl⟩
        exact ⟨_, true, fun w hT => piso_yes 0 1970 1 1 0 0 0 w ⟨by decide, by decide⟩ (by decide) hT, fun h => by cases h⟩
      · obtain ⟨hc, hsec⟩ := hyes rfl
        have hsh : Shows t y m d h i s := ⟨hc, hsec⟩
        have hw := hsh.within
        by_cases h0 : 0 ≤ t
        · exact ⟨_, true, fun w hT => piso_yes t y m d h i s w hsh h0 hT, fun _ _ e => hn t y m d h i s hsh h0 e.symm⟩
        · exact ⟨_, false, fun w _ => piso_no t w (by omega) (by omega) (.inl (by omega)), fun _ h => by cases h⟩
    obtain ⟨U, q, HIs, hne⟩ := hI
    have HE := Lib.hid HEp
    have HI := Lib.hid HIs
    have hcases : b = false ∨ (b = true ∧ q = false) ∨ (b = true ∧ q = true ∧ (U.toList == S.toList) = false) := by
      cases b
      · exact .inl rfl
      · cases q
        · exact .inr (.inl ⟨rfl, rfl⟩)
        · exact .inr (.inr ⟨rfl, rfl, by rw [eq_toList, decide_eq_false_iff_not]; exact hne rfl rfl⟩)
    clear hy hm hd hh hi hs HEp HIs hne hyes hno hn
    rcases hcases with rfl | ⟨rfl, rfl⟩ | ⟨rfl, rfl, hq⟩
    all_goals
      go_enter Tryd.func17, Tryd.ntmps17
      go_wp2_with fail
      refine (H1.out _ HC0.out).mono ?_
      rintro _ w1 ⟨rfl, hb⟩
      have hb1 := chain HB0.out hb
      have HC1 := Lib.hid (cell_keep HC0.out hb)
      have HT1 := Lib.hid (HTT.out.keep hb)
      clear hb
      go_wp2_with fail
      refine (H2.out _ HC1.out).mono ?_
      rintro _ w2 ⟨rfl, hb⟩
      have hb2 := chain hb1 hb
      have HC2 := Lib.hid (cell_keep HC1.out hb)
      have HT2 := Lib.hid (HT1.out.keep hb)
      clear hb hb1
      go_wp2_with fail
      refine (H3.out _ HC2.out).mono ?_
      rintro _ w3 ⟨rfl, hb⟩
      have hb3 := chain hb2 hb
      have HC3 := Lib.hid (cell_keep HC2.out hb)
      have HT3 := Lib.hid (HT2.out.keep hb)
      clear hb hb2
      go_wp2_with fail
      refine (H4.out _ HC3.out).mono ?_
      rintro _ w4 ⟨rfl, hb⟩
      have hb4 := chain hb3 hb
      have HC4 := Lib.hid (cell_keep HC3.out hb)
      have HT4 := Lib.hid (HT3.out.keep hb)
      clear hb hb3
      go_wp2_with fail
      refine (H5.out _ HC4.out).mono ?_
      rintro _ w5 ⟨rfl, hb⟩
      have hb5 := chain hb4 hb
      have HC5 := Lib.hid (cell_keep HC4.out hb)
      have HT5 := Lib.hid (HT4.out.keep hb)
      clear hb hb4
      go_wp2_with fail
      refine (H6.out _ HC5.out).mono ?_
      rintro _ w6 ⟨rfl, hb⟩
      have hb6 := chain hb5 hb
      have HC6 := Lib.hid (cell_keep HC5.out hb)
      have HT6 := Lib.hid (HT5.out.keep hb)
      clear hb hb5
      go_wp2_with fail
      refine (HE.out _ HT6.out).mono ?_
      rintro _ w7 ⟨rfl, hb⟩
      have hb7 := chain hb6 hb
      have HC7 := Lib.hid (cell_keep HC6.out hb)
      have HT7 := Lib.hid (HT6.out.keep hb)
      clear hb hb6
      go_wp2_with fail
      refine (HI.out _ HT7.out).mono ?_
      rintro _ w8 ⟨rfl, hb⟩
      have hb8 := chain hb7 hb
      have hc8 := cell_keep HC7.out hb
      clear hb hb7
      go_wp2
      go_ret2
      exact ⟨rfl, hb8⟩
  · go_enter Tryd.func17, Tryd.ntmps17
    go_wp2
    go_ret2
    exact ⟨rfl, HB0.out⟩
end Go.Proofs.YtmmkokomffclmaaDoor
