/-
  The document's own answers (package cracknelref10): Imf: a contract.
-/
import Derived.Test.YtmmkokomffclmaaDoorDatRefI
namespace Go.Proofs.YtmmkokomffclmaaDoor
open Go.RowKit
set_option linter.unusedVariables false

def dayB (k : Nat) : ByteArray := ⟨(daysH.getD k []).toArray⟩
def monHB (k : Nat) : ByteArray := ⟨(monthsH.getD k []).toArray⟩
theorem dayB_size (k : Nat) (hk : k < 7) : (dayB k).size = 3 := by
  rcases (show k = 0 ∨ k = 1 ∨ k = 2 ∨ k = 3 ∨ k = 4 ∨ k = 5 ∨ k = 6 from by omega) with rfl | rfl | rfl | rfl | rfl | rfl | rfl <;> rfl
theorem monHB_size (k : Nat) (hk : k < 12) : (monHB k).size = 3 := by
  rcases (show k = 0 ∨ k = 1 ∨ k = 2 ∨ k = 3 ∨ k = 4 ∨ k = 5 ∨ k = 6 ∨ k = 7 ∨ k = 8 ∨ k = 9 ∨ k = 10 ∨ k = 11 from by omega) with rfl | rfl | rfl | rfl | rfl | rfl | rfl | rfl | rfl | rfl | rfl | rfl <;> rfl

theorem days_cells (w : World) (k : Nat) (hk : k < 7) : (w.alloc (.cells #[.string ⟨#[83, 117, 110]⟩, .string ⟨#[77, 111, 110]⟩, .string ⟨#[84, 117, 101]⟩, .string ⟨#[87, 101, 100]⟩, .string ⟨#[84, 104, 117]⟩, .string ⟨#[70, 114, 105]⟩, .string ⟨#[83, 97, 116]⟩] 9)).cell? ⟨w.heap.size, k, none⟩ = some (.string (dayB k)) := by
  rw [cell_of_row _ _ _ _ _ _ (heap_alloc_new w _)]
  rcases (show k = 0 ∨ k = 1 ∨ k = 2 ∨ k = 3 ∨ k = 4 ∨ k = 5 ∨ k = 6 from by omega) with rfl | rfl | rfl | rfl | rfl | rfl | rfl <;> rfl
theorem monthsH_cells (w : World) (k : Nat) (hk : k < 12) : (w.alloc (.cells #[.string ⟨#[74, 97, 110]⟩, .string ⟨#[70, 101, 98]⟩, .string ⟨#[77, 97, 114]⟩, .string ⟨#[65, 112, 114]⟩, .string ⟨#[77, 97, 121]⟩, .string ⟨#[74, 117, 110]⟩, .string ⟨#[74, 117, 108]⟩, .string ⟨#[65, 117, 103]⟩, .string ⟨#[83, 101, 112]⟩, .string ⟨#[79, 99, 116]⟩, .string ⟨#[78, 111, 118]⟩, .string ⟨#[68, 101, 99]⟩] 9)).cell? ⟨w.heap.size, k, none⟩ = some (.string (monHB k)) := by
  rw [cell_of_row _ _ _ _ _ _ (heap_alloc_new w _)]
  rcases (show k = 0 ∨ k = 1 ∨ k = 2 ∨ k = 3 ∨ k = 4 ∨ k = 5 ∨ k = 6 ∨ k = 7 ∨ k = 8 ∨ k = 9 ∨ k = 10 ∨ k = 11 from by omega) with rfl | rfl | rfl | rfl | rfl | rfl | rfl | rfl | rfl | rfl | rfl | rfl <;> rfl

theorem cell_keep {w w' : World} {p : Addr} {v : Value} (h : w.cell? p = some v) (hb : Below w.heap.size w w') : w'.cell? p = some v := by
  rw [hb.cell (World.block_lt_of_cell? w p h)]; exact h

/-- The three blocks of Imf. -/
theorem imf_cells (w : World) (y m d h i s : Nat) (k j : Nat) (hk : k < 7) (hj : j < 12) :
    ClkAt (((w.alloc (.cells #[.int .i64 y, .int .i64 m, .int .i64 d, .int .i64 h, .int .i64 i, .int .i64 s] 44)).alloc (.cells #[.string ⟨#[83, 117, 110]⟩, .string ⟨#[77, 111, 110]⟩, .string ⟨#[84, 117, 101]⟩, .string ⟨#[87, 101, 100]⟩, .string ⟨#[84, 104, 117]⟩, .string ⟨#[70, 114, 105]⟩, .string ⟨#[83, 97, 116]⟩] 9)).alloc (.cells #[.string ⟨#[74, 97, 110]⟩, .string ⟨#[70, 101, 98]⟩, .string ⟨#[77, 97, 114]⟩, .string ⟨#[65, 112, 114]⟩, .string ⟨#[77, 97, 121]⟩, .string ⟨#[74, 117, 110]⟩, .string ⟨#[74, 117, 108]⟩, .string ⟨#[65, 117, 103]⟩, .string ⟨#[83, 101, 112]⟩, .string ⟨#[79, 99, 116]⟩, .string ⟨#[78, 111, 118]⟩, .string ⟨#[68, 101, 99]⟩] 9)) w.heap.size y m d h i s ∧
    (((w.alloc (.cells #[.int .i64 y, .int .i64 m, .int .i64 d, .int .i64 h, .int .i64 i, .int .i64 s] 44)).alloc (.cells #[.string ⟨#[83, 117, 110]⟩, .string ⟨#[77, 111, 110]⟩, .string ⟨#[84, 117, 101]⟩, .string ⟨#[87, 101, 100]⟩, .string ⟨#[84, 104, 117]⟩, .string ⟨#[70, 114, 105]⟩, .string ⟨#[83, 97, 116]⟩] 9)).alloc (.cells #[.string ⟨#[74, 97, 110]⟩, .string ⟨#[70, 101, 98]⟩, .string ⟨#[77, 97, 114]⟩, .string ⟨#[65, 112, 114]⟩, .string ⟨#[77, 97, 121]⟩, .string ⟨#[74, 117, 110]⟩, .string ⟨#[74, 117, 108]⟩, .string ⟨#[65, 117, 103]⟩, .string ⟨#[83, 101, 112]⟩, .string ⟨#[79, 99, 116]⟩, .string ⟨#[78, 111, 118]⟩, .string ⟨#[68, 101, 99]⟩] 9)).cell? ⟨w.heap.size + 1, k, none⟩ = some (.string (dayB k)) ∧
    (((w.alloc (.cells #[.int .i64 y, .int .i64 m, .int .i64 d, .int .i64 h, .int .i64 i, .int .i64 s] 44)).alloc (.cells #[.string ⟨#[83, 117, 110]⟩, .string ⟨#[77, 111, 110]⟩, .string ⟨#[84, 117, 101]⟩, .string ⟨#[87, 101, 100]⟩, .string ⟨#[84, 104, 117]⟩, .string ⟨#[70, 114, 105]⟩, .string ⟨#[83, 97, 116]⟩] 9)).alloc (.cells #[.string ⟨#[74, 97, 110]⟩, .string ⟨#[70, 101, 98]⟩, .string ⟨#[77, 97, 114]⟩, .string ⟨#[65, 112, 114]⟩, .string ⟨#[77, 97, 121]⟩, .string ⟨#[74, 117, 110]⟩, .string ⟨#[74, 117, 108]⟩, .string ⟨#[65, 117, 103]⟩, .string ⟨#[83, 101, 112]⟩, .string ⟨#[79, 99, 116]⟩, .string ⟨#[78, 111, 118]⟩, .string ⟨#[68, 101, 99]⟩] 9)).cell? ⟨w.heap.size + 1 + 1, j, none⟩ = some (.string (monHB j)) ∧
    Below w.heap.size w (((w.alloc (.cells #[.int .i64 y, .int .i64 m, .int .i64 d, .int .i64 h, .int .i64 i, .int .i64 s] 44)).alloc (.cells #[.string ⟨#[83, 117, 110]⟩, .string ⟨#[77, 111, 110]⟩, .string ⟨#[84, 117, 101]⟩, .string ⟨#[87, 101, 100]⟩, .string ⟨#[84, 104, 117]⟩, .string ⟨#[70, 114, 105]⟩, .string ⟨#[83, 97, 116]⟩] 9)).alloc (.cells #[.string ⟨#[74, 97, 110]⟩, .string ⟨#[70, 101, 98]⟩, .string ⟨#[77, 97, 114]⟩, .string ⟨#[65, 112, 114]⟩, .string ⟨#[77, 97, 121]⟩, .string ⟨#[74, 117, 110]⟩, .string ⟨#[74, 117, 108]⟩, .string ⟨#[65, 117, 103]⟩, .string ⟨#[83, 101, 112]⟩, .string ⟨#[79, 99, 116]⟩, .string ⟨#[78, 111, 118]⟩, .string ⟨#[68, 101, 99]⟩] 9)) := by
  have e1 : ∀ (W : World) (o : Obj), (W.alloc o).heap.size = W.heap.size + 1 := fun W o => by simp
  have b2 : ∀ (W : World) (o : Obj), Below W.heap.size W (W.alloc o) := fun W o => (Below.refl _ _).alloc (Nat.le_refl _) o
  refine ⟨((ClkAt.new w y m d h i s 44).keep (b2 _ _)).keep (b2 _ _), ?_, ?_, chain (chain (b2 w _) (b2 _ _)) (b2 _ _)⟩
  · have := cell_keep (days_cells (w.alloc (.cells #[.int .i64 y, .int .i64 m, .int .i64 d, .int .i64 h, .int .i64 i, .int .i64 s] 44)) k hk) (b2 _ (.cells #[.string ⟨#[74, 97, 110]⟩, .string ⟨#[70, 101, 98]⟩, .string ⟨#[77, 97, 114]⟩, .string ⟨#[65, 112, 114]⟩, .string ⟨#[77, 97, 121]⟩, .string ⟨#[74, 117, 110]⟩, .string ⟨#[74, 117, 108]⟩, .string ⟨#[65, 117, 103]⟩, .string ⟨#[83, 101, 112]⟩, .string ⟨#[79, 99, 116]⟩, .string ⟨#[78, 111, 118]⟩, .string ⟨#[68, 101, 99]⟩] 9))
    rw [e1 w] at this
    exact this
  · have := monthsH_cells ((w.alloc (.cells #[.int .i64 y, .int .i64 m, .int .i64 d, .int .i64 h, .int .i64 i, .int .i64 s] 44)).alloc (.cells #[.string ⟨#[83, 117, 110]⟩, .string ⟨#[77, 111, 110]⟩, .string ⟨#[84, 117, 101]⟩, .string ⟨#[87, 101, 100]⟩, .string ⟨#[84, 104, 117]⟩, .string ⟨#[70, 114, 105]⟩, .string ⟨#[83, 97, 116]⟩] 9)) j hj
    rw [e1 (w.alloc _), e1 w] at this
    exact this

set_option maxRecDepth 100000 in
set_option maxHeartbeats 1600000 in
theorem rimf_yes (t : Int) (x y m d h i s : Nat) (w : World) (hs : Shows t y m d h i s) (h0 : 0 ≤ t) (hx : wday (t / 86400) = x) :
    Calls Tryd.prog 14 #[.int .i64 t] w fun e w' => e = .returned (.tuple #[.string ⟨(imfL x y m d h i s).toArray⟩, .bool true]) ∧ Below w.heap.size w w' := by
  obtain ⟨s1, s2, s3, s4, s5, s6, s7⟩ := shows_small hs
  have t2 := hs.within.2
  have hx7 : x < 7 := by unfold wday at hx; omega
  have HO := Lib.hid (rof_yes t y m d h i s · hs)
  have HW := Lib.hid (rweekday_any (t / 86400))
  rw [hx] at HW
  have HYv := Lib.hid (rfixed_yes y 4 · (by decide) (by decide) s1)
  have HDv := Lib.hid (rtwo_any d · s4)
  have HHv := Lib.hid (rtwo_any h · s5)
  have HIv := Lib.hid (rtwo_any i · s6)
  have HSv := Lib.hid (rtwo_any s · s7)
  have zy := padB_size y 4
  have zd := padB_size d 2
  have zh := padB_size h 2
  have zi := padB_size i 2
  have zs := padB_size s 2
  have zx := dayB_size x hx7
  have zm := monHB_size (m - 1) (by omega)
  have HE : Hid (((dayB x ++ ⟨#[44, 32]⟩ ++ padB d 2 ++ ⟨#[32]⟩ ++ monHB (m - 1) ++ ⟨#[32]⟩ ++ padB y 4 ++ ⟨#[32]⟩ ++ padB h 2 ++ ⟨#[58]⟩ ++ padB i 2 ++ ⟨#[58]⟩ ++ padB s 2 ++ ⟨#[32, 71, 77, 84]⟩ : ByteArray)) = ⟨(imfL x y m d h i s).toArray⟩) := by
    show _ = _
    apply ba_ext
    simp [imfL, hmsL, padB, dayB, monHB]
  have o1 : ∀ c : UInt8, (ByteArray.mk #[c]).size = 1 := fun _ => rfl
  have o2 : ∀ a b : UInt8, (ByteArray.mk #[a, b]).size = 2 := fun _ _ => rfl
  have o4 : ∀ a b c d : UInt8, (ByteArray.mk #[a, b, c, d]).size = 4 := fun _ _ _ _ => rfl
  obtain ⟨j, hj⟩ : ∃ j, j = m - 1 := ⟨_, rfl⟩
  rw [← hj] at zm HE
  have hjm : (m : Int) - 1 = (j : Int) := by omega
  have hj12 : j < 12 := by omega
  clear hs s1 s2 s3 s4 s5 s6 s7 hj hx
  go_enter Tryd.func14, Tryd.ntmps14
  go_wp2_with fail
  refine (HO.out _).mono ?_
  rintro _ w1 ⟨rfl, hb1⟩
  go_wp2_with fail
  refine (HW.out _).mono ?_
  rintro _ wz ⟨rfl, rfl⟩
  go_wp2_with (with_reducible refine wp_halt ?_)
  refine Halt.on ?_
  obtain ⟨hc, hd, hm, hb2⟩ := imf_cells w1 y m d h i s x j hx7 hj12
  have hb3 := chain hb1 hb2
  clear hb1 hb2
  generalize ((w1.alloc (.cells #[.int .i64 y, .int .i64 m, .int .i64 d, .int .i64 h, .int .i64 i, .int .i64 s] 44)).alloc (.cells #[.string ⟨#[83, 117, 110]⟩, .string ⟨#[77, 111, 110]⟩, .string ⟨#[84, 117, 101]⟩, .string ⟨#[87, 101, 100]⟩, .string ⟨#[84, 104, 117]⟩, .string ⟨#[70, 114, 105]⟩, .string ⟨#[83, 97, 116]⟩] 9)).alloc (.cells #[.string ⟨#[74, 97, 110]⟩, .string ⟨#[70, 101, 98]⟩, .string ⟨#[77, 97, 114]⟩, .string ⟨#[65, 112, 114]⟩, .string ⟨#[77, 97, 121]⟩, .string ⟨#[74, 117, 110]⟩, .string ⟨#[74, 117, 108]⟩, .string ⟨#[65, 117, 103]⟩, .string ⟨#[83, 101, 112]⟩, .string ⟨#[79, 99, 116]⟩, .string ⟨#[78, 111, 118]⟩, .string ⟨#[68, 101, 99]⟩] 9) = W at *
  have x0 : ∀ x : Ext W, x.world.cell? ⟨w1.heap.size, 0, none⟩ = some (.int .i64 y) := fun x => (hc.keep x.below).1
  have x1 : ∀ x : Ext W, x.world.cell? ⟨w1.heap.size, 1, none⟩ = some (.int .i64 m) := fun x => (hc.keep x.below).2.1
  have x2 : ∀ x : Ext W, x.world.cell? ⟨w1.heap.size, 2, none⟩ = some (.int .i64 d) := fun x => (hc.keep x.below).2.2.1
  have x3 : ∀ x : Ext W, x.world.cell? ⟨w1.heap.size, 3, none⟩ = some (.int .i64 h) := fun x => (hc.keep x.below).2.2.2.1
  have x4 : ∀ x : Ext W, x.world.cell? ⟨w1.heap.size, 4, none⟩ = some (.int .i64 i) := fun x => (hc.keep x.below).2.2.2.2.1
  have x5 : ∀ x : Ext W, x.world.cell? ⟨w1.heap.size, 5, none⟩ = some (.int .i64 s) := fun x => (hc.keep x.below).2.2.2.2.2
  have x6 : ∀ z : Ext W, z.world.cell? ⟨w1.heap.size + 1, x, none⟩ = some (.string (dayB x)) := fun z => cell_keep hd z.below
  have x7 : ∀ z : Ext W, z.world.cell? ⟨w1.heap.size + 1 + 1, j, none⟩ = some (.string (monHB j)) := fun z => cell_keep hm z.below
  clear hc hd hm
  refine wp_region_ext (by kernel_rfl) (by kernel_rfl) ?_
  repeat (go_big_quiet_step (first
    | (go_at_call 38; refine (HYv.out _).mono ?_; rintro _ w1 ⟨rfl, hb1⟩; exact ⟨rfl, Ext.on _ hb1⟩)
    | (go_at_call 37; with_reducible refine (HDv.out _).mono ?_; rintro _ w1 ⟨rfl, hb1⟩; exact ⟨rfl, Ext.on _ hb1⟩)
    | (go_at_call 37; with_reducible refine (HHv.out _).mono ?_; rintro _ w1 ⟨rfl, hb1⟩; exact ⟨rfl, Ext.on _ hb1⟩)
    | (go_at_call 37; with_reducible refine (HIv.out _).mono ?_; rintro _ w1 ⟨rfl, hb1⟩; exact ⟨rfl, Ext.on _ hb1⟩)
    | (go_at_call 37; with_reducible refine (HSv.out _).mono ?_; rintro _ w1 ⟨rfl, hb1⟩; exact ⟨rfl, Ext.on _ hb1⟩)))
  refine wpQuiet_nil ?_
  rintro _ ⟨z, rfl⟩
  have hb2 := chain hb3 z.below
  go_wp2
  go_ret2
  exact ⟨ret_strb _ HE.out, hb2⟩

set_option maxRecDepth 100000 in
theorem rimf_no (t : Int) (w : World) (h1 : -9223372036854775808 ≤ t) (h2 : t ≤ 9223372036854775807) (h : t < 0 ∨ 253402300799 < t) :
    Calls Tryd.prog 14 #[.int .i64 t] w fun e w' => e = .returned (.tuple #[.string ByteArray.empty, .bool false]) ∧ Below w.heap.size w w' := by
  have key : ∃ y m d h i s b, Hid (∀ x, Calls Tryd.prog 35 #[.int .i64 t] x fun e w' => e = .returned (.tuple #[clkV y m d h i s, .bool b]) ∧ Below x.heap.size x w') := by
    by_cases hr : -62135596800 ≤ t ∧ t ≤ 253402300799
    · obtain ⟨y, m, d, h, i, s, hs⟩ := exists_clock t hr.1 hr.2
      exact ⟨y, m, d, h, i, s, true, fun x => rof_yes t y m d h i s x hs⟩
    · exact ⟨0, 0, 0, 0, 0, 0, false, fun x => rof_no t x (by omega)⟩
  obtain ⟨y, m, d, hh, i, s, b, HO⟩ := key
  rcases (show t < 0 ∨ (¬ t < 0 ∧ 253402300799 < t) from by omega) with h | ⟨h, h'⟩
  all_goals
    go_enter Tryd.func14, Tryd.ntmps14
    go_wp2_with fail
    refine (HO.out _).mono ?_
    rintro _ w1 ⟨rfl, hb1⟩
    go_wp2
    go_ret2
    exact ⟨rfl, hb1.alloc hb1.size _⟩
end Go.Proofs.YtmmkokomffclmaaDoor
