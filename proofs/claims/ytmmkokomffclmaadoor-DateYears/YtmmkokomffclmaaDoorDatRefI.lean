/-
  The document's own answers (package cracknelref10): two, Iso: contracts.
-/
import Derived.Test.YtmmkokomffclmaaDoorDatMath
import Derived.Test.YtmmkokomffclmaaDoorCivBox
import Derived.Test.YtmmkokomffclmaaDoorDecRfx
import Derived.Test.YtmmkokomffclmaaDoorBaseDraw
namespace Go.Proofs.YtmmkokomffclmaaDoor
open Go.RowKit
set_option linter.unusedVariables false

theorem ret_strb {a b : ByteArray} (x : Bool) (h : a = b) : Ending.returned (.tuple #[.string a, .bool x]) = .returned (.tuple #[.string b, .bool x]) := by rw [h]

set_option maxRecDepth 100000 in
theorem rtwo_any (n : Nat) (w : World) (h : n < 100) :
    Calls Tryd.prog 37 #[.int .i64 (n : Int)] w fun e w' => e = .returned (.string (padB n 2)) ∧ Below w.heap.size w w' := by
  have HF := Lib.hid (rfixed_yes n 2 · (by decide) (by decide) h)
  go_enter Tryd.func37, Tryd.ntmps37
  go_wp2_with fail
  refine (HF.out _).mono ?_
  rintro _ w1 ⟨rfl, hb1⟩
  go_wp2
  go_ret
  exact ⟨rfl, hb1⟩

/-- What a clock's parts are bounded by. -/
theorem shows_small {t : Int} {y m d h i s : Nat} (hs : Shows t y m d h i s) : y < 10000 ∧ 1 ≤ m ∧ m < 13 ∧ d < 100 ∧ h < 100 ∧ i < 100 ∧ s < 100 := by
  obtain ⟨⟨hd, h1, h2, h3, h4, h5, h6⟩, _⟩ := hs
  obtain ⟨y1, y2, m1, m2, d1, d2⟩ := hd.range
  have := (mlen_range (leap y) m).2
  omega

set_option maxRecDepth 100000 in
set_option maxHeartbeats 1600000 in
theorem riso_yes (t : Int) (y m d h i s : Nat) (w : World) (hs : Shows t y m d h i s) (h0 : 0 ≤ t) :
    Calls Tryd.prog 16 #[.int .i64 t] w fun e w' => e = .returned (.tuple #[.string ⟨(isoL y m d h i s).toArray⟩, .bool true]) ∧ Below w.heap.size w w' := by
  obtain ⟨s1, s2, s3, s4, s5, s6, s7⟩ := shows_small hs
  have t2 := hs.within.2
  have HO := Lib.hid (rof_yes t y m d h i s · hs)
  have HYv := Lib.hid (rfixed_yes y 4 · (by decide) (by decide) s1)
  have HMv := Lib.hid (rtwo_any m · (by omega))
  have HDv := Lib.hid (rtwo_any d · s4)
  have HHv := Lib.hid (rtwo_any h · s5)
  have HIv := Lib.hid (rtwo_any i · s6)
  have HSv := Lib.hid (rtwo_any s · s7)
  have zy := padB_size y 4
  have zm := padB_size m 2
  have zd := padB_size d 2
  have zh := padB_size h 2
  have zi := padB_size i 2
  have zs := padB_size s 2
  have HE : Hid (((padB y 4 ++ ⟨#[45]⟩ ++ padB m 2 ++ ⟨#[45]⟩ ++ padB d 2 ++ ⟨#[84]⟩ ++ padB h 2 ++ ⟨#[58]⟩ ++ padB i 2 ++ ⟨#[58]⟩ ++ padB s 2 ++ ⟨#[90]⟩ : ByteArray)) = ⟨(isoL y m d h i s).toArray⟩) := by
    show _ = _
    apply ba_ext
    simp [isoL, hmsL, padB]
  have o1 : ∀ c : UInt8, (ByteArray.mk #[c]).size = 1 := fun _ => rfl
  clear hs s1 s2 s3 s4 s5 s6 s7
  go_enter Tryd.func16, Tryd.ntmps16
  go_wp2_with fail
  refine (HO.out _).mono ?_
  rintro _ w1 ⟨rfl, hb1⟩
  go_wp2_with (with_reducible refine wp_halt ?_)
  refine Halt.on ?_
  have hc := ClkAt.new w1 y m d h i s 44
  replace hb1 := hb1.alloc hb1.size (.cells #[.int .i64 y, .int .i64 m, .int .i64 d, .int .i64 h, .int .i64 i, .int .i64 s] 44)
  generalize w1.alloc (.cells #[.int .i64 y, .int .i64 m, .int .i64 d, .int .i64 h, .int .i64 i, .int .i64 s] 44) = W at *
  have x0 : ∀ x : Ext W, x.world.cell? ⟨w1.heap.size, 0, none⟩ = some (.int .i64 y) := fun x => (hc.keep x.below).1
  have x1 : ∀ x : Ext W, x.world.cell? ⟨w1.heap.size, 1, none⟩ = some (.int .i64 m) := fun x => (hc.keep x.below).2.1
  have x2 : ∀ x : Ext W, x.world.cell? ⟨w1.heap.size, 2, none⟩ = some (.int .i64 d) := fun x => (hc.keep x.below).2.2.1
  have x3 : ∀ x : Ext W, x.world.cell? ⟨w1.heap.size, 3, none⟩ = some (.int .i64 h) := fun x => (hc.keep x.below).2.2.2.1
  have x4 : ∀ x : Ext W, x.world.cell? ⟨w1.heap.size, 4, none⟩ = some (.int .i64 i) := fun x => (hc.keep x.below).2.2.2.2.1
  have x5 : ∀ x : Ext W, x.world.cell? ⟨w1.heap.size, 5, none⟩ = some (.int .i64 s) := fun x => (hc.keep x.below).2.2.2.2.2
  clear hc
  refine wp_region_ext (by kernel_rfl) (by kernel_rfl) ?_
  repeat (go_big_quiet_step (first
    | (go_at_call 38; refine (HYv.out _).mono ?_; rintro _ w1 ⟨rfl, hb1⟩; exact ⟨rfl, Ext.on _ hb1⟩)
    | (go_at_call 37; with_reducible refine (HMv.out _).mono ?_; rintro _ w1 ⟨rfl, hb1⟩; exact ⟨rfl, Ext.on _ hb1⟩)
    | (go_at_call 37; with_reducible refine (HDv.out _).mono ?_; rintro _ w1 ⟨rfl, hb1⟩; exact ⟨rfl, Ext.on _ hb1⟩)
    | (go_at_call 37; with_reducible refine (HHv.out _).mono ?_; rintro _ w1 ⟨rfl, hb1⟩; exact ⟨rfl, Ext.on _ hb1⟩)
    | (go_at_call 37; with_reducible refine (HIv.out _).mono ?_; rintro _ w1 ⟨rfl, hb1⟩; exact ⟨rfl, Ext.on _ hb1⟩)
    | (go_at_call 37; with_reducible refine (HSv.out _).mono ?_; rintro _ w1 ⟨rfl, hb1⟩; exact ⟨rfl, Ext.on _ hb1⟩)))
  refine wpQuiet_nil ?_
  rintro _ ⟨x, rfl⟩
  have hb2 := chain hb1 x.below
  go_wp2
  go_ret2
  exact ⟨ret_strb _ HE.out, hb2⟩

set_option maxRecDepth 100000 in
theorem riso_no (t : Int) (w : World) (h1 : -9223372036854775808 ≤ t) (h2 : t ≤ 9223372036854775807) (h : t < 0 ∨ 253402300799 < t) :
    Calls Tryd.prog 16 #[.int .i64 t] w fun e w' => e = .returned (.tuple #[.string ByteArray.empty, .bool false]) ∧ Below w.heap.size w w' := by
  have key : ∃ y m d h i s b, Hid (∀ x, Calls Tryd.prog 35 #[.int .i64 t] x fun e w' => e = .returned (.tuple #[clkV y m d h i s, .bool b]) ∧ Below x.heap.size x w') := by
    by_cases hr : -62135596800 ≤ t ∧ t ≤ 253402300799
    · obtain ⟨y, m, d, h, i, s, hs⟩ := exists_clock t hr.1 hr.2
      exact ⟨y, m, d, h, i, s, true, fun x => rof_yes t y m d h i s x hs⟩
    · exact ⟨0, 0, 0, 0, 0, 0, false, fun x => rof_no t x (by omega)⟩
  obtain ⟨y, m, d, hh, i, s, b, HO⟩ := key
  rcases (show t < 0 ∨ (¬ t < 0 ∧ 253402300799 < t) from by omega) with h | ⟨h, h'⟩
  all_goals
    go_enter Tryd.func16, Tryd.ntmps16
    go_wp2_with fail
    refine (HO.out _).mono ?_
    rintro _ w1 ⟨rfl, hb1⟩
    go_wp2
    go_ret2
    exact ⟨rfl, hb1.alloc hb1.size _⟩
end Go.Proofs.YtmmkokomffclmaaDoor
