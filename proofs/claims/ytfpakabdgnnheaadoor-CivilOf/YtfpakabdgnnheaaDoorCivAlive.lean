/-
  alive of cracknellaw09: a contract.
-/
import Derived.Test.YtfpakabdgnnheaaDoorCivP4
import Derived.Test.YtfpakabdgnnheaaDoorCivBox
namespace Go.Proofs.YtfpakabdgnnheaaDoor
open Go.RowKit
set_option linter.unusedVariables false

theorem av_tells : Tells (-1) 1969 12 31 := ⟨by decide, by decide⟩
theorem av_shows : Shows (-1) 1969 12 31 23 59 59 := ⟨by decide, by decide⟩
theorem av_days : IsDay 2000 3 1 := by decide
theorem av_num : dayNum 2000 3 1 = 11017 := by decide
theorem av_clock : IsClock 9999 12 31 23 59 59 := by decide
theorem av_secs : secs 9999 12 31 23 59 59 = 253402300799 := by decide
theorem av_l1 : leap 2000 = true := by decide
theorem av_l2 : leap 1900 = false := by decide
theorem av_len : lengthOf 2004 2 = 29 := by decide
theorem av_w1 : wday 0 = 4 := by decide
theorem av_w2 : wday (-5) = 6 := by decide

theorem at_leap {y : Int} {b : Bool} (w : World) (h : leap y = b) (h1 : -9223372036854775808 ≤ y) (h2 : y ≤ 9223372036854775807) : Calls Tryd.prog 16 #[.int .i64 y] w fun e w' => e = .returned (.bool b) ∧ Below w.heap.size w w' := h ▸ leap_any y w h1 h2
theorem at_length {y m n : Int} (w : World) (h : lengthOf y m = n) (h1 : -9223372036854775808 ≤ y ∧ y ≤ 9223372036854775807) (h2 : -9223372036854775808 ≤ m ∧ m ≤ 9223372036854775807) (hT : CTabs w) : Calls Tryd.prog 14 #[.int .i64 y, .int .i64 m] w fun e w' => e = .returned (.int .i64 n) ∧ Below w.heap.size w w' := h ▸ length_any y m w h1.1 h1.2 h2.1 h2.2 hT
theorem at_weekday {n k : Int} (w : World) (h : wday n = k) (h1 : -9223372036854775808 ≤ n ∧ n ≤ 9223372036854775807) : Calls Tryd.prog 19 #[.int .i64 n] w fun e w' => e = .returned (.int .i64 k) ∧ Below w.heap.size w w' := h ▸ weekday_any n w h1.1 h1.2
theorem at_days {y m d n : Int} (w : World) (h : IsDay y m d) (hn : dayNum y m d = n) (hT : CTabs w) : Calls Tryd.prog 10 #[.int .i64 y, .int .i64 m, .int .i64 d] w fun e w' => e = .returned (.tuple #[.int .i64 n, .bool true]) ∧ Below w.heap.size w w' := hn ▸ days_yes y m d w h hT
theorem at_epoch {y m d h i s n : Int} (w : World) (hc : IsClock y m d h i s) (hn : secs y m d h i s = n) (hT : CTabs w) : Calls Tryd.prog 21 #[clkV y m d h i s] w fun e w' => e = .returned (.tuple #[.int .i64 n, .bool true]) ∧ Below w.heap.size w w' := hn ▸ epoch_yes y m d h i s w hc hT

set_option maxRecDepth 100000 in
set_option maxHeartbeats 1600000 in
theorem alive_any (w : World) (hT : CTabs w) : Calls Tryd.prog 13 #[] w fun e w' => e = .returned (.bool true) ∧ Below w.heap.size w w' := by
  go_enter Tryd.func13, Tryd.ntmps13
  go_wp2_with fail
  with_reducible refine (at_days _ av_days av_num hT).mono ?_
  rintro _ w1 ⟨rfl, hb1⟩
  replace hT := hT.keep hb1
  go_wp2_with fail
  with_reducible refine (date_yes _ _ _ _ _ av_tells hT).mono ?_
  rintro _ w2 ⟨rfl, hb⟩
  replace hT := hT.keep hb
  have hb2 := chain hb1 hb
  clear hb hb1
  go_wp2_with fail
  with_reducible refine (days_no _ _ _ _ (by decide) (by decide) (by decide) (by decide) hT).mono ?_
  rintro _ w1 ⟨rfl, hb⟩
  replace hT := hT.keep hb
  have hb1 := chain hb2 hb
  clear hb hb2
  go_wp2_with fail
  with_reducible refine (at_epoch _ av_clock av_secs hT).mono ?_
  rintro _ w2 ⟨rfl, hb⟩
  replace hT := hT.keep hb
  have hb2 := chain hb1 hb
  clear hb hb1
  go_wp2_with fail
  with_reducible refine (of_yes _ _ _ _ _ _ _ _ av_shows hT).mono ?_
  rintro _ w1 ⟨rfl, hb⟩
  replace hT := hT.keep hb
  have hb1 := chain hb2 hb
  clear hb hb2
  go_wp2_with fail
  have hc := ClkAt.new w1 1969 12 31 23 59 59 34
  replace hT := hT.alloc (.cells #[.int .i64 1969, .int .i64 12, .int .i64 31, .int .i64 23, .int .i64 59, .int .i64 59] 34)
  have hb2 := hb1.alloc hb1.size (.cells #[.int .i64 1969, .int .i64 12, .int .i64 31, .int .i64 23, .int .i64 59, .int .i64 59] 34)
  clear hb1
  with_reducible refine (at_leap _ av_l1 (by decide) (by decide)).mono ?_
  rintro _ w3 ⟨rfl, hb⟩
  replace hT := hT.keep hb
  have hb1 := chain hb2 hb
  have hc1 := hc.keep hb
  clear hb hb2 hc
  go_wp2_with fail
  with_reducible refine (at_leap _ av_l2 (by decide) (by decide)).mono ?_
  rintro _ w4 ⟨rfl, hb⟩
  replace hT := hT.keep hb
  have hb2 := chain hb1 hb
  have hc := hc1.keep hb
  clear hb hb1 hc1
  go_wp2_with fail
  with_reducible refine (at_length _ av_len (by decide) (by decide) hT).mono ?_
  rintro _ w3 ⟨rfl, hb⟩
  replace hT := hT.keep hb
  have hb1 := chain hb2 hb
  have hc1 := hc.keep hb
  clear hb hb2 hc
  go_wp2_with fail
  with_reducible refine (at_weekday _ av_w1 (by decide)).mono ?_
  rintro _ w4 ⟨rfl, hb⟩
  replace hT := hT.keep hb
  have hb2 := chain hb1 hb
  have hc := hc1.keep hb
  clear hb hb1 hc1
  go_wp2_with fail
  with_reducible refine (at_weekday _ av_w2 (by decide)).mono ?_
  rintro _ w3 ⟨rfl, hb⟩
  replace hT := hT.keep hb
  have hb1 := chain hb2 hb
  obtain ⟨c0, c1, c2, c3, c4, c5⟩ := hc.keep hb
  clear hb hb2 hc
  go_wp2
  go_ret
  exact ⟨rfl, hb1⟩
end Go.Proofs.YtfpakabdgnnheaaDoor
