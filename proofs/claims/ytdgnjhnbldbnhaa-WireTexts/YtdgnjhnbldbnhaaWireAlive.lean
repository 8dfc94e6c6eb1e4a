/-
  alive of cracknellaw03: a contract.
-/
import Derived.Test.YtdgnjhnbldbnhaaWireText
import Derived.Test.YtdgnjhnbldbnhaaWireZig
namespace Go.Proofs.Ytdgnjhnbldbnhaa
open Go.RowKit
set_option linter.unusedVariables false

theorem at_tt {s : ByteArray} {most : Int} {t : ByteArray} {m e : Nat} (w : World) (hs : s.size ≤ 1000000000000000) (h1 : -9223372036854775808 ≤ most) (h2 : most ≤ 9223372036854775807) (h : tt s most = (t, m, e)) :
    Calls Try.prog 20 #[.string s, .int .i64 most] w fun r w' => r = .returned (.tuple #[.string t, .int .i64 (m : Int), .int .i64 (e : Int)]) ∧ w = w' := by
  have := ttake_any s most w hs h1 h2
  rw [h] at this
  exact this

theorem at_rtt {s : ByteArray} {most : Int} {t : ByteArray} {m e : Nat} (w : World) (hs : s.size ≤ 1000000000000000) (h1 : -9223372036854775808 ≤ most) (h2 : most ≤ 9223372036854775807) (h : tt s most = (t, m, e)) :
    Calls Try.prog 22 #[.string s, .int .i64 most] w fun r w' => r = .returned (.tuple #[.string t, .int .i64 (m : Int), .int .i64 (e : Int)]) ∧ w = w' := by
  have := rttake_any s most w hs h1 h2
  rw [h] at this
  exact this

set_option maxRecDepth 100000 in
set_option maxHeartbeats 1600000 in
theorem alive_any (w : World) : Calls Try.prog 12 #[] w fun e w' => e = .returned (.bool true) ∧ Below w.heap.size w w' := by
  go_enter Try.func12, Try.ntmps12
  go_wp2_with fail
  refine (take_any ⟨#[172, 2, 122]⟩ 300 2 0 _ (by decide) (by kernel_rfl)).mono ?_
  rintro _ w1 ⟨rfl, rfl⟩
  go_wp2_with fail
  refine (take_any ⟨#[128, 0]⟩ 0 0 32 _ (by decide) (by kernel_rfl)).mono ?_
  rintro _ w1 ⟨rfl, rfl⟩
  go_wp2_with fail
  refine (take_any ⟨#[128]⟩ 0 0 30 _ (by decide) (by kernel_rfl)).mono ?_
  rintro _ w1 ⟨rfl, rfl⟩
  go_wp2_with fail
  refine (at_tt (s := ⟨#[2, 97, 98, 99]⟩) (t := ⟨#[97, 98]⟩) (m := 3) (e := 0) _ (by decide) (by decide) (by decide) (by kernel_rfl)).mono ?_
  rintro _ w1 ⟨rfl, rfl⟩
  go_wp2_with fail
  refine (at_tt (s := ⟨#[2, 97, 98, 99]⟩) (t := .empty) (m := 0) (e := 31) _ (by decide) (by decide) (by decide) (by kernel_rfl)).mono ?_
  rintro _ w1 ⟨rfl, rfl⟩
  go_wp2_with fail
  refine (put_any 300 _ (by decide)).mono ?_
  rintro _ w1 ⟨rfl, hb1⟩
  rw [show putB 300 = ⟨#[172, 2]⟩ by kernel_rfl]
  go_wp2_with fail
  refine (zig_any (-2) _ (by decide) (by decide)).mono ?_
  rintro _ w2 ⟨rfl, rfl⟩
  rw [show zigN (-2) = 3 by kernel_rfl]
  go_wp2_with fail
  refine (zag_any 3 _ (by decide) (by decide)).mono ?_
  rintro _ w2 ⟨rfl, rfl⟩
  rw [show zagN 3 = -2 by kernel_rfl]
  go_wp2_with fail
  refine (puttext_any ⟨#[97, 98]⟩ _ (by decide)).mono ?_
  rintro _ w2 ⟨rfl, hb⟩
  have hb2 := chain hb1 hb
  clear hb hb1
  rw [show putB (ByteArray.size ⟨#[97, 98]⟩) ++ ⟨#[97, 98]⟩ = ⟨#[2, 97, 98]⟩ by kernel_rfl]
  go_wp2
  go_ret
  exact ⟨rfl, hb2⟩
end Go.Proofs.Ytdgnjhnbldbnhaa
