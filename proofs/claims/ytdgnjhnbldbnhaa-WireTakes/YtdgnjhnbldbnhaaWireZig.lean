/-
  Zig and Zag of package wire and of the document: contracts.
-/
import Derived.Test.YtdgnjhnbldbnhaaBase
namespace Go.Proofs.Ytdgnjhnbldbnhaa
open Go.RowKit
set_option linter.unusedVariables false

def zigN (n : Int) : Int := if 0 ≤ n then 2 * n else -2 * n - 1
def zagN (u : Int) : Int := if u % 2 = 0 then u / 2 else -(u / 2) - 1

theorem zag_zig (n : Int) : zagN (zigN n) = n := by
  unfold zagN zigN
  split <;> split <;> omega

theorem zig_zag (u : Int) (h : 0 ≤ u) : zigN (zagN u) = u := by
  unfold zagN zigN
  split <;> split <;> omega

theorem zig_range (n : Int) (h1 : -9223372036854775808 ≤ n) (h2 : n ≤ 9223372036854775807) : 0 ≤ zigN n ∧ zigN n ≤ 18446744073709551615 := by
  unfold zigN
  split <;> omega

theorem zag_range (u : Int) (h1 : 0 ≤ u) (h2 : u ≤ 18446744073709551615) : -9223372036854775808 ≤ zagN u ∧ zagN u ≤ 9223372036854775807 := by
  unfold zagN
  split <;> omega

set_option maxHeartbeats 400000 in
theorem zig_any (n : Int) (w : World) (h1 : -9223372036854775808 ≤ n) (h2 : n ≤ 9223372036854775807) :
    Calls Try.prog 15 #[.int .i64 n] w fun e w' => e = .returned (.int .u64 (zigN n)) ∧ w = w' := by
  by_cases h : 0 ≤ n
  · have HE : Hid (zigN n = n * 2) := by show _ = _; unfold zigN; rw [if_pos h]; omega
    go_enter Try.func15, Try.ntmps15
    go_wp2
    go_ret
    exact ⟨ret_u64 (by rw [HE.out]), rfl⟩
  · have HE : Hid (zigN n = (-1 - n) * 2 + 1) := by show _ = _; unfold zigN; rw [if_neg h]; omega
    go_enter Try.func15, Try.ntmps15
    go_wp2
    go_ret
    exact ⟨ret_u64 (by rw [HE.out]), rfl⟩

set_option maxHeartbeats 400000 in
theorem rzig_any (n : Int) (w : World) (h1 : -9223372036854775808 ≤ n) (h2 : n ≤ 9223372036854775807) :
    Calls Try.prog 16 #[.int .i64 n] w fun e w' => e = .returned (.int .u64 (zigN n)) ∧ w = w' := by
  by_cases h : 0 ≤ n
  · have HE : Hid (zigN n = 2 * n) := by show _ = _; unfold zigN; rw [if_pos h]
    go_enter Try.func16, Try.ntmps16
    go_wp2
    go_ret
    exact ⟨ret_u64 (by rw [HE.out]), rfl⟩
  · have HE : Hid (zigN n = 2 * (-(n + 1)) + 1) := by show _ = _; unfold zigN; rw [if_neg h]; omega
    go_enter Try.func16, Try.ntmps16
    go_wp2
    go_ret
    exact ⟨ret_u64 (by rw [HE.out]), rfl⟩

set_option maxHeartbeats 400000 in
theorem zag_any (u : Int) (w : World) (h1 : 0 ≤ u) (h2 : u ≤ 18446744073709551615) :
    Calls Try.prog 17 #[.int .u64 u] w fun e w' => e = .returned (.int .i64 (zagN u)) ∧ w = w' := by
  by_cases h : u % 2 = 0
  · have HE : Hid (zagN u = u / 2) := by show _ = _; unfold zagN; rw [if_pos h]
    go_enter Try.func17, Try.ntmps17
    go_wp2
    go_ret
    exact ⟨ret_i64 (by rw [HE.out]), rfl⟩
  · have HE : Hid (zagN u = -1 - u / 2) := by show _ = _; unfold zagN; rw [if_neg h]; omega
    have h' : u % 2 = 1 := by omega
    go_enter Try.func17, Try.ntmps17
    go_wp2
    go_ret
    exact ⟨ret_i64 (by rw [HE.out]), rfl⟩

set_option maxHeartbeats 400000 in
theorem rzag_any (u : Int) (w : World) (h1 : 0 ≤ u) (h2 : u ≤ 18446744073709551615) :
    Calls Try.prog 18 #[.int .u64 u] w fun e w' => e = .returned (.int .i64 (zagN u)) ∧ w = w' := by
  by_cases h : u % 2 = 0
  · have HE : Hid (zagN u = u / 2) := by show _ = _; unfold zagN; rw [if_pos h]
    go_enter Try.func18, Try.ntmps18
    go_wp2
    go_ret
    exact ⟨ret_i64 (by rw [HE.out]), rfl⟩
  · have HE : Hid (zagN u = -(u / 2) - 1) := by show _ = _; unfold zagN; rw [if_neg h]
    have h' : u % 2 = 1 := by omega
    go_enter Try.func18, Try.ntmps18
    go_wp2
    go_ret
    exact ⟨ret_i64 (by rw [HE.out]), rfl⟩
end Go.Proofs.Ytdgnjhnbldbnhaa
