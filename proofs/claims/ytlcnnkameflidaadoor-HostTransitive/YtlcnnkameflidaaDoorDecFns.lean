/-
  Print of package dec: contracts.
-/
import Derived.Test.YtlcnnkameflidaaDoorDecNums
import Derived.Laws.BitsLemmas
namespace Go.Proofs.YtlcnnkameflidaaDoor
open Go.RowKit
set_option linter.unusedVariables false

set_option maxRecDepth 100000 in
set_option maxHeartbeats 400000 in
theorem print_pos (n : Nat) (w : World) (h : n ≤ 9223372036854775807) :
    Calls Tryd.prog 43 #[.int .i64 (n : Int)] w fun e w' => e = .returned (.string (printB n)) ∧ Below w.heap.size w w' := by
  have H19 := nd_le19 n (by omega)
  obtain ⟨k1, k2, k3⟩ := nd_spec n (by omega)
  have K2 := Lib.hid k2
  have K3 := Lib.hid k3
  clear k2 k3
  have HP := Lib.hid (printB_pos n)
  go_enter Tryd.func43, Tryd.ntmps43
  go_wp2_with fail
  refine (digits_any n 1 (nd n) _ k1 (by omega) K2.out (by omega) (by omega) (by omega) (.inr K3.out)).mono ?_
  rintro _ w1 ⟨rfl, hb1⟩
  go_wp2
  go_ret
  exact ⟨ret_str HP.out.symm, hb1⟩

set_option maxRecDepth 100000 in
set_option maxHeartbeats 400000 in
theorem print_neg (n : Nat) (w : World) (h1 : 1 ≤ n) (h : n ≤ 9223372036854775808) :
    Calls Tryd.prog 43 #[.int .i64 (-(n : Int))] w fun e w' => e = .returned (.string (printB (-(n : Int)))) ∧ Below w.heap.size w w' := by
  have H19 := nd_le19 n (by omega)
  obtain ⟨k1, k2, k3⟩ := nd_spec n (by omega)
  have K2 := Lib.hid k2
  have K3 := Lib.hid k3
  clear k2 k3
  have HP := Lib.hid (printB_neg n h1)
  have hw1 : IntKind.u64.wrap (-(n : Int)) = 18446744073709551616 - n := by rw [IntKind.wrap_u64]; omega
  have hw2 : IntKind.u64.wrap (-(18446744073709551616 - (n : Int))) = n := by rw [IntKind.wrap_u64]; omega
  have hneg : (-(n : Int)) < 0 := by omega
  have HM := Lib.hid (minus_pad n (nd n))
  have hsz := padB_size n (nd n)
  have hss : (ByteArray.mk #[45]).size + (padB n (nd n)).size ≤ 9223372036854775807 := by rw [hsz]; show 1 + _ ≤ _; omega
  clear hsz
  go_enter Tryd.func43, Tryd.ntmps43
  go_wp2_with fail
  refine (digits_any n 1 (nd n) _ k1 (by omega) K2.out (by omega) (by omega) (by omega) (.inr K3.out)).mono ?_
  rintro _ w1 ⟨rfl, hb1⟩
  go_wp2
  go_ret
  exact ⟨ret_str (by rw [HP.out, HM.out]), hb1⟩
theorem print_any (n : Int) (w : World) (h1 : -9223372036854775808 ≤ n) (h2 : n ≤ 9223372036854775807) :
    Calls Tryd.prog 43 #[.int .i64 n] w fun e w' => e = .returned (.string (printB n)) ∧ Below w.heap.size w w' := by
  by_cases h : 0 ≤ n
  · obtain ⟨m, rfl⟩ := Int.eq_ofNat_of_zero_le h
    exact print_pos m w (by omega)
  · obtain ⟨m, hm⟩ : ∃ m : Nat, n = -(m : Int) := ⟨n.natAbs, by omega⟩
    subst hm
    exact print_neg m w (by omega) (by omega)

end Go.Proofs.YtlcnnkameflidaaDoor
