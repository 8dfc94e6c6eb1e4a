/-
  alive of cracknellaw02: a contract.
-/
import Derived.Test.YtdiecopmfdfjcaaDecRfx
namespace Go.Proofs.Ytdiecopmfdfjcaa
open Go.RowKit
set_option linter.unusedVariables false

theorem no_007 (n : Int) (h1 : -9223372036854775808 ≤ n) (h2 : n ≤ 9223372036854775807) : printB n ≠ ⟨#[48, 48, 55]⟩ := by
  intro h
  have hl : printL n = [48, 48, 55] := by rw [← printB_list, h]
  obtain ⟨b1, b2⟩ := int_bound n h1 h2
  unfold printL at hl
  split at hl
  · have := (List.cons.inj hl).1
    revert this
    decide
  · have e1 := congrArg List.length hl
    have e2 := congrArg valN hl
    obtain ⟨c1, c2, c3⟩ := nd_spec n.toNat b2
    rw [padK_len] at e1
    have e3 : nd n.toNat = 3 := e1
    rw [valN_pad, Nat.mod_eq_of_lt c2] at e2
    have e4 : n.toNat = 7 := e2
    rw [e3, e4] at c3
    omega

set_option maxHeartbeats 1600000 in
theorem alive_any (w : World) : Calls Try.prog 11 #[] w fun e w' => e = .returned (.bool true) ∧ Below w.heap.size w w' := by
  go_enter Try.func11, Try.ntmps11
  go_wp2_with fail
  refine (read_yes (-120) ⟨#[45, 49, 50, 48]⟩ _ (by decide) (by decide) (by kernel_rfl)).mono ?_
  rintro _ w1 ⟨rfl, hb1⟩
  go_wp2_with fail
  refine (read_no ⟨#[48, 48, 55]⟩ _ (by decide) no_007).mono ?_
  rintro _ w2 ⟨rfl, hb⟩
  have hb2 := chain hb1 hb
  clear hb hb1
  go_wp2_with fail
  refine (unfixed_yes ⟨#[48, 48, 55]⟩ 7 _ (by decide) (by decide) (by decide) (by decide)).mono ?_
  rintro _ w1 ⟨rfl, hb⟩
  have hb1 := chain hb2 hb
  clear hb hb2
  go_wp2_with fail
  refine (print_any (-120) _ (by decide) (by decide)).mono ?_
  rintro _ w2 ⟨rfl, hb⟩
  have hb2 := chain hb1 hb
  clear hb hb1
  rw [show printB (-120) = ⟨#[45, 49, 50, 48]⟩ by kernel_rfl]
  go_wp2_with fail
  refine (fixed_yes 7 3 _ (by decide) (by decide) (by decide)).mono ?_
  rintro _ w1 ⟨rfl, hb⟩
  have hb1 := chain hb2 hb
  clear hb hb2
  rw [show padB 7 3 = ⟨#[48, 48, 55]⟩ by kernel_rfl]
  go_wp2_with fail
  refine (fixed_long 1000 3 _ (by decide) (by decide) (by decide) (by decide)).mono ?_
  rintro _ w2 ⟨rfl, hb⟩
  have hb2 := chain hb1 hb
  clear hb hb1
  go_wp2
  go_ret
  exact ⟨rfl, hb2⟩
end Go.Proofs.Ytdiecopmfdfjcaa
