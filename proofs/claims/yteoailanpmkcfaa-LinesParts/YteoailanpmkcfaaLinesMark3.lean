/-
  The program's own way to read bytes by digits (package lines): a contract.
-/
import Derived.Test.YteoailanpmkcfaaLinesMark2
namespace Go.Proofs.Yteoailanpmkcfaa
open Go.RowKit
set_option linter.unusedVariables false

theorem dig_all : ∀ n : Fin 256, Lib.indexByte [48, 49, 50, 51, 52, 53, 54, 55, 56, 57, 65, 66, 67, 68, 69, 70] (UInt8.ofNat n.1) = digI n.1 := by decide +kernel
theorem dig_index (d : UInt8) : Lib.indexByte [48, 49, 50, 51, 52, 53, 54, 55, 56, 57, 65, 66, 67, 68, 69, 70] d = digI d.toNat := by
  have h := dig_all ⟨d.toNat, d.toNat_lt⟩
  rw [show UInt8.ofNat (⟨d.toNat, d.toNat_lt⟩ : Fin 256).1 = d from UInt8.ofNat_toNat] at h
  exact h
theorem digI_bd (n : Nat) : -1 ≤ digI n ∧ digI n ≤ 15 := by
  unfold digI
  split
  · omega
  · split <;> omega

set_option maxRecDepth 100000 in
set_option maxHeartbeats 800000 in
theorem wasP_any (s : ByteArray) (w : World) (h : 1 < s.size) :
    Calls Try.prog 59 #[.string s] w fun e w' => e = .returned (.int .u8 ((wasP s[0] s[1]).toNat : Int)) ∧ Below w.heap.size w w' := by
  have h0 : 0 < s.size := by omega
  have hi1 : (1 : Int) < (s.size : Int) := by omega
  obtain ⟨i, hi⟩ : ∃ i, digI s[0].toNat = i := ⟨_, rfl⟩
  obtain ⟨j, hj⟩ : ∃ j, digI s[1].toNat = j := ⟨_, rfl⟩
  have bi := digI_bd s[0].toNat
  have bj := digI_bd s[1].toNat
  rw [hi] at bi
  rw [hj] at bj
  obtain ⟨bi1, bi2⟩ := bi
  obtain ⟨bj1, bj2⟩ := bj
  have H0 := Lib.hid (fun W => index_any ⟨#[48, 49, 50, 51, 52, 53, 54, 55, 56, 57, 65, 66, 67, 68, 69, 70]⟩ s[0] (s[0].toNat : Int) i W rfl ((dig_index _).trans hi))
  have H1 := Lib.hid (fun W => index_any ⟨#[48, 49, 50, 51, 52, 53, 54, 55, 56, 57, 65, 66, 67, 68, 69, 70]⟩ s[1] (s[1].toNat : Int) j W rfl ((dig_index _).trans hj))
  have HE : Hid (((wasP s[0] s[1]).toNat : Int) = (i * 16 + j) % 256) := by
    show _ = _
    unfold wasP
    rw [hi, hj, u8p _ (by omega)]
    omega
  clear hi hj
  go_enter Try.func59, Try.ntmps59
  go_wp2_with fail
  refine wp_region_below (g := w.heap.size) (w0 := w) (by kernel_rfl) (by kernel_rfl) (Below.refl _ _) (fun hex => ?_)
  repeat (go_big_quiet_step (first
    | (intro _; rfl)
    | (intro hq; go_at_call 55; (with_reducible refine (H0.out _).mono ?_); rintro _ w1 ⟨rfl, rfl⟩; exact ⟨rfl, hq⟩)
    | (intro hq; go_at_call 55; (with_reducible refine (H1.out _).mono ?_); rintro _ w1 ⟨rfl, rfl⟩; exact ⟨rfl, hq⟩)))
  refine wpQuiet_nil ?_
  intro w1 hb1
  go_wp2
  go_ret
  refine ⟨?_, hb1⟩
  rw [HE.out]
  simp
end Go.Proofs.Yteoailanpmkcfaa
