/-
  alive of cracknellaw04: a contract.
-/
import Derived.Test.YtbgombgcjfemmaaCrcOne
import Derived.Deep.RegionHeld3
import Derived.Test.YtbgombgcjfemmaaBaseDraw
namespace Go.Proofs.Ytbgombgcjfemmaa
open Go.RowKit
set_option linter.unusedVariables false

def nineB : ByteArray := ⟨#[49, 50, 51, 52, 53, 54, 55, 56, 57]⟩

theorem av_sum : sumB (catB [⟨#[49, 50, 51, 52]⟩, ⟨#[53, 54, 55, 56, 57]⟩]) = 3421780262 := by decide +kernel
theorem av_tail : tailB (catB [⟨#[49, 50, 51, 52, 53, 54, 55, 56, 57]⟩]) = ⟨#[38, 57, 244, 203]⟩ := by kernel_rfl
theorem av_one : crcN 8 1 = 1996959894 := by decide +kernel
theorem av_step : crcStep 0 1 = 1996959894 := by decide +kernel
theorem av_r1 : rightB ⟨#[49, 50, 51, 52, 53, 54, 55, 56, 57, 38, 57, 244, 203]⟩ = true := by kernel_rfl
theorem av_r2 : rightB ⟨#[49, 50, 51, 52, 53, 54, 55, 56, 57, 38, 57, 244, 204]⟩ = false := by kernel_rfl
theorem av_r3 : rightB ⟨#[97, 98, 99]⟩ = false := by kernel_rfl

theorem at_right {s : ByteArray} {b : Bool} (w : World) (hs : s.size ≤ 1000000000000000) (h : rightB s = b) :
    Calls Try.prog 19 #[.string s] w fun e w' => e = .returned (.bool b) ∧ Below w.heap.size w w' := h ▸ right_any s w hs

theorem av_call_sum (W : World) : Calls Try.prog 16 #[.slice (some ⟨W.heap.size, 0, none⟩) 2 2] ((W.alloc (.cells #[.string ⟨#[49, 50, 51, 52]⟩, .string ⟨#[53, 54, 55, 56, 57]⟩] 9)).drew) fun e w' => e = .returned (.int .u32 3421780262) ∧ Below ((W.alloc (.cells #[.string ⟨#[49, 50, 51, 52]⟩, .string ⟨#[53, 54, 55, 56, 57]⟩] 9)).drew).heap.size ((W.alloc (.cells #[.string ⟨#[49, 50, 51, 52]⟩, .string ⟨#[53, 54, 55, 56, 57]⟩] 9)).drew) w' := by
  have h := sum_any _ [⟨#[49, 50, 51, 52]⟩, ⟨#[53, 54, 55, 56, 57]⟩] ((W.alloc (.cells #[.string ⟨#[49, 50, 51, 52]⟩, .string ⟨#[53, 54, 55, 56, 57]⟩] 9)).drew) (strs_two W _ _) (by simp) (by decide)
  rw [av_sum] at h
  exact h

theorem av_call_tail (W : World) : Calls Try.prog 15 #[.slice (some ⟨W.heap.size, 0, none⟩) 1 1] (W.alloc (.cells #[.string ⟨#[49, 50, 51, 52, 53, 54, 55, 56, 57]⟩] 9)) fun e w' => e = .returned (.string ⟨#[38, 57, 244, 203]⟩) ∧ Below (W.alloc (.cells #[.string ⟨#[49, 50, 51, 52, 53, 54, 55, 56, 57]⟩] 9)).heap.size (W.alloc (.cells #[.string ⟨#[49, 50, 51, 52, 53, 54, 55, 56, 57]⟩] 9)) w' := by
  have h := tail_any _ [⟨#[49, 50, 51, 52, 53, 54, 55, 56, 57]⟩] _ (strs_one W _) (by simp) (by decide)
  rw [av_tail] at h
  exact h

theorem av_call_step (W : World) : Calls Try.prog 13 #[.int .u32 0, .int .u8 1] W fun e w' => e = .returned (.int .u32 1996959894) ∧ Below W.heap.size W w' := by
  have h := step_any 0 1 W (by decide) (by decide)
  rw [av_step] at h
  exact h

theorem av_alloc {W0 W : World} {p : Addr} {v : Value} (o : Obj) (h : W.cell? p = some v ∧ Below W0.heap.size W0 W) : (W.alloc o).cell? p = some v ∧ Below W0.heap.size W0 (W.alloc o) :=
  ⟨by rw [World.cell?_alloc_some W p o (by rw [h.1]; rfl)]; exact h.1, h.2.alloc h.2.size o⟩
theorem av_first {W0 W : World} {p : Addr} {v : Value} (o : Obj) (h : W.drew.cell? p = some v ∧ Below W0.heap.size W0 W.drew) : (W.alloc o).drew.cell? p = some v ∧ Below W0.heap.size W0 (W.alloc o).drew := by
  have h' : W.cell? p = some v ∧ Below W0.heap.size W0 W := ⟨h.1, ⟨h.2.os, h.2.tape, h.2.output, h.2.size, h.2.block⟩⟩
  exact ⟨(av_alloc o h').1, (av_alloc o h').2.drew⟩
theorem av_on {W0 W W' : World} {p : Addr} {v : Value} (hb : Below W.heap.size W W') (h : W.cell? p = some v ∧ Below W0.heap.size W0 W) : W'.cell? p = some v ∧ Below W0.heap.size W0 W' :=
  ⟨by rw [hb.cell (World.block_lt_of_cell? W p h.1)]; exact h.1, chain h.2 hb⟩

set_option maxRecDepth 100000 in
set_option maxHeartbeats 1600000 in
theorem alive_any (w : World) : Calls Try.prog 11 #[] w fun e w' => e = .returned (.bool true) ∧ Below w.heap.size w w' := by
  have hz := zero256
  have hst := store256
  go_enter Try.func11, Try.ntmps11
  go_wp2_with fail
  refine (table_any _).mono ?_
  rintro _ w1 ⟨rfl, hb1⟩
  have hb2 := chain hb1 (tabW_below w1)
  clear hb1
  go_wp2_with (with_reducible refine wp_halt ?_)
  refine Halt.on ?_
  clear hz hst
  have hc1 := tabW_cell w1 1 (by decide)
  rw [av_one] at hc1
  generalize tabW w1 = W0 at *
  have hS : W0.drew.cell? ⟨w1.heap.size, 1, none⟩ = some (.int .u32 1996959894) ∧ Below W0.heap.size W0 W0.drew := ⟨hc1, (Below.refl _ _).drew⟩
  go_region_held3 (fun W => W.cell? ⟨w1.heap.size, 1, none⟩ = some (.int .u32 1996959894) ∧ Below W0.heap.size W0 W) (first | assumption | (refine av_first _ ?_; assumption) | (refine av_alloc _ ?_; assumption)) (first
    | (go_at_call 16; ((with_reducible refine (av_call_sum _).mono ?_); rintro _ _ ⟨rfl, hb⟩; have hS1 := av_on (p := ⟨w1.heap.size, 1, none⟩) (v := .int .u32 1996959894) (W0 := W0) hb (by assumption); clear hb))
    | (go_at_call 15; ((with_reducible refine (av_call_tail _).mono ?_); rintro _ _ ⟨rfl, hb⟩; have hS1 := av_on (p := ⟨w1.heap.size, 1, none⟩) (v := .int .u32 1996959894) (W0 := W0) hb (by assumption); clear hb))
    | (go_at_call 13; ((with_reducible refine (av_call_step _).mono ?_); rintro _ _ ⟨rfl, hb⟩; have hS1 := av_on (p := ⟨w1.heap.size, 1, none⟩) (v := .int .u32 1996959894) (W0 := W0) hb (by assumption); clear hb))
    | (go_at_call 19; ((with_reducible refine (at_right _ (by decide) av_r1).mono ?_); rintro _ _ ⟨rfl, hb⟩; have hS1 := av_on (p := ⟨w1.heap.size, 1, none⟩) (v := .int .u32 1996959894) (W0 := W0) hb (by assumption); clear hb))
    | (go_at_call 19; ((with_reducible refine (at_right _ (by decide) av_r2).mono ?_); rintro _ _ ⟨rfl, hb⟩; have hS1 := av_on (p := ⟨w1.heap.size, 1, none⟩) (v := .int .u32 1996959894) (W0 := W0) hb (by assumption); clear hb))
    | (go_at_call 19; ((with_reducible refine (at_right _ (by decide) av_r3).mono ?_); rintro _ _ ⟨rfl, hb⟩; have hS1 := av_on (p := ⟨w1.heap.size, 1, none⟩) (v := .int .u32 1996959894) (W0 := W0) hb (by assumption); clear hb)))
  all_goals
    have hS2 : ∀ W : World, (W.cell? ⟨w1.heap.size, 1, none⟩ = some (.int .u32 1996959894) ∧ Below W0.heap.size W0 W) → Below w.heap.size w W := fun W h => chain hb2 h.2
    go_wp2
    go_ret
    refine ⟨rfl, hS2 _ ?_⟩
    assumption
end Go.Proofs.Ytbgombgcjfemmaa
