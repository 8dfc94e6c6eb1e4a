/-
  The statement on objects that have a key twice: its own closure.
-/
import Derived.Test.YtmnigdcgdebgoaaDoorJsonTwF
import Derived.Test.YtmnigdcgdebgoaaDoorJsF
import Derived.Test.YtmnigdcgdebgoaaDoorQuoM
import Derived.Deep.RegionHeld3
namespace Go.Proofs.YtmnigdcgdebgoaaDoor
open Go.RowKit
set_option linter.unusedVariables false

theorem printB_small (n : Int) (h1 : -9223372036854775808 ≤ n) (h2 : n ≤ 9223372036854775807) : (printB n).size ≤ 20 := by
  rw [← list_len, printB_list]
  exact printL_len n h1 h2

/-- A row of one number, printed. -/
theorem print_one (g : Nat) (n : Int) (h1 : -9223372036854775808 ≤ n) (h2 : n ≤ 9223372036854775807) (P : ByteArray) (hP : printB n = P) (W : World) (hT : Tabs W) (hg : W.heap[g]? = some (.cells #[.int .i64 0, .int .i64 4, .string ⟨#[]⟩, .string ⟨#[]⟩, .int .i64 n] 41 (0, 0))) :
    Calls Tryd.prog 18 #[.slice (some ⟨g, 0, none⟩) 1 1] W fun e w' => e = .returned (.string P) ∧ Below W.heap.size W w' := by
  have hpu : printU [⟨0, 4, [], [], n⟩] = printL n := by
    have := J.printed (.num n) (by rw [J.good]; exact ⟨h1, h2⟩)
    rw [J.rows, J.text] at this
    exact this
  have hl := printL_len n h1 h2
  refine jprint_any (.slice (some ⟨g, 0, none⟩) 1 1) [⟨0, 4, [], [], n⟩] W hT (.inr ⟨⟨g, 0, none⟩, 1, rfl, Nat.le_refl _, fun j u hj => ?_⟩) ⟨by show 1 ≤ 100000; omega, fun x hx => ?_⟩ P ?_ ?_
  · have e2 : (⟨g, 0, none⟩ : Addr).add j = ⟨g, j, none⟩ := by cases j <;> simp [Addr.add]
    have e := cell_of_row W g j _ _ _ hg
    rw [e2, e]
    have e3 : itsV [(⟨0, 4, [], [], n⟩ : It)] = [.int .i64 0, .int .i64 4, .string ⟨#[]⟩, .string ⟨#[]⟩, .int .i64 n] := rfl
    rw [e3] at hj
    simpa using hj
  · rw [List.mem_singleton.1 hx]
    exact ⟨Nat.zero_le _, Nat.zero_le _, h1, h2⟩
  · rw [hpu, ← hP]
    exact ba_ext (by rw [list_bytesOf, printB_list])
  · rw [hpu]
    omega

set_option maxRecDepth 100000 in
set_option maxHeartbeats 1600000 in
theorem member_any (k : ByteArray) (B : Nat) (n : Int) (h1 : -9223372036854775808 ≤ n) (h2 : n ≤ 9223372036854775807) (M : ByteArray) (hM : k ++ ⟨#[58]⟩ ++ printB n = M) (w : World) (hT : Tabs w) (hB : w.cell? ⟨B, 0, none⟩ = some (.string k)) (hk : k.size ≤ 100000) :
    Calls Tryd.prog 24 #[.int .i64 n, .pointer (some ⟨B, 0, none⟩)] w fun e w' => e = .returned (.string M) ∧ Below w.heap.size w w' := by
  obtain ⟨P, hP⟩ : ∃ P, printB n = P := ⟨_, rfl⟩
  have hPz : P.size ≤ 20 := by rw [← hP]; exact printB_small n h1 h2
  rw [hP] at hM
  have HP := Lib.hid hP
  have HM := Lib.hid hM
  have HT := Lib.hid hT
  have HK := Lib.hid hB
  have hBl : B < w.heap.size := World.block_lt_of_cell? w ⟨B, 0, none⟩ hB
  have hba := ((Below.refl w.heap.size w).alloc (Nat.le_refl _) (.cells #[.int .i64 0, .int .i64 4, .string ⟨#[]⟩, .string ⟨#[]⟩, .int .i64 n] 41)).drew
  have HBA := Lib.hid hba
  have e58 : (⟨#[58]⟩ : ByteArray).size = 1 := rfl
  have hadd1 := fun w => run_string_add_sum (P := Tryd.prog) w k ⟨#[58]⟩ (by rw [e58]; omega)
  have hadd2 := fun w => run_string_add_sum (P := Tryd.prog) w (k ++ ⟨#[58]⟩) P (by rw [ByteArray.size_append, e58]; omega)
  clear hP hM hT hba
  go_enter Tryd.func24, Tryd.ntmps24
  go_wp2_with fail
  go_region_held3 (fun w' => w'.cell? ⟨B, 0, none⟩ = some (.string k)) (first | assumption | go_keep) (first
    | (go_at_call 18; refine (print_one w.heap.size n h1 h2 P HP.out _ (HT.out.keep HBA.out) (heap_alloc_new w _)).mono ?_; rintro _ w4 ⟨rfl, hb4⟩; have hc4 : w4.cell? ⟨B, 0, none⟩ = some (.string k) := (hb4.cell (p := ⟨B, 0, none⟩) (Nat.lt_of_lt_of_le hBl HBA.out.size)).trans ((HBA.out.cell (p := ⟨B, 0, none⟩) hBl).trans HK.out)))
  all_goals
    have hb := chain HBA.out hb4
    go_wp2
    go_ret
    rw [HM.out]
    exact ⟨rfl, hb⟩
end Go.Proofs.YtmnigdcgdebgoaaDoor
