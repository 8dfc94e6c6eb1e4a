/-
  The program's own way to write bytes by digits (package lines): contracts.
-/
import Derived.Test.YteoailanpmkcfaaLinesMark
namespace Go.Proofs.Yteoailanpmkcfaa
open Go.RowKit
set_option linter.unusedVariables false

def dashB (n : Nat) : Bool := decide (n = 45) || decide (n = 46) || decide (n = 95) || decide (n = 126)

theorem dash_index (c : UInt8) : ∃ i : Int, Lib.indexByte [45, 46, 95, 126] c = i ∧ decide (0 ≤ i) = dashB c.toNat := by
  refine ⟨_, rfl, ?_⟩
  have e : dashB c.toNat = [45, 46, 95, 126].contains c := by
    unfold dashB
    rw [Bool.eq_iff_iff]
    simp only [Bool.or_eq_true, decide_eq_true_eq, List.contains_cons, List.contains_nil, Bool.or_false, beq_iff_eq, ← UInt8.toNat_inj, or_assoc]
    rfl
  rw [e]
  cases h : [45, 46, 95, 126].contains c with
  | true => simpa using indexByte_some _ _ h
  | false => rw [indexByte_none _ _ h]; rfl

theorem safe_eq (n : Nat) : safeN n = ((decide (65 ≤ n) && decide (n ≤ 90)) || (decide (97 ≤ n) && decide (n ≤ 122)) || (decide (48 ≤ n) && decide (n ≤ 57)) || dashB n) := by
  unfold safeN dashB
  simp only [Bool.or_assoc]

set_option maxRecDepth 100000 in
set_option maxHeartbeats 800000 in
theorem bare_any (c : UInt8) (C : Int) (w : World) (hC : C = (c.toNat : Int)) :
    Calls Try.prog 58 #[.int .u8 C] w fun e w' => e = .returned (.bool (safeN c.toNat)) ∧ w = w' := by
  obtain ⟨i, hi, hd⟩ := dash_index c
  have HI := Lib.hid (index_any ⟨#[45, 46, 95, 126]⟩ c C i w hC hi)
  have HD := Lib.hid hd
  have HC := Lib.hid hC
  clear hi hd hC
  go_enter Try.func58, Try.ntmps58
  go_wp2_with (go_at_call 55; refine HI.out.mono ?_; rintro _ w1 ⟨rfl, rfl⟩)
  all_goals
    go_ret
    refine ⟨ret_bool ?_, rfl⟩
    have hC := HC.out
    rw [safe_eq, ← HD.out]
    generalize c.toNat = n at *
    rw [Bool.eq_iff_iff]
    simp
    omega

/-- string([]byte{..}), behind a draw. -/
theorem lit_backD (l : List UInt8) (W : World) : Sem.run Try.prog (convert 39 9 (.slice (some ⟨W.heap.size, 0, none⟩) l.length l.length)) (W.alloc (.cells (u8s l).toArray 5)).drew = .ok (.string ⟨l.toArray⟩) (W.alloc (.cells (u8s l).toArray 5)).drew := by
  refine run_convert_bytes_back (P := Try.prog) _ 39 9 5 ⟨W.heap.size, 0, none⟩ l.length l Try.underlying39 Try.underlying5 Try.underlying9 (fun j hj => ?_)
  have e : (⟨W.heap.size, 0, none⟩ : Addr).add j = ⟨W.heap.size, j, none⟩ := by cases j <;> simp [Addr.add]
  rw [e]
  have := cell_of_row (W.alloc (.cells (u8s l).toArray 5)) W.heap.size j (u8s l).toArray 5 (0, 0) (heap_alloc_new W _)
  show (W.alloc (.cells (u8s l).toArray 5)).cell? _ = _
  rw [this]
  simp [u8s, List.getElem?_eq_getElem hj]
theorem three_backD (v0 v1 v2 : Int) (c0 c1 c2 : UInt8) (h0 : v0 = (c0.toNat : Int)) (h1 : v1 = (c1.toNat : Int)) (h2 : v2 = (c2.toNat : Int)) (W : World) :
    Sem.run Try.prog (convert 39 9 (.slice (some ⟨W.heap.size, 0, none⟩) 3 3)) (W.alloc (.cells #[.int .u8 v0, .int .u8 v1, .int .u8 v2] 5)).drew = .ok (.string ⟨#[c0, c1, c2]⟩) (W.alloc (.cells #[.int .u8 v0, .int .u8 v1, .int .u8 v2] 5)).drew := by
  subst h0 h1 h2
  exact lit_backD [c0, c1, c2] W

def digitsB : ByteArray := ⟨#[48, 49, 50, 51, 52, 53, 54, 55, 56, 57, 65, 66, 67, 68, 69, 70]⟩
theorem digits_at : ∀ a : Fin 16, (digitsB[a.1]'(by have := a.2; exact this)).toNat = hexN a.1 := by decide
theorem digits_is (a : Nat) (h : a < 16) : ((⟨#[48, 49, 50, 51, 52, 53, 54, 55, 56, 57, 65, 66, 67, 68, 69, 70]⟩ : ByteArray)[a]'h).toNat = (UInt8.ofNat (hexN a)).toNat := by
  rw [u8p _ (hexN_lt a h)]
  exact digits_at ⟨a, h⟩

set_option maxRecDepth 100000 in
set_option maxHeartbeats 800000 in
theorem becP_any (c : UInt8) (C : Int) (w : World) (hC : C = (c.toNat : Int)) :
    Calls Try.prog 57 #[.int .u8 C] w fun e w' => e = .returned (.string ⟨(pct c).toArray⟩) ∧ Below w.heap.size w w' := by
  subst hC
  have hc := c.toNat_lt
  cases h : safeN c.toNat with
  | true =>
    have HI := Lib.hid (bare_any c (c.toNat : Int) w rfl)
    rw [h] at HI
    have h5 := fun W => one_back (c.toNat : Int) c rfl W
    have HE : Hid (pct c = [c]) := by
      show _ = _
      unfold pct
      rw [if_pos h]
    clear h
    go_enter Try.func57, Try.ntmps57
    go_wp2_with (go_at_call 58; refine HI.out.mono ?_; rintro _ w1 ⟨rfl, rfl⟩)
    go_ret
    exact ⟨ret_str (by rw [HE.out]), (Below.refl _ _).alloc (Nat.le_refl _) _⟩
  | false =>
    have HI := Lib.hid (bare_any c (c.toNat : Int) w rfl)
    rw [h] at HI
    obtain ⟨a, ha⟩ : ∃ a, c.toNat / 16 = a := ⟨_, rfl⟩
    obtain ⟨b, hb⟩ : ∃ b, c.toNat % 16 = b := ⟨_, rfl⟩
    have q1 : a < 16 := by omega
    have q2 : b < 16 := by omega
    have q3 : (a : Int) < 16 := by omega
    have q4 : (b : Int) < 16 := by omega
    have r1 : ((c.toNat : Int) / 16) = (a : Int) := by omega
    have r2 : ((c.toNat : Int) % 16) = (b : Int) := by omega
    have r3 : IntKind.u8.wrap (a : Int) = (a : Int) := by
      show ((a : Int) % 256) = _
      omega
    have HE : Hid (pct c = [37, UInt8.ofNat (hexN a), UInt8.ofNat (hexN b)]) := by
      show _ = _
      unfold pct
      rw [h, ha, hb]
      rfl
    have h6 := fun W => three_backD 37 (((⟨#[48, 49, 50, 51, 52, 53, 54, 55, 56, 57, 65, 66, 67, 68, 69, 70]⟩ : ByteArray)[a]'q1).toNat : Int) (((⟨#[48, 49, 50, 51, 52, 53, 54, 55, 56, 57, 65, 66, 67, 68, 69, 70]⟩ : ByteArray)[b]'q2).toNat : Int) 37 (UInt8.ofNat (hexN a)) (UInt8.ofNat (hexN b)) rfl (by rw [digits_is a q1]) (by rw [digits_is b q2]) W
    clear ha hb h
    go_enter Try.func57, Try.ntmps57
    go_wp2_with (go_at_call 58; refine HI.out.mono ?_; rintro _ w1 ⟨rfl, rfl⟩)
    go_region
    all_goals
      go_wp2
      go_ret
      exact ⟨ret_str (by rw [HE.out]), ((Below.refl _ _).alloc (Nat.le_refl _) _).drew⟩
end Go.Proofs.Yteoailanpmkcfaa
