/-
  The document's own answers (package cracknelref12): Match: a contract.
-/
import Derived.Test.YtkpdejnhjbojpaaDoorCkMa
import Derived.Test.YtkpdejnhjbojpaaDoorPatByte
namespace Go.Proofs.YtkpdejnhjbojpaaDoor
open Go.RowKit
set_option linter.unusedVariables false

theorem pm_less (r c : ByteArray) (hne : r ≠ c) (h : r.size ≤ c.size) : pmB r.data.toList c.data.toList = false := by
  unfold pmB
  rw [list_len, list_len, decide_eq_false (fun e => hne (list_is.2 e)), decide_eq_false (show ¬ c.size < r.size by omega)]
  rfl

theorem pm_at (r c : ByteArray) (hne : r ≠ c) (h : c.size < r.size) : pmB r.data.toList c.data.toList =
    (decide (r.extract 0 c.size = c) && ((decide (0 < c.size) && decide (c.data.toList.getD (c.size - 1) 0 = 47)) || decide (r[c.size] = 47))) := by
  unfold pmB
  have e : decide (r.data.toList.take c.size = c.data.toList) = decide (r.extract 0 c.size = c) := by
    rw [Bool.eq_iff_iff, decide_eq_true_iff, decide_eq_true_iff, list_is, extract_list, List.drop_zero, Nat.sub_zero]
  rw [list_len, list_len, decide_eq_false (fun e => hne (list_is.2 e)), decide_eq_true h, e, getD_b r c.size h]
  simp

theorem pm_empty (r : ByteArray) (h : 0 < r.size) : pmB r.data.toList ByteArray.empty.data.toList = decide (r[0] = 47) := by
  rw [pm_at r ByteArray.empty (fun e => by rw [e] at h; exact absurd h (by decide)) h]
  have e : r.extract 0 ByteArray.empty.size = ByteArray.empty := by
    apply ba_ext
    rw [extract_list]
    rfl
  rw [decide_eq_true e, decide_eq_false (show ¬ 0 < ByteArray.empty.size by decide)]
  simp only [Bool.false_and, Bool.false_or, Bool.true_and]
  rfl

set_option maxRecDepth 100000 in
set_option maxHeartbeats 1600000 in
theorem rpm_any (r c : ByteArray) (w : World) (hr : r.size ≤ 1000000000000) (hc : c.size ≤ 1000000000000) :
    Calls Tryd.prog 49 #[.string r, .string c] w fun e w' => e = .returned (.bool (pmB r.data.toList c.data.toList)) ∧ w' = w := by
  by_cases hne : r = c
  · subst hne
    have HV := Lib.hid (pm_self r.data.toList)
    have hq : (r.toList == r.toList) = true := by simp
    go_enter Tryd.func49, Tryd.ntmps49
    go_wp2
    go_ret
    exact ⟨ret_bool HV.out.symm, rfl⟩
  have hq : (r.toList == c.toList) = false := by rw [eq_toList]; simpa using hne
  have hq2 : ¬ r.toList = c.toList := fun h => by rw [h] at hq; simp at hq
  by_cases hl : r.size ≤ c.size
  · have HV := Lib.hid (pm_less r c hne hl)
    clear hne
    go_enter Tryd.func49, Tryd.ntmps49
    go_wp2
    go_ret
    exact ⟨ret_bool HV.out.symm, rfl⟩
  have hlt : c.size < r.size := by omega
  have HV := Lib.hid (pm_at r c hne hlt)
  clear hne
  by_cases hx : r.extract 0 c.size = c
  · have hx1 : ((r.extract 0 c.size).toList == c.toList) = true := by rw [hx]; simp
    have HX := Lib.hid hx
    clear hx
    by_cases h0 : c.size = 0
    · have H0 := Lib.hid h0
      have e0 : decide ((0 : Int) < (c.size : Int)) = false := decide_eq_false (by omega)
      clear h0
      by_cases h9 : r[c.size] = 47
      · have hi := u8_is h9 47 rfl
        have hi2 : ((r[c.size].toNat : Int) == 47) = true := beq_iff_eq.2 hi
        have H9 := Lib.hid h9
        clear h9 hi
        go_enter Tryd.func49, Tryd.ntmps49
        go_wp2
        all_goals first
          | (exfalso; have h := H0.out; omega)
          | (go_ret; exact ⟨ret_bool (by rw [HV.out, decide_eq_true HX.out, decide_eq_true H9.out]; simp), rfl⟩)
      · have hi := u8_isnt h9 47 rfl
        have hi2 : ((r[c.size].toNat : Int) == 47) = false := beq_eq_false_iff_ne.2 hi
        have H9 := Lib.hid h9
        clear h9 hi
        go_enter Tryd.func49, Tryd.ntmps49
        go_wp2
        all_goals first
          | (exfalso; have h := H0.out; omega)
          | (go_ret; exact ⟨ret_bool (by rw [HV.out, decide_eq_false H9.out, decide_eq_false (show ¬ 0 < c.size by have := H0.out; omega)]; simp), rfl⟩)
    · have hl2 : c.size - 1 < c.size := by omega
      by_cases hz : c[c.size - 1] = 47
      · have hj := u8_is hz 47 rfl
        have HZ : Hid (c.data.toList.getD (c.size - 1) 0 = 47) := by show _ = _; rw [getD_b c _ hl2]; exact hz
        clear hz
        go_enter Tryd.func49, Tryd.ntmps49
        go_wp2
        go_ret
        exact ⟨ret_bool (by rw [HV.out, decide_eq_true HX.out, decide_eq_true HZ.out, decide_eq_true (show 0 < c.size by omega)]; simp), rfl⟩
      · have hj := u8_isnt hz 47 rfl
        have HZ : Hid (¬ c.data.toList.getD (c.size - 1) 0 = 47) := by show ¬ _; rw [getD_b c _ hl2]; exact hz
        clear hz
        by_cases h9 : r[c.size] = 47
        · have hi := u8_is h9 47 rfl
          have H9 := Lib.hid h9
          clear h9
          go_enter Tryd.func49, Tryd.ntmps49
          go_wp2
          go_ret
          exact ⟨ret_bool (by rw [HV.out, decide_eq_true HX.out, decide_eq_true H9.out]; simp), rfl⟩
        · have hi := u8_isnt h9 47 rfl
          have H9 := Lib.hid h9
          clear h9
          go_enter Tryd.func49, Tryd.ntmps49
          go_wp2
          go_ret
          exact ⟨ret_bool (by rw [HV.out, decide_eq_false H9.out, decide_eq_false HZ.out]; simp [hi, hj]), rfl⟩
  · have hx1 : ((r.extract 0 c.size).toList == c.toList) = false := by rw [eq_toList]; simpa using hx
    have hx2 : ¬ (r.extract 0 c.size).toList = c.toList := fun h => by rw [h] at hx1; simp at hx1
    have HX := Lib.hid hx
    clear hx
    go_enter Tryd.func49, Tryd.ntmps49
    go_wp2
    go_ret
    exact ⟨ret_bool (by rw [HV.out, decide_eq_false HX.out]; simp), rfl⟩
end Go.Proofs.YtkpdejnhjbojpaaDoor
