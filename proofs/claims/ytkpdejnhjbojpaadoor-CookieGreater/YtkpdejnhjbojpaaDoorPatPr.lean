/-
  Package path: Right, Match: contracts.
-/
import Derived.Test.YtkpdejnhjbojpaaDoorPatLc
import Derived.Test.YtkpdejnhjbojpaaDoorAscPq
namespace Go.Proofs.YtkpdejnhjbojpaaDoor
open Go.RowKit
set_option linter.unusedVariables false

theorem right_all (s : ByteArray) (h : s.size ≤ 64) : rightB s.data.toList = (([47] : List UInt8).isPrefixOf s.data.toList && allB (inSpans plainL) s) := by
  rw [right_pre, list_len, decide_eq_true h, Bool.true_and]
  rfl

set_option maxRecDepth 100000 in
set_option maxHeartbeats 1600000 in
theorem rgt_big (s : ByteArray) (w : World) (hs : s.size ≤ 1000000000) : Calls Tryd.prog 27 #[.string s] w fun e w' => e = .returned (.bool (rightB s.data.toList)) ∧ Below w.heap.size w w' := by
  by_cases h64 : 64 < s.size
  · have HV : Hid (rightB s.data.toList = false) := by
      show _ = _
      unfold rightB
      rw [list_len, decide_eq_false (show ¬ s.size ≤ 64 by omega), Bool.and_false, Bool.false_and, Bool.false_and]
    have hle : ¬ ((s.size : Int) ≤ 64) := by omega
    go_enter Tryd.func27, Tryd.ntmps27
    go_wp2
    go_ret
    exact ⟨ret_bool HV.out.symm, Below.refl _ _⟩
  have hle : (s.size : Int) ≤ 64 := by omega
  have HV := Lib.hid (right_all s (by omega))
  have HP := Lib.hid (plain_any s · (by unfold maxLen; omega))
  obtain ⟨b, hb⟩ : ∃ b, ([47] : List UInt8).isPrefixOf s.data.toList = b := ⟨_, rfl⟩
  have HS := Lib.hid (slash_at s b · hb)
  rw [hb] at HV
  clear hb h64
  go_enter Tryd.func27, Tryd.ntmps27
  go_wp2_with fail
  refine (HS.out _).mono ?_
  rintro _ w1 ⟨rfl, rfl⟩
  cases b
  · go_wp2
    go_ret
    exact ⟨ret_bool (by rw [HV.out]; rfl), Below.refl _ _⟩
  · go_wp2_with fail
    refine (HP.out _).mono ?_
    rintro _ w1 ⟨rfl, hb1⟩
    go_wp2
    go_ret
    exact ⟨ret_bool (by rw [HV.out]; rfl), hb1⟩

theorem rgt_any (s : ByteArray) (w : World) (hs : s.size ≤ 1000000) : Calls Tryd.prog 27 #[.string s] w fun e w' => e = .returned (.bool (rightB s.data.toList)) ∧ Below w.heap.size w w' := rgt_big s w (by omega)

set_option maxRecDepth 100000 in
set_option maxHeartbeats 1600000 in
theorem pm_any (r c : ByteArray) (w : World) (hr : r.size ≤ 1000000) (hc : c.size ≤ 1000000) : Calls Tryd.prog 47 #[.string r, .string c] w fun e w' => e = .returned (.bool (pmB r.data.toList c.data.toList)) ∧ Below w.heap.size w w' := by
  have HC := Lib.hid (cut_any r c ·)
  have HV := Lib.hid (pm_cut r.data.toList c.data.toList)
  obtain ⟨b, hb⟩ : ∃ b, c.data.toList.isPrefixOf r.data.toList = b := ⟨_, rfl⟩
  cases b with
  | false =>
    have HK := Lib.hid (cutV_no _ _ hb)
    rw [hb, Bool.false_and] at HV
    rw [HK.out] at HC
    clear hb HK
    go_enter Tryd.func47, Tryd.ntmps47
    go_wp2_with fail
    refine (HC.out _).mono ?_
    rintro _ w1 ⟨rfl, rfl⟩
    go_wp2
    go_ret
    exact ⟨ret_bool HV.out.symm, Below.refl _ _⟩
  | true =>
    have HK := Lib.hid (cutV_yes _ _ hb)
    rw [hb, Bool.true_and] at HV
    rw [HK.out] at HC
    obtain ⟨q, hq⟩ : ∃ q : ByteArray, q = ⟨(r.data.toList.drop c.data.toList.length).toArray⟩ := ⟨_, rfl⟩
    have hql : q.data.toList = r.data.toList.drop c.data.toList.length := by rw [hq]
    rw [← hq] at HC
    rw [← hql] at HV
    obtain ⟨x, hx⟩ : ∃ x, ([47] : List UInt8).isSuffixOf c.data.toList = x := ⟨_, rfl⟩
    obtain ⟨y, hy⟩ : ∃ y, ([47] : List UInt8).isPrefixOf q.data.toList = y := ⟨_, rfl⟩
    have HX := Lib.hid (ends_at c x · (by omega) hx)
    have HY := Lib.hid (slash_at q y · hy)
    rw [hx, hy] at HV
    clear hb HK hq hql hx hy
    by_cases h0 : q.data.toList = []
    · have he : q.toList.isEmpty = true := by rw [ByteArray.toList_eq, h0]; rfl
      have he2 : q.toList = [] := by rw [ByteArray.toList_eq, h0]
      have HV2 : Hid (pmB r.data.toList c.data.toList = true) := by show _ = _; rw [HV.out, decide_eq_true h0]; rfl
      clear HV h0
      go_enter Tryd.func47, Tryd.ntmps47
      go_wp2_with fail
      refine (HC.out _).mono ?_
      rintro _ w1 ⟨rfl, rfl⟩
      go_wp2
      go_ret
      exact ⟨ret_bool HV2.out.symm, Below.refl _ _⟩
    · have he : q.toList.isEmpty = false := by rw [ByteArray.toList_eq]; cases h : q.data.toList with | nil => exact absurd h h0 | cons a b => rfl
      have he2 : ¬ q.toList = [] := by rw [ByteArray.toList_eq]; exact h0
      have HV2 : Hid (pmB r.data.toList c.data.toList = (x || y)) := by show _ = _; rw [HV.out, decide_eq_false h0]; rfl
      clear HV h0
      go_enter Tryd.func47, Tryd.ntmps47
      go_wp2_with fail
      refine (HC.out _).mono ?_
      rintro _ w1 ⟨rfl, rfl⟩
      go_wp2_with fail
      refine (HX.out _).mono ?_
      rintro _ w1 ⟨rfl, rfl⟩
      cases x
      · go_wp2_with fail
        refine (HY.out _).mono ?_
        rintro _ w1 ⟨rfl, rfl⟩
        go_wp2
        go_ret
        exact ⟨ret_bool HV2.out.symm, Below.refl _ _⟩
      · go_wp2
        go_ret
        exact ⟨ret_bool HV2.out.symm, Below.refl _ _⟩
end Go.Proofs.YtkpdejnhjbojpaaDoor
