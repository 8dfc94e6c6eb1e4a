/-
  The document's own answers (package cracknelref11): Match: a contract.
-/
import Derived.Test.YtkpdejnhjbojpaaDoorHosRq
namespace Go.Proofs.YtkpdejnhjbojpaaDoor
open Go.RowKit
set_option linter.unusedVariables false

theorem list_eq {a d : ByteArray} : a = d ↔ a.data.toList = d.data.toList := ⟨fun h => by rw [h], fun h => ba_ext h⟩

theorem matchB_less (a d : ByteArray) (hne : a ≠ d) (h : a.size ≤ d.size) : matchB a.data.toList d.data.toList = false := by
  unfold matchB endsB
  rw [list_len, list_len, decide_eq_false (fun e => hne (list_eq.2 e)), decide_eq_false (show ¬ d.size < a.size by omega)]
  rfl

theorem tail_list (a : ByteArray) (k : Nat) : (a.extract k a.size).data.toList = a.data.toList.drop k := by
  rw [extract_list]
  exact List.take_of_length_le (by rw [List.length_drop, list_len]; omega)

theorem matchB_tail (a d : ByteArray) (hne : a ≠ d) (h : d.size < a.size) :
    matchB a.data.toList d.data.toList = (decide (a.extract (a.size - d.size) a.size = d) && decide (a[a.size - d.size - 1]'(by omega) = 46) && !ipB a.data.toList) := by
  unfold matchB endsB
  have e : decide (a.data.toList.drop (a.size - d.size) = d.data.toList) = decide (a.extract (a.size - d.size) a.size = d) := by
    rw [Bool.eq_iff_iff, decide_eq_true_iff, decide_eq_true_iff, list_eq, tail_list]
  rw [list_len, list_len, decide_eq_false (fun e => hne (list_eq.2 e)), decide_eq_true h, e, getD_byte a (a.size - d.size - 1) (by omega)]
  simp

set_option maxRecDepth 100000 in
set_option maxHeartbeats 1600000 in
theorem rmatch_any (a d : ByteArray) (w : World) (ha : a.size ≤ 100000) (hd : d.size ≤ 100000) :
    Calls Tryd.prog 48 #[.string a, .string d] w fun e w' => e = .returned (.bool (matchB a.data.toList d.data.toList)) ∧ Below w.heap.size w w' := by
  by_cases hne : a = d
  · subst hne
    have HV := Lib.hid (match_self a.data.toList)
    have hq : (a.toList == a.toList) = true := by simp
    go_enter Tryd.func48, Tryd.ntmps48
    go_wp2
    go_ret
    exact ⟨ret_bool HV.out.symm, Below.refl _ _⟩
  have hq : (a.toList == d.toList) = false := by rw [eq_toList]; simpa using hne
  have hq2 : ¬ a.toList = d.toList := fun h => by rw [h] at hq; simp at hq
  by_cases hl : a.size ≤ d.size
  · have HV := Lib.hid (matchB_less a d hne hl)
    clear hne
    go_enter Tryd.func48, Tryd.ntmps48
    go_wp2
    go_ret
    exact ⟨ret_bool HV.out.symm, Below.refl _ _⟩
  have HV := Lib.hid (matchB_tail a d hne (by omega))
  have hlt : d.size < a.size := by omega
  have hdiff : 0 < a.size - d.size := by omega
  have hidx : a.size - d.size - 1 < a.size := by omega
  clear hne
  by_cases hx : a.extract (a.size - d.size) a.size = d
  · have hx1 : ((a.extract (a.size - d.size) a.size).toList == d.toList) = true := by rw [hx]; simp
    have HX := Lib.hid hx
    clear hx
    by_cases h9 : a[a.size - d.size - 1] = 46
    · have hi := u8_is h9 46 rfl
      have H9 := Lib.hid h9
      have HI := Lib.hid (rip_any a · ha)
      clear h9
      obtain ⟨p, hp⟩ : ∃ p, p = ipB a.data.toList := ⟨_, rfl⟩
      rw [← hp] at HI HV
      clear hp
      go_enter Tryd.func48, Tryd.ntmps48
      go_wp2_with fail
      refine (HI.out _).mono ?_
      rintro _ w1 ⟨rfl, hb1⟩
      go_wp2
      go_ret
      exact ⟨ret_bool (by rw [HV.out, decide_eq_true HX.out, decide_eq_true H9.out]; simp), hb1⟩
    · have hi := u8_isnt h9 46 rfl
      have H9 := Lib.hid h9
      clear h9
      go_enter Tryd.func48, Tryd.ntmps48
      go_wp2
      go_ret
      exact ⟨ret_bool (by rw [HV.out, decide_eq_false H9.out]; simp), Below.refl _ _⟩
  · have hx1 : ((a.extract (a.size - d.size) a.size).toList == d.toList) = false := by rw [eq_toList]; simpa using hx
    have HX := Lib.hid hx
    clear hx
    go_enter Tryd.func48, Tryd.ntmps48
    go_wp2
    go_ret
    exact ⟨ret_bool (by rw [HV.out, decide_eq_false HX.out]; simp), Below.refl _ _⟩
end Go.Proofs.YtkpdejnhjbojpaaDoor
