/-
  Package host: Canon: a contract.
-/
import Derived.Test.YtkpdejnhjbojpaaDoorHosRq
import Derived.Test.YtkpdejnhjbojpaaDoorHosPa
import Derived.Test.YtkpdejnhjbojpaaDoorHosPe
import Derived.Test.YtkpdejnhjbojpaaDoorHosPd
import Derived.Test.YtkpdejnhjbojpaaDoorAscPq
namespace Go.Proofs.YtkpdejnhjbojpaaDoor
open Go.RowKit
set_option linter.unusedVariables false

/-- The parts of a text, by the library's call. -/
theorem psplit_any (s : ByteArray) (w : World) (hs : s.size ≤ 100000) :
    Calls Tryd.prog 73 #[.string s, .string ⟨#[46]⟩] w fun e w' => (∃ ao cap, e = .returned (.slice ao (dotsL s.data.toList).length cap) ∧ (∀ j (hj : j < (dotsL s.data.toList).length), ∃ ad, ao = some ad ∧ w'.cell? (ad.add j) = some (.string (ofL (dotsL s.data.toList)[j])))) ∧ Below w.heap.size w w' := by
  refine (split_any s 46 w (by omega)).mono ?_
  rintro _ w1 ⟨rfl, rfl⟩
  rw [cut_dots]
  refine ⟨⟨_, _, congrArg Ending.returned (by rw [ofLs_len]; rfl), fun j hj => ⟨_, rfl, ?_⟩⟩, (Below.refl _ _).alloc (Nat.le_refl _) _⟩
  have hj' : j < (ofLs (dotsL s.data.toList)).length := by rw [ofLs_len]; exact hj
  have e : (⟨w.heap.size, 0, none⟩ : Addr).add j = ⟨w.heap.size, j, none⟩ := by simp [Addr.add]; omega
  rw [e, World.cell?_alloc_at _ _ _ _ rfl, List.getElem?_toArray, List.getElem?_map, show (ofLs (dotG [] s.data.toList))[j]? = some (ofLs (dotsL s.data.toList))[j] from List.getElem?_eq_getElem hj', ofLs_at _ j hj]
  rfl

theorem len_dots (s : ByteArray) (hs : s.size ≤ 100000) : (dotsL s.data.toList).length ≤ 100001 := by
  have := dots_len s.data.toList []
  rw [list_len] at this
  show (dotG [] s.data.toList).length ≤ 100001
  omega
theorem len_parts (s : ByteArray) (hs : s.size ≤ 100000) : ∀ x ∈ dotsL s.data.toList, x.length ≤ 100000 := by
  intro x hx
  have := dot_part_len s.data.toList [] x hx
  rw [list_len] at this
  simp at this
  omega

theorem each_named (s : ByteArray) (hs : s.size ≤ 100000) (ao : Option Addr) (cap : Nat) (w : World)
    (hc : ∀ j (hj : j < (dotsL s.data.toList).length), ∃ ad, ao = some ad ∧ w.cell? (ad.add j) = some (.string (ofL (dotsL s.data.toList)[j]))) :
    Calls Tryd.prog 71 #[.func (.func 72) #[] #[], .slice ao (dotsL s.data.toList).length cap] w fun e w' => e = .returned (.bool ((dotsL s.data.toList).all partB)) ∧ Below w.heap.size w w' :=
  each_any _ _ _ ao cap w (by have := len_dots s hs; omega) hc (enters_of Tryd.func72 (by kernel_rfl) rfl) fun x hx w => (named_any (ofL x) w (by have := len_parts s hs x hx; show Array.size _ ≤ _; simp; omega)).mono (by rintro _ w1 ⟨rfl, rfl⟩; exact ⟨rfl, Below.refl _ _⟩)

theorem hostB_all (T : ByteArray) (h2 : T.size ≤ 64) : hostB T.data.toList = (dotsL T.data.toList).all partB := by
  by_cases h0 : T.size = 0
  · have hl : T.data.toList = [] := List.eq_nil_of_length_eq_zero (by rw [list_len]; exact h0)
    rw [hl]
    rfl
  · exact hostB_at T (by omega) h2

set_option maxRecDepth 100000 in
set_option maxHeartbeats 1600000 in
theorem canon_any (s : ByteArray) (w : World) (hs : s.size ≤ 281474976710656) : Calls Tryd.prog 50 #[.string s] w fun e w' => e = .returned (canV (lowB s)) ∧ Below w.heap.size w w' := by
  by_cases h64 : 64 < s.size
  · have HV : Hid (canV (lowB s) = .tuple #[.string ByteArray.empty, .bool false]) := by
      refine canV_no _ ?_
      unfold hostB
      rw [list_len, lowB_size, decide_eq_false (show ¬ s.size ≤ 64 by omega), Bool.and_false, Bool.false_and]
    go_enter Tryd.func50, Tryd.ntmps50
    go_wp2
    go_ret2
    exact ⟨congrArg Ending.returned HV.out.symm, Below.refl _ _⟩
  have HL := Lib.hid (lower_any s w hs)
  obtain ⟨T, hT⟩ : ∃ T, T = lowB s := ⟨_, rfl⟩
  rw [← hT] at HL ⊢
  have hts : T.size ≤ 64 := by rw [hT, lowB_size]; omega
  clear hT
  have e2 : decide ((64 : Int) < (s.size : Int)) = false := decide_eq_false (by omega)
  have HH := Lib.hid (hostB_all T hts)
  have HSp := Lib.hid (psplit_any T · (by omega))
  have HE := Lib.hid (each_named T (by omega))
  obtain ⟨b, hb⟩ : ∃ b, (dotsL T.data.toList).all partB = b := ⟨_, rfl⟩
  rw [hb] at HE HH
  clear hb
  go_enter Tryd.func50, Tryd.ntmps50
  go_wp2_with fail
  refine HL.out.mono ?_
  rintro _ w1 ⟨rfl, hb1⟩
  clear HL e2
  go_wp2_with fail
  refine (HSp.out _).mono ?_
  rintro _ w2 ⟨⟨ao, cap, rfl, hcc⟩, hb⟩
  have hb2 := chain hb1 hb
  have HC := Lib.hid hcc
  clear hb hb1 hcc HSp
  go_wp2_with fail
  refine (HE.out ao cap _ HC.out).mono ?_
  rintro _ w3 ⟨rfl, hb⟩
  have hb3 := chain hb2 hb
  clear hb hb2 HC HE
  cases b with
  | true =>
    have HV := Lib.hid (canV_yes T HH.out)
    go_wp2
    go_ret2
    exact ⟨congrArg Ending.returned HV.out.symm, hb3⟩
  | false =>
    have HV := Lib.hid (canV_no T HH.out)
    go_wp2
    go_ret2
    exact ⟨congrArg Ending.returned HV.out.symm, hb3⟩
end Go.Proofs.YtkpdejnhjbojpaaDoor
