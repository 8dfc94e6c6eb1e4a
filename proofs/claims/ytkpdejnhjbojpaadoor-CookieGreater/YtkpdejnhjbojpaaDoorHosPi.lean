/-
  Package host: Ip, Match: contracts.
-/
import Derived.Test.YtkpdejnhjbojpaaDoorHosRq
import Derived.Test.YtkpdejnhjbojpaaDoorHosRefM
import Derived.Test.YtkpdejnhjbojpaaDoorHosPc
import Derived.Test.YtkpdejnhjbojpaaDoorHosPn
import Derived.Test.YtkpdejnhjbojpaaDoorBaseSuffix
namespace Go.Proofs.YtkpdejnhjbojpaaDoor
open Go.RowKit
set_option linter.unusedVariables false

theorem each_numbered (s : ByteArray) (hs : s.size ≤ 100000) (ao : Option Addr) (cap : Nat) (w : World)
    (hc : ∀ j (hj : j < (dotsL s.data.toList).length), ∃ ad, ao = some ad ∧ w.cell? (ad.add j) = some (.string (ofL (dotsL s.data.toList)[j]))) :
    Calls Tryd.prog 71 #[.func (.func 74) #[] #[], .slice ao (dotsL s.data.toList).length cap] w fun e w' => e = .returned (.bool ((dotsL s.data.toList).all numB)) ∧ Below w.heap.size w w' :=
  each_any _ _ _ ao cap w (by have := len_dots s hs; omega) hc (enters_of Tryd.func74 (by kernel_rfl) rfl) fun x hx w => numbered_any x w (by have := len_parts s hs x hx; omega)

set_option maxRecDepth 100000 in
set_option maxHeartbeats 1600000 in
theorem ip_any (s : ByteArray) (w : World) (hs : s.size ≤ 100000) : Calls Tryd.prog 51 #[.string s] w fun e w' => e = .returned (.bool (ipB s.data.toList)) ∧ Below w.heap.size w w' := by
  have HI := Lib.hid (ipB_eq s.data.toList)
  have HSp := Lib.hid (psplit_any s · hs)
  have HE := Lib.hid (each_numbered s hs)
  obtain ⟨b, hb⟩ : ∃ b, (dotsL s.data.toList).all numB = b := ⟨_, rfl⟩
  obtain ⟨n, hn⟩ : ∃ n, (dotsL s.data.toList).length = n := ⟨_, rfl⟩
  rw [hb] at HE HI
  rw [hn] at HI
  have hle := len_dots s hs
  rw [hn] at hle
  have HN := Lib.hid hn
  clear hb hn
  go_enter Tryd.func51, Tryd.ntmps51
  go_wp2_with fail
  refine (HSp.out _).mono ?_
  rintro _ w1 ⟨⟨ao, cap, rfl, hcc⟩, hb1⟩
  have HC := Lib.hid hcc
  clear hcc HSp
  rw [HN.out]
  by_cases h4 : n = 4
  · subst h4
    go_wp2_with fail
    have hE := HE.out ao cap _ HC.out
    rw [HN.out] at hE
    refine hE.mono ?_
    rintro _ w2 ⟨rfl, hb⟩
    have hb2 := chain hb1 hb
    clear hb hb1 HC HE hE
    have HV : Hid (ipB s.data.toList = b) := by
      show _ = _
      rw [HI.out]
      rfl
    go_wp2
    go_ret
    exact ⟨ret_bool HV.out.symm, hb2⟩
  · have e4 : ((n : Int) == 4) = false := beq_eq_false_iff_ne.2 (by omega)
    have HV : Hid (ipB s.data.toList = false) := by
      show _ = _
      rw [HI.out, decide_eq_false h4]
      rfl
    clear HE HC
    go_wp2
    go_ret
    exact ⟨ret_bool HV.out.symm, hb1⟩

theorem tails_app : ∀ (s d : List UInt8), d ∈ tailsL s → ∃ t, t ++ 46 :: d = s
  | [], _, h => by cases h
  | c :: r, d, h => by
    have h' : d ∈ (if c = 46 then r :: tailsL r else tailsL r) := h
    by_cases hc : c = 46
    · rw [if_pos hc] at h'
      rcases List.mem_cons.1 h' with rfl | h2
      · exact ⟨[], by rw [hc]; rfl⟩
      · obtain ⟨t, ht⟩ := tails_app r d h2
        exact ⟨c :: t, by rw [List.cons_append, ht]⟩
    · rw [if_neg hc] at h'
      obtain ⟨t, ht⟩ := tails_app r d h'
      exact ⟨c :: t, by rw [List.cons_append, ht]⟩

theorem ends_suffix (a d : List UInt8) : Lib.hasSuffix a (46 :: d) = endsB a d := by
  rw [Bool.eq_iff_iff]
  unfold Lib.hasSuffix
  rw [List.isSuffixOf_iff_suffix]
  constructor
  · rintro ⟨t, rfl⟩
    exact ends_app t d
  · intro h
    exact tails_app a d ((tails_ends a d).2 h)

theorem dot_list (d : ByteArray) : ((⟨#[46]⟩ : ByteArray) ++ d).data.toList = 46 :: d.data.toList := by
  rw [app_list]
  rfl

set_option maxRecDepth 100000 in
set_option maxHeartbeats 1600000 in
theorem match_any (a d : ByteArray) (w : World) (ha : a.size ≤ 100000) (hd : d.size ≤ 100000) : Calls Tryd.prog 67 #[.string a, .string d] w fun e w' => e = .returned (.bool (matchB a.data.toList d.data.toList)) ∧ Below w.heap.size w w' := by
  by_cases he : a = d
  · subst he
    have HV := Lib.hid (match_self a.data.toList)
    have heq : (a.toList == a.toList) = true := by rw [eq_toList]; exact decide_eq_true rfl
    go_enter Tryd.func67, Tryd.ntmps67
    go_wp2
    go_ret
    exact ⟨ret_bool HV.out.symm, Below.refl _ _⟩
  have heq : (a.toList == d.toList) = false := by rw [eq_toList]; exact decide_eq_false he
  have HM : Hid (matchB a.data.toList d.data.toList = (endsB a.data.toList d.data.toList && !ipB a.data.toList)) := by
    show _ = _
    unfold matchB
    rw [decide_eq_false (fun e => he (ba_ext e)), Bool.false_or]
  obtain ⟨b, hb⟩ : ∃ b, endsB a.data.toList d.data.toList = b := ⟨_, rfl⟩
  have HSf := Lib.hid (fun w => suffix_at a (⟨#[46]⟩ ++ d) b w (by omega) (by rw [dot_list, ends_suffix]; exact hb))
  have HIp := Lib.hid (ip_any a · ha)
  rw [hb] at HM
  have hsz : (⟨#[46]⟩ : ByteArray).size + d.size ≤ 9223372036854775807 := by
    show 1 + d.size ≤ _
    omega
  clear he hb
  generalize matchB a.data.toList d.data.toList = R at HM ⊢
  cases b with
  | false =>
    go_enter Tryd.func67, Tryd.ntmps67
    go_wp2_with (go_at_call 69; refine (HSf.out _).mono ?_; rintro _ w1 ⟨rfl, rfl⟩)
    go_ret
    exact ⟨ret_bool HM.out.symm, Below.refl _ _⟩
  | true =>
    go_enter Tryd.func67, Tryd.ntmps67
    go_wp2_with (first | (go_at_call 69; refine (HSf.out _).mono ?_; rintro _ w1 ⟨rfl, rfl⟩) | fail)
    refine (HIp.out _).mono ?_
    rintro _ w2 ⟨rfl, hb2⟩
    go_wp2
    go_ret
    exact ⟨ret_bool HM.out.symm, hb2⟩

end Go.Proofs.YtkpdejnhjbojpaaDoor
