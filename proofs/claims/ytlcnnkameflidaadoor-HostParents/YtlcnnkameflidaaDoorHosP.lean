/-
  Package host: Canon, Ip, Match, Parents: contracts.
-/
import Derived.Test.YtlcnnkameflidaaDoorHosRefR
import Derived.Test.YtlcnnkameflidaaDoorHosPa
import Derived.Test.YtlcnnkameflidaaDoorHosPn
import Derived.Test.YtlcnnkameflidaaDoorHosPe
import Derived.Test.YtlcnnkameflidaaDoorHosPw
import Derived.Test.YtlcnnkameflidaaDoorAscLowP
import Derived.Test.YtlcnnkameflidaaDoorBaseSuffix
namespace Go.Proofs.YtlcnnkameflidaaDoor
open Go.RowKit
set_option linter.unusedVariables false

/-- The parts of a text, by the library's call. -/
theorem psplit_any (s : ByteArray) (w : World) (hs : s.size ≤ 100000) :
    Calls Tryd.prog 23 #[.string s, .string ⟨#[46]⟩] w fun e w' => (∃ ao cap, e = .returned (.slice ao (dotsL s.data.toList).length cap) ∧ (∀ j (hj : j < (dotsL s.data.toList).length), ∃ ad, ao = some ad ∧ w'.cell? (ad.add j) = some (.string (ofL (dotsL s.data.toList)[j])))) ∧ Below w.heap.size w w' := by
  refine (split_any s 46 w (by omega)).mono ?_
  rintro _ w1 ⟨rfl, rfl⟩
  rw [cut_dots]
  refine ⟨⟨_, _, congrArg Ending.returned (by rw [ofLs_len]; rfl), fun j hj => ⟨_, rfl, ?_⟩⟩, (Below.refl _ _).alloc (Nat.le_refl _) _⟩
  have hj' : j < (ofLs (dotsL s.data.toList)).length := by rw [ofLs_len]; exact hj
  have e : (⟨w.heap.size, 0, none⟩ : Addr).add j = ⟨w.heap.size, j, none⟩ := by simp [Addr.add]; omega
  rw [e, World.cell?_alloc_at _ _ _ _ rfl, List.getElem?_toArray, List.getElem?_map, show (ofLs (dotG [] s.data.toList))[j]? = some (ofLs (dotsL s.data.toList))[j] from List.getElem?_eq_getElem hj', ofLs_at _ j hj]
  rfl

theorem len_dots (s : ByteArray) (hs : s.size ≤ 100000) : (dotsL s.data.toList).length ≤ 100001 := by
  have := dots_len s.data.toList []
  rw [list_len] at this
  show (dotG [] s.data.toList).length ≤ 100001
  omega
theorem len_parts (s : ByteArray) (hs : s.size ≤ 100000) : ∀ x ∈ dotsL s.data.toList, x.length ≤ 100000 := by
  intro x hx
  have := dot_part_len s.data.toList [] x hx
  rw [list_len] at this
  simp at this
  omega

theorem each_named (s : ByteArray) (hs : s.size ≤ 100000) (ao : Option Addr) (cap : Nat) (w : World)
    (hc : ∀ j (hj : j < (dotsL s.data.toList).length), ∃ ad, ao = some ad ∧ w.cell? (ad.add j) = some (.string (ofL (dotsL s.data.toList)[j]))) :
    Calls Tryd.prog 21 #[.func (.func 22) #[] #[], .slice ao (dotsL s.data.toList).length cap] w fun e w' => e = .returned (.bool ((dotsL s.data.toList).all partB)) ∧ Below w.heap.size w w' :=
  each_any _ _ _ ao cap w (by have := len_dots s hs; omega) hc (enters_of Tryd.func22 (by kernel_rfl) rfl) fun x hx w => (named_any (ofL x) w (by have := len_parts s hs x hx; show Array.size _ ≤ _; simp; omega)).mono (by rintro _ w1 ⟨rfl, rfl⟩; exact ⟨rfl, Below.refl _ _⟩)

theorem each_numbered (s : ByteArray) (hs : s.size ≤ 100000) (ao : Option Addr) (cap : Nat) (w : World)
    (hc : ∀ j (hj : j < (dotsL s.data.toList).length), ∃ ad, ao = some ad ∧ w.cell? (ad.add j) = some (.string (ofL (dotsL s.data.toList)[j]))) :
    Calls Tryd.prog 21 #[.func (.func 26) #[] #[], .slice ao (dotsL s.data.toList).length cap] w fun e w' => e = .returned (.bool ((dotsL s.data.toList).all numB)) ∧ Below w.heap.size w w' :=
  each_any _ _ _ ao cap w (by have := len_dots s hs; omega) hc (enters_of Tryd.func26 (by kernel_rfl) rfl) fun x hx w => numbered_any x w (by have := len_parts s hs x hx; omega)

theorem hostB_all (T : ByteArray) (h2 : T.size ≤ 64) : hostB T.data.toList = (dotsL T.data.toList).all partB := by
  by_cases h0 : T.size = 0
  · have hl : T.data.toList = [] := List.eq_nil_of_length_eq_zero (by rw [list_len]; exact h0)
    rw [hl]
    rfl
  · exact hostB_at T (by omega) h2

set_option maxRecDepth 100000 in
set_option maxHeartbeats 1600000 in
theorem canon_any (s : ByteArray) (w : World) (hs : s.size ≤ 281474976710656) : Calls Tryd.prog 9 #[.string s] w fun e w' => e = .returned (canV (lowB s)) ∧ Below w.heap.size w w' := by
  by_cases h64 : 64 < s.size
  · have HV : Hid (canV (lowB s) = .tuple #[.string ByteArray.empty, .bool false]) := by
      refine canV_no _ ?_
      unfold hostB
      rw [list_len, lowB_size, decide_eq_false (show ¬ s.size ≤ 64 by omega), Bool.and_false, Bool.false_and]
    go_enter Tryd.func9, Tryd.ntmps9
    go_wp2
    go_ret2
    exact ⟨congrArg Ending.returned HV.out.symm, Below.refl _ _⟩
  have HL := Lib.hid (lower_any s w hs)
  obtain ⟨T, hT⟩ : ∃ T, T = lowB s := ⟨_, rfl⟩
  rw [← hT] at HL ⊢
  have hts : T.size ≤ 64 := by rw [hT, lowB_size]; omega
  clear hT
  have e2 : decide ((64 : Int) < (s.size : Int)) = false := decide_eq_false (by omega)
  have HH := Lib.hid (hostB_all T hts)
  have HSp := Lib.hid (psplit_any T · (by omega))
  have HE := Lib.hid (each_named T (by omega))
  obtain ⟨b, hb⟩ : ∃ b, (dotsL T.data.toList).all partB = b := ⟨_, rfl⟩
  rw [hb] at HE HH
  clear hb
  go_enter Tryd.func9, Tryd.ntmps9
  go_wp2_with fail
  refine HL.out.mono ?_
  rintro _ w1 ⟨rfl, hb1⟩
  clear HL e2
  go_wp2_with fail
  refine (HSp.out _).mono ?_
  rintro _ w2 ⟨⟨ao, cap, rfl, hcc⟩, hb⟩
  have hb2 := chain hb1 hb
  have HC := Lib.hid hcc
  clear hb hb1 hcc HSp
  go_wp2_with fail
  refine (HE.out ao cap _ HC.out).mono ?_
  rintro _ w3 ⟨rfl, hb⟩
  have hb3 := chain hb2 hb
  clear hb hb2 HC HE
  cases b with
  | true =>
    have HV := Lib.hid (canV_yes T HH.out)
    go_wp2
    go_ret2
    exact ⟨congrArg Ending.returned HV.out.symm, hb3⟩
  | false =>
    have HV := Lib.hid (canV_no T HH.out)
    go_wp2
    go_ret2
    exact ⟨congrArg Ending.returned HV.out.symm, hb3⟩

set_option maxRecDepth 100000 in
set_option maxHeartbeats 1600000 in
theorem ip_any (s : ByteArray) (w : World) (hs : s.size ≤ 100000) : Calls Tryd.prog 13 #[.string s] w fun e w' => e = .returned (.bool (ipB s.data.toList)) ∧ Below w.heap.size w w' := by
  have HI := Lib.hid (ipB_eq s.data.toList)
  have HSp := Lib.hid (psplit_any s · hs)
  have HE := Lib.hid (each_numbered s hs)
  obtain ⟨b, hb⟩ : ∃ b, (dotsL s.data.toList).all numB = b := ⟨_, rfl⟩
  obtain ⟨n, hn⟩ : ∃ n, (dotsL s.data.toList).length = n := ⟨_, rfl⟩
  rw [hb] at HE HI
  rw [hn] at HI
  have hle := len_dots s hs
  rw [hn] at hle
  have HN := Lib.hid hn
  clear hb hn
  go_enter Tryd.func13, Tryd.ntmps13
  go_wp2_with fail
  refine (HSp.out _).mono ?_
  rintro _ w1 ⟨⟨ao, cap, rfl, hcc⟩, hb1⟩
  have HC := Lib.hid hcc
  clear hcc HSp
  rw [HN.out]
  by_cases h4 : n = 4
  · subst h4
    go_wp2_with fail
    have hE := HE.out ao cap _ HC.out
    rw [HN.out] at hE
    refine hE.mono ?_
    rintro _ w2 ⟨rfl, hb⟩
    have hb2 := chain hb1 hb
    clear hb hb1 HC HE hE
    have HV : Hid (ipB s.data.toList = b) := by
      show _ = _
      rw [HI.out]
      rfl
    go_wp2
    go_ret
    exact ⟨ret_bool HV.out.symm, hb2⟩
  · have e4 : ((n : Int) == 4) = false := beq_eq_false_iff_ne.2 (by omega)
    have HV : Hid (ipB s.data.toList = false) := by
      show _ = _
      rw [HI.out, decide_eq_false h4]
      rfl
    clear HE HC
    go_wp2
    go_ret
    exact ⟨ret_bool HV.out.symm, hb1⟩

theorem tails_app : ∀ (s d : List UInt8), d ∈ tailsL s → ∃ t, t ++ 46 :: d = s
  | [], _, h => by cases h
  | c :: r, d, h => by
    have h' : d ∈ (if c = 46 then r :: tailsL r else tailsL r) := h
    by_cases hc : c = 46
    · rw [if_pos hc] at h'
      rcases List.mem_cons.1 h' with rfl | h2
      · exact ⟨[], by rw [hc]; rfl⟩
      · obtain ⟨t, ht⟩ := tails_app r d h2
        exact ⟨c :: t, by rw [List.cons_append, ht]⟩
    · rw [if_neg hc] at h'
      obtain ⟨t, ht⟩ := tails_app r d h'
      exact ⟨c :: t, by rw [List.cons_append, ht]⟩

theorem ends_suffix (a d : List UInt8) : Lib.hasSuffix a (46 :: d) = endsB a d := by
  rw [Bool.eq_iff_iff]
  unfold Lib.hasSuffix
  rw [List.isSuffixOf_iff_suffix]
  constructor
  · rintro ⟨t, rfl⟩
    exact ends_app t d
  · intro h
    exact tails_app a d ((tails_ends a d).2 h)

theorem dot_list (d : ByteArray) : ((⟨#[46]⟩ : ByteArray) ++ d).data.toList = 46 :: d.data.toList := by
  rw [app_list]
  rfl

set_option maxRecDepth 100000 in
set_option maxHeartbeats 1600000 in
theorem match_any (a d : ByteArray) (w : World) (ha : a.size ≤ 100000) (hd : d.size ≤ 100000) : Calls Tryd.prog 15 #[.string a, .string d] w fun e w' => e = .returned (.bool (matchB a.data.toList d.data.toList)) ∧ Below w.heap.size w w' := by
  by_cases he : a = d
  · subst he
    have HV := Lib.hid (match_self a.data.toList)
    have heq : (a.toList == a.toList) = true := by rw [eq_toList]; exact decide_eq_true rfl
    go_enter Tryd.func15, Tryd.ntmps15
    go_wp2
    go_ret
    exact ⟨ret_bool HV.out.symm, Below.refl _ _⟩
  have heq : (a.toList == d.toList) = false := by rw [eq_toList]; exact decide_eq_false he
  have HM : Hid (matchB a.data.toList d.data.toList = (endsB a.data.toList d.data.toList && !ipB a.data.toList)) := by
    show _ = _
    unfold matchB
    rw [decide_eq_false (fun e => he (ba_ext e)), Bool.false_or]
  obtain ⟨b, hb⟩ : ∃ b, endsB a.data.toList d.data.toList = b := ⟨_, rfl⟩
  have HSf := Lib.hid (fun w => suffix_at a (⟨#[46]⟩ ++ d) b w (by omega) (by rw [dot_list, ends_suffix]; exact hb))
  have HIp := Lib.hid (ip_any a · ha)
  rw [hb] at HM
  have hsz : (⟨#[46]⟩ : ByteArray).size + d.size ≤ 9223372036854775807 := by
    show 1 + d.size ≤ _
    omega
  clear he hb
  generalize matchB a.data.toList d.data.toList = R at HM ⊢
  cases b with
  | false =>
    go_enter Tryd.func15, Tryd.ntmps15
    go_wp2_with (go_at_call 28; refine (HSf.out _).mono ?_; rintro _ w1 ⟨rfl, rfl⟩)
    go_ret
    exact ⟨ret_bool HM.out.symm, Below.refl _ _⟩
  | true =>
    go_enter Tryd.func15, Tryd.ntmps15
    go_wp2_with (first | (go_at_call 28; refine (HSf.out _).mono ?_; rintro _ w1 ⟨rfl, rfl⟩) | fail)
    refine (HIp.out _).mono ?_
    rintro _ w2 ⟨rfl, hb2⟩
    go_wp2
    go_ret
    exact ⟨ret_bool HM.out.symm, hb2⟩

set_option maxRecDepth 100000 in
set_option maxHeartbeats 1600000 in
theorem parents_any (s : ByteArray) (w : World) (hs : s.size ≤ 100000) : Calls Tryd.prog 17 #[.string s] w fun e w' => (∃ v, e = .returned v ∧ StrsAt w' v (ofLs (parentsL s.data.toList))) ∧ Below w.heap.size w w' := by
  have HIp := Lib.hid (ip_any s · hs)
  have HSp := Lib.hid (psplit_any s · hs)
  have HE := Lib.hid (fun ao cap w hc => ends_any s _ ao cap w hs rfl hc)
  obtain ⟨b, hb⟩ : ∃ b, ipB s.data.toList = b := ⟨_, rfl⟩
  rw [hb] at HIp
  cases b with
  | true =>
    have HL : Hid (ofLs (parentsL s.data.toList) = [s]) := by
      show _ = _
      unfold parentsL
      rw [hb, if_pos rfl]
      show [ofL s.data.toList] = _
      rw [ofL_list]
    clear hb
    go_enter Tryd.func17, Tryd.ntmps17
    go_wp2_with fail
    refine (HIp.out _).mono ?_
    rintro _ w1 ⟨rfl, hb1⟩
    go_wp2
    go_ret
    refine ⟨⟨_, rfl, ?_⟩, hb1.alloc (Nat.le_of_lt_succ (Nat.lt_succ_of_le hb1.size)) _⟩
    rw [HL.out]
    exact strs_one w1 s
  | false =>
    have HL : Hid (parentsL s.data.toList = begL s.data.toList) := by
      show _ = _
      unfold parentsL begL
      rw [hb, if_neg (by decide)]
    clear hb
    go_enter Tryd.func17, Tryd.ntmps17
    go_wp2_with fail
    refine (HIp.out _).mono ?_
    rintro _ w1 ⟨rfl, hb1⟩
    clear HIp
    go_wp2_with fail
    refine (HSp.out _).mono ?_
    rintro _ w2 ⟨⟨ao, cap, rfl, hcc⟩, hb⟩
    have hb2 := chain hb1 hb
    have HC := Lib.hid hcc
    clear hb hb1 hcc HSp
    go_wp2_with fail
    refine (HE.out ao cap _ HC.out).mono ?_
    rintro _ w3 ⟨⟨v, rfl, hv⟩, hb⟩
    have hb3 := chain hb2 hb
    have HV := Lib.hid hv
    clear hb hb2 HC HE hv
    go_wp2
    go_ret
    exact ⟨⟨_, rfl, by rw [HL.out]; exact HV.out⟩, hb3⟩
end Go.Proofs.YtlcnnkameflidaaDoor
