/-
  Package path: scheme, Parse: contracts.
-/
import Derived.Test.YthempdglmhmfeaaDoorPatPr
import Derived.Test.YthempdglmhmfeaaDoorPatPo
import Derived.Test.YthempdglmhmfeaaDoorHosPc
import Derived.Laws.ResultCell
namespace Go.Proofs.YthempdglmhmfeaaDoor
open Go.RowKit
set_option linter.unusedVariables false

/-- What scheme answers. -/
def schV (s : ByteArray) : Value :=
  if httpsL.isPrefixOf s.data.toList = true then .tuple #[.bool true, .string ⟨(s.data.toList.drop 8).toArray⟩, .bool true]
  else if httpL.isPrefixOf s.data.toList = true then .tuple #[.bool false, .string ⟨(s.data.toList.drop 7).toArray⟩, .bool true]
  else .tuple #[.bool false, .string s, .bool false]

set_option maxRecDepth 100000 in
set_option maxHeartbeats 1600000 in
theorem sch_any (s : ByteArray) (w : World) : Calls Tryd.prog 26 #[.string s] w fun e w' => e = .returned (schV s) ∧ Below w.heap.size w w' := by
  have H1 := Lib.hid (cut_any s ⟨#[104, 116, 116, 112, 115, 58, 47, 47]⟩ ·)
  have H2 := Lib.hid (cut_any s ⟨#[104, 116, 116, 112, 58, 47, 47]⟩ ·)
  have HV : Hid (schV s = if httpsL.isPrefixOf s.data.toList = true then .tuple #[.bool true, .string ⟨(s.data.toList.drop 8).toArray⟩, .bool true]
    else if httpL.isPrefixOf s.data.toList = true then .tuple #[.bool false, .string ⟨(s.data.toList.drop 7).toArray⟩, .bool true]
    else .tuple #[.bool false, .string s, .bool false]) := rfl
  obtain ⟨b1, hb1⟩ : ∃ b, httpsL.isPrefixOf s.data.toList = b := ⟨_, rfl⟩
  obtain ⟨b2, hb2⟩ : ∃ b, httpL.isPrefixOf s.data.toList = b := ⟨_, rfl⟩
  rw [hb1, hb2] at HV
  cases b1 with
  | true =>
    have HK : Hid (cutV s.data.toList (⟨#[104, 116, 116, 112, 115, 58, 47, 47]⟩ : ByteArray).data.toList = .tuple #[.string ⟨(s.data.toList.drop 8).toArray⟩, .bool true]) := cutV_yes _ _ hb1
    rw [HK.out] at H1
    rw [if_pos rfl] at HV
    obtain ⟨q, hq⟩ : ∃ q : ByteArray, q = ⟨(s.data.toList.drop 8).toArray⟩ := ⟨_, rfl⟩
    rw [← hq] at H1 HV
    clear hb1 hb2 HK hq H2
    go_enter Tryd.func26, Tryd.ntmps26
    go_wp2_with fail
    refine (H1.out _).mono ?_
    rintro _ w1 ⟨rfl, rfl⟩
    go_wp2
    go_ret3
    exact ⟨congrArg Ending.returned HV.out.symm, Below.refl _ _⟩
  | false =>
    have HK : Hid (cutV s.data.toList (⟨#[104, 116, 116, 112, 115, 58, 47, 47]⟩ : ByteArray).data.toList = .tuple #[.string s, .bool false]) := by
      have h := cutV_no s.data.toList (⟨#[104, 116, 116, 112, 115, 58, 47, 47]⟩ : ByteArray).data.toList hb1
      rw [← ba_list s] at h
      exact h
    rw [HK.out] at H1
    rw [if_neg (by decide)] at HV
    cases b2 with
    | true =>
      have HK2 : Hid (cutV s.data.toList (⟨#[104, 116, 116, 112, 58, 47, 47]⟩ : ByteArray).data.toList = .tuple #[.string ⟨(s.data.toList.drop 7).toArray⟩, .bool true]) := cutV_yes _ _ hb2
      rw [HK2.out] at H2
      rw [if_pos rfl] at HV
      obtain ⟨q, hq⟩ : ∃ q : ByteArray, q = ⟨(s.data.toList.drop 7).toArray⟩ := ⟨_, rfl⟩
      rw [← hq] at H2 HV
      clear hb1 hb2 HK HK2 hq
      go_enter Tryd.func26, Tryd.ntmps26
      go_wp2_with fail
      refine (H1.out _).mono ?_
      rintro _ w1 ⟨rfl, rfl⟩
      go_wp2_with fail
      refine (H2.out _).mono ?_
      rintro _ w1 ⟨rfl, rfl⟩
      go_wp2
      go_ret3
      exact ⟨congrArg Ending.returned HV.out.symm, Below.refl _ _⟩
    | false =>
      have HK2 : Hid (cutV s.data.toList (⟨#[104, 116, 116, 112, 58, 47, 47]⟩ : ByteArray).data.toList = .tuple #[.string s, .bool false]) := by
        have h := cutV_no s.data.toList (⟨#[104, 116, 116, 112, 58, 47, 47]⟩ : ByteArray).data.toList hb2
        rw [← ba_list s] at h
        exact h
      rw [HK2.out] at H2
      rw [if_neg (by decide)] at HV
      clear hb1 hb2 HK HK2
      go_enter Tryd.func26, Tryd.ntmps26
      go_wp2_with fail
      refine (H1.out _).mono ?_
      rintro _ w1 ⟨rfl, rfl⟩
      go_wp2_with fail
      refine (H2.out _).mono ?_
      rintro _ w1 ⟨rfl, rfl⟩
      go_wp2
      go_ret3
      exact ⟨congrArg Ending.returned HV.out.symm, Below.refl _ _⟩

theorem sch_case (s : ByteArray) : (schV s = .tuple #[.bool false, .string s, .bool false] ∧ parseA s.data.toList = adNo 120) ∨
    ∃ (sec : Bool) (r : ByteArray), schV s = .tuple #[.bool sec, .string r, .bool true] ∧ parseA s.data.toList = restA sec r.data.toList ∧ r.size ≤ s.size := by
  have hsz : ∀ n, (⟨(s.data.toList.drop n).toArray⟩ : ByteArray).size ≤ s.size := fun n => by
    rw [← list_len, ← list_len s]
    show (s.data.toList.drop n).length ≤ _
    rw [List.length_drop]
    omega
  unfold schV parseA
  by_cases h1 : httpsL.isPrefixOf s.data.toList = true
  · rw [if_pos h1, if_pos h1]
    exact .inr ⟨true, ⟨(s.data.toList.drop 8).toArray⟩, rfl, rfl, hsz 8⟩
  · rw [if_neg h1, if_neg h1]
    by_cases h2 : httpL.isPrefixOf s.data.toList = true
    · rw [if_pos h2, if_pos h2]
      exact .inr ⟨false, ⟨(s.data.toList.drop 7).toArray⟩, rfl, rfl, hsz 7⟩
    · rw [if_neg h2, if_neg h2]
      exact .inl ⟨rfl, rfl⟩

theorem below_set3 {n g : Nat} {w w1 : World} (h : Below n w w1) (hg : n ≤ g) (a b c : Value) : Below n w (((w1.setCell ⟨g, 0, none⟩ a).setCell ⟨g, 1, none⟩ b).setCell ⟨g, 2, none⟩ c) :=
  ((h.setCell (p := ⟨g, 0, none⟩) hg a).setCell (p := ⟨g, 1, none⟩) hg b).setCell (p := ⟨g, 2, none⟩) hg c

theorem two_allocs (w : World) (o1 o2 : Obj) : Below w.heap.size w ((w.alloc o1).alloc o2) := ((Below.refl _ _).alloc (Nat.le_refl _) o1).alloc (by simp) o2

/-- The closure in that box tells which bytes are of that kind. -/
def EndsOk (w : World) (b : Nat) (p : UInt8 → Bool) : Prop := ∀ c : UInt8, Calls Tryd.prog 40 #[.int .u8 (c.toNat : Int), .pointer (some ⟨b, 0, none⟩)] w fun e w' => e = .returned (.bool (p c)) ∧ w = w'

theorem ends_ok3 (w : World) (t t' : TypeId) : EndsOk ((w.alloc (.cells #[.int .u8 47, .int .u8 63, .int .u8 35] t)).alloc (.cells #[.slice (some ⟨w.heap.size, 0, none⟩) 3 3] t')) (w.heap.size + 1) endsC := fun c => by
  have h := ends1_any c (w.heap.size + 1) w.heap.size [47, 63, 35] ((w.alloc (.cells #[.int .u8 47, .int .u8 63, .int .u8 35] t)).alloc (.cells #[.slice (some ⟨w.heap.size, 0, none⟩) 3 3] t')) (by simp) (by
    intro i hi
    match i, hi with
    | 0, _ => simp
    | 1, _ => simp
    | 2, _ => simp) (by decide)
  rw [ends_list] at h
  exact h
theorem ends_ok2 (w : World) (t t' : TypeId) : EndsOk ((w.alloc (.cells #[.int .u8 63, .int .u8 35] t)).alloc (.cells #[.slice (some ⟨w.heap.size, 0, none⟩) 2 2] t')) (w.heap.size + 1) asksC := fun c => by
  have h := ends1_any c (w.heap.size + 1) w.heap.size [63, 35] ((w.alloc (.cells #[.int .u8 63, .int .u8 35] t)).alloc (.cells #[.slice (some ⟨w.heap.size, 0, none⟩) 2 2] t')) (by simp) (by
    intro i hi
    match i, hi with
    | 0, _ => simp
    | 1, _ => simp) (by decide)
  rw [asks_list] at h
  exact h

theorem partV_is (p : UInt8 → Bool) (r : ByteArray) : ∃ x y : ByteArray, partV p r = .tuple #[.string x, .string y] ∧ untilL p r.data.toList = x.data.toList ∧ y.data.toList = r.data.toList.drop x.data.toList.length ∧ x.size ≤ r.size ∧ y.size ≤ r.size := by
  refine ⟨⟨(untilL p r.data.toList).toArray⟩, ⟨(r.data.toList.drop (untilL p r.data.toList).length).toArray⟩, rfl, rfl, rfl, ?_, ?_⟩
  · rw [← list_len, ← list_len r]
    exact until_len p r.data.toList
  · rw [← list_len, ← list_len r]
    show (r.data.toList.drop _).length ≤ _
    rw [List.length_drop]
    omega

set_option maxRecDepth 100000 in
set_option maxHeartbeats 3200000 in
theorem parse_big (s : ByteArray) (w : World) (hs : s.size ≤ 100000000) : Calls Tryd.prog 16 #[.string s] w fun e w' => e = .returned (adV (parseA s.data.toList)) ∧ Below w.heap.size w w' := by
  have HS := Lib.hid (sch_any s ·)
  rcases sch_case s with ⟨h1, h2⟩ | ⟨sec, r, h1, h2, h3⟩
  · rw [h1] at HS
    have HV : Hid (adV (parseA s.data.toList) = .tuple #[urlV false ⟨#[]⟩ ⟨#[]⟩, .int .i64 120]) := by show _ = _; rw [h2]; rfl
    clear h1 h2
    have hu := UrlAt.new w false ⟨#[]⟩ ⟨#[]⟩ 28
    have hbW := (Below.refl w.heap.size w).alloc (Nat.le_refl _) (.cells #[.bool false, .string ⟨#[]⟩, .string ⟨#[]⟩] 28)
    go_enter Tryd.func16, Tryd.ntmps16
    go_wp2_with fail
    refine (HS.out _).mono ?_
    rintro _ w1 ⟨rfl, hb⟩
    have hb1 := chain hbW hb
    obtain ⟨⟨c0, c1, c2⟩, f0, f1, f2⟩ := hu.keep hb
    clear hb hbW hu
    go_wp2
    (try simp only [Exit.inBlock, Exit.then])
    refine bodyPost_ret (v := .tuple #[urlV false ⟨#[]⟩ ⟨#[]⟩, .int .i64 120]) (by rw [results_cell_tmp rfl]; go_simp) rfl ?_
    exact ⟨congrArg Ending.returned HV.out.symm, by first | exact hb1 | exact below_set3 hb1 (Nat.le_refl _) _ _ _⟩
  · rw [h1] at HS
    obtain ⟨x, y, hp, hE, hy, hxs, hys⟩ := partV_is endsC r
    obtain ⟨z, z', hp2, hD, _, hzs, hzs'⟩ := partV_is asksC y
    rw [hy] at hD
    have HPV := Lib.hid h2
    have HP1 := Lib.hid (part_any · endsC r · (by omega) ·)
    have HP2 := Lib.hid (part_any · asksC y · (by omega) ·)
    rw [hp] at HP1
    rw [hp2] at HP2
    have HCN := Lib.hid (canon_any x · (by omega))
    have HE := Lib.hid hE
    have HD := Lib.hid hD
    clear h1 h2 hp hp2 hE hy hD
    have hu := UrlAt.new w false ⟨#[]⟩ ⟨#[]⟩ 28
    have hbW := (Below.refl w.heap.size w).alloc (Nat.le_refl _) (.cells #[.bool false, .string ⟨#[]⟩, .string ⟨#[]⟩] 28)
    have hg : w.heap.size < (w.alloc (.cells #[.bool false, .string ⟨#[]⟩, .string ⟨#[]⟩] 28)).heap.size := by simp
    go_enter Tryd.func16, Tryd.ntmps16
    go_wp2_with fail
    refine (HS.out _).mono ?_
    rintro _ w1 ⟨rfl, hb⟩
    have hb1 := chain hbW hb
    have hu1 := hu.keep hb
    have hg1 : w.heap.size < w1.heap.size := Nat.lt_of_lt_of_le hg hb.size
    clear hb hbW hu hg HS
    go_wp2_with fail
    refine (oneof_any _ _ _ _).mono ?_
    rintro _ w2 ⟨rfl, rfl⟩
    have hO := two_allocs w1 (.cells #[.int .u8 47, .int .u8 63, .int .u8 35] 5) (.cells #[.slice (some ⟨w1.heap.size, 0, none⟩) 3 3] 53)
    have hb2 := chain hb1 hO
    have hu2 := hu1.keep hO
    have hk := ends_ok3 w1 5 53
    rw [show (w1.alloc (.cells #[.int .u8 47, .int .u8 63, .int .u8 35] 5)).heap.size = w1.heap.size + 1 from by simp]
    generalize (w1.alloc (.cells #[.int .u8 47, .int .u8 63, .int .u8 35] 5)).alloc (.cells #[.slice (some ⟨w1.heap.size, 0, none⟩) 3 3] 53) = W2 at hb2 hu2 hk ⊢
    clear hO hb1 hu1
    go_wp2_with fail
    refine (HP1.out _ _ hk).mono ?_
    rintro _ w3 ⟨rfl, hb⟩
    have hb3 := chain hb2 hb
    have hu3 := hu2.keep hb
    clear hb hb2 hu2 hk HP1
    go_wp2_with fail
    refine (HCN.out _).mono ?_
    rintro _ w4 ⟨rfl, hb⟩
    have hb4 := chain hb3 hb
    have hu4 := hu3.keep hb
    clear hb hb3 hu3 HCN
    by_cases hh : hostB (lowB x).data.toList = true
    · have HC := Lib.hid (canV_yes _ hh)
      have HR := Lib.hid (fun q h => rest_path sec _ x z q HE.out hh HD.out h)
      rw [HC.out]
      rw [← HPV.out] at HR
      obtain ⟨T, hT⟩ : ∃ T, T = lowB x := ⟨_, rfl⟩
      rw [← hT] at HR ⊢
      clear hh HC hT HE HD HPV
      go_wp2_with fail
      refine (oneof_any _ _ _ _).mono ?_
      rintro _ w5 ⟨rfl, rfl⟩
      have hO := two_allocs w4 (.cells #[.int .u8 63, .int .u8 35] 5) (.cells #[.slice (some ⟨w4.heap.size, 0, none⟩) 2 2] 53)
      have hb5 := chain hb4 hO
      have hu5 := hu4.keep hO
      have hk := ends_ok2 w4 5 53
      rw [show (w4.alloc (.cells #[.int .u8 63, .int .u8 35] 5)).heap.size = w4.heap.size + 1 from by simp]
      generalize (w4.alloc (.cells #[.int .u8 63, .int .u8 35] 5)).alloc (.cells #[.slice (some ⟨w4.heap.size, 0, none⟩) 2 2] 53) = W5 at hb5 hu5 hk ⊢
      clear hO hb4 hu4
      go_wp2_with fail
      refine (HP2.out _ _ hk).mono ?_
      rintro _ w6 ⟨rfl, hb⟩
      have hb6 := chain hb5 hb
      have hu6 := hu5.keep hb
      clear hb hb5 hu5 hk HP2
      by_cases hz0 : z.size = 0
      · have hze : z.toList = [] := by rw [ByteArray.toList_eq]; exact List.eq_nil_of_length_eq_zero (by rw [list_len]; exact hz0)
        have hze2 : z.toList.isEmpty = true := by rw [hze]; rfl
        have HQ : Hid (∀ w : World, Calls Tryd.prog 11 #[.string ⟨#[47]⟩] w fun e w' => e = .returned (.bool true) ∧ Below w.heap.size w w') := fun w => by
          have h := rgt_big ⟨#[47]⟩ w (by decide)
          rw [show rightB (⟨#[47]⟩ : ByteArray).data.toList = true from slash_right] at h
          exact h
        have HV : Hid (adV (parseA s.data.toList) = .tuple #[urlV sec T ⟨#[47]⟩, .int .i64 0]) :=
          (HR.out ⟨#[47]⟩ (by rw [if_pos (List.eq_nil_of_length_eq_zero (by rw [list_len]; exact hz0))])).1 slash_right
        clear HR hz0
        go_wp2_with fail
        refine (HQ.out _).mono ?_
        rintro _ w7 ⟨rfl, hb⟩
        have hb7 := chain hb6 hb
        obtain ⟨⟨c0, c1, c2⟩, f0, f1, f2⟩ := hu6.keep hb
        clear hb hb6 hu6
        go_wp2
        (try simp only [Exit.inBlock, Exit.then])
        refine bodyPost_ret (v := .tuple #[urlV sec T ⟨#[47]⟩, .int .i64 0]) (by rw [results_cell_tmp rfl]; go_simp) rfl ?_
        exact ⟨congrArg Ending.returned HV.out.symm, by first | exact hb7 | exact below_set3 hb7 (Nat.le_refl _) _ _ _⟩
      · have hze : ¬ z.toList = [] := by
          intro e
          rw [ByteArray.toList_eq] at e
          have := congrArg List.length e
          rw [list_len] at this
          exact hz0 this
        have hze2 : z.toList.isEmpty = false := by cases h : z.toList with | nil => exact absurd h hze | cons x t => rfl
        have HR2 := Lib.hid (HR.out z (by rw [if_neg (fun e => by have := congrArg List.length e; rw [list_len] at this; exact hz0 this)]))
        have HQ := Lib.hid (rgt_big z · (by omega))
        obtain ⟨b, hb⟩ : ∃ b, rightB z.data.toList = b := ⟨_, rfl⟩
        rw [hb] at HQ HR2
        clear HR hz0 hb
        go_wp2_with fail
        refine (HQ.out _).mono ?_
        rintro _ w7 ⟨rfl, hb⟩
        have hb7 := chain hb6 hb
        obtain ⟨⟨c0, c1, c2⟩, f0, f1, f2⟩ := hu6.keep hb
        clear hb hb6 hu6
        cases b
        · have HV : Hid (adV (parseA s.data.toList) = .tuple #[urlV false ⟨#[]⟩ ⟨#[]⟩, .int .i64 122]) := HR2.out.2 rfl
          clear HR2
          go_wp2
          (try simp only [Exit.inBlock, Exit.then])
          refine bodyPost_ret (v := .tuple #[urlV false ⟨#[]⟩ ⟨#[]⟩, .int .i64 122]) (by rw [results_cell_tmp rfl]; go_simp) rfl ?_
          exact ⟨congrArg Ending.returned HV.out.symm, by first | exact hb7 | exact below_set3 hb7 (Nat.le_refl _) _ _ _⟩
        · have HV : Hid (adV (parseA s.data.toList) = .tuple #[urlV sec T z, .int .i64 0]) := HR2.out.1 rfl
          clear HR2
          go_wp2
          (try simp only [Exit.inBlock, Exit.then])
          refine bodyPost_ret (v := .tuple #[urlV sec T z, .int .i64 0]) (by rw [results_cell_tmp rfl]; go_simp) rfl ?_
          exact ⟨congrArg Ending.returned HV.out.symm, by first | exact hb7 | exact below_set3 hb7 (Nat.le_refl _) _ _ _⟩
    · have HC := Lib.hid (canV_no (lowB x) (by simpa using hh))
      have HV : Hid (adV (parseA s.data.toList) = .tuple #[urlV false ⟨#[]⟩ ⟨#[]⟩, .int .i64 121]) := by show _ = _; rw [HPV.out]; exact rest_no sec _ x HE.out hh
      rw [HC.out]
      obtain ⟨⟨c0, c1, c2⟩, f0, f1, f2⟩ := hu4
      clear hh HC HE HD HPV HP2
      go_wp2
      (try simp only [Exit.inBlock, Exit.then])
      refine bodyPost_ret (v := .tuple #[urlV false ⟨#[]⟩ ⟨#[]⟩, .int .i64 121]) (by rw [results_cell_tmp rfl]; go_simp) rfl ?_
      exact ⟨congrArg Ending.returned HV.out.symm, by first | exact hb4 | exact below_set3 hb4 (Nat.le_refl _) _ _ _⟩
end Go.Proofs.YthempdglmhmfeaaDoor
