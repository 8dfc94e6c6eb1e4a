/-
  The document's own way to ask whether a row is a value's.
-/
import Derived.Test.YtmnigdcgdebgoaaDoorJsonRefH
import Derived.Deep.DeepCutAuto
namespace Go.Proofs.YtmnigdcgdebgoaaDoor
open Go.RowKit
set_option linter.unusedVariables false

def RightW (l : List It) (w : World) (n : Nat) (v3 : Value) (wr : World) : Prop :=
  ∃ k : Nat, v3 = .int .i64 (k : Int) ∧ 1 ≤ k ∧ k + n = l.length ∧ (∀ i, 1 ≤ i → i < k → DocStep l i) ∧ Below w.heap.size w wr

theorem small_it {l : List It} (h : Small l) (i : Nat) (hi : i < l.length) (d K : Int) (key text : ByteArray) (N : Int) (hx : itL l i = ⟨d, K, key.data.toList, text.data.toList, N⟩) : key.size ≤ 1000000 ∧ text.size ≤ 1000000 := by
  have hm : l[i] ∈ l := List.getElem_mem hi
  have := h.2 _ hm
  rw [← itL_get l i hi, hx] at this
  simp only [list_len] at this
  exact ⟨this.1, this.2.1⟩
theorem may_bounds {l : List It} {i : Nat} {d K : Int} {key text : ByteArray} {N : Int} (hx : itL l i = ⟨d, K, key.data.toList, text.data.toList, N⟩) (h : mayU (itL l i) = true) : d ≤ 64 ∧ 1 ≤ K ∧ K ≤ 7 := by
  rw [hx] at h
  unfold mayU at h
  simp only [Bool.and_eq_true, decide_eq_true_eq] at h
  exact ⟨h.1.1.1.2, h.1.1.1.1.1.1.1, h.1.1.1.1.1.1.2⟩

set_option maxRecDepth 100000 in
set_option maxHeartbeats 3200000 in
theorem rright_some (l : List It) (ad : Addr) (cap n : Nat) (w : World) (hn : l.length = n) (hc : CellsR w ad l) (h0 : 0 < n) (hcap : n ≤ cap) (hsm : Small l) (R : Bool) (hR : rightU l = R) :
    Calls Tryd.prog 15 #[.slice (some ad) n cap] w fun e w' => e = .returned (.bool R) ∧ Below w.heap.size w w' := by
  have hz : n ≤ 100000 := by rw [← hn]; exact hsm.1
  have hRd := right_doc l
  rw [hR] at hRd
  have HRD := Lib.hid hRd
  have HC := Lib.hid hc
  have HN := Lib.hid hn
  have HSM := Lib.hid hsm
  have hl0 : 0 < l.length := by omega
  have z0 : ((n : Int) == 0) = false := by rw [beq_eq_false_iff_ne]; omega
  have z00 : ¬ (n : Int) = 0 := by omega
  have z01 : (0 : Int) < (n : Int) := by omega
  obtain ⟨d, K, key, text, N, hx⟩ := it_parts (itL l 0)
  obtain ⟨p0, p1, p2, p3, p4⟩ := hc.at_ 0 hl0 d K key text N hx
  have p0 : w.cell? ad = some (.int .i64 d) := p0
  have p1 : w.cell? ⟨ad.block, ad.off + 1, none⟩ = some (.int .i64 K) := p1
  have p2 : w.cell? ⟨ad.block, ad.off + 2, none⟩ = some (.string key) := p2
  have p3 : w.cell? ⟨ad.block, ad.off + 3, none⟩ = some (.string text) := p3
  have p4 : w.cell? ⟨ad.block, ad.off + 4, none⟩ = some (.int .i64 N) := p4
  obtain ⟨hkz, htz⟩ := small_it hsm 0 hl0 d K key text N hx
  have HX := Lib.hid hx
  have no : ¬ DocHead l → R = false := fun h => by
    cases hr : R with
    | false => rfl
    | true => exact absurd (hRd.1 hr).1 h
  have HNO := Lib.hid no
  have hte : key.toList.isEmpty = key.data.toList.isEmpty := by rw [ByteArray.toList_eq]
  clear hc hn hsm hR hRd hx no
  by_cases hd : d = 0
  · subst hd
    by_cases hk : key.data.toList = []
    · have hkx : key = ByteArray.empty := ba_ext (by rw [hk]; rfl)
      subst hkx
      clear hte hk
      cases hm : mayU (itL l 0) with
      | false =>
        have HR2 : Hid (R = false) := HNO.out (fun h => by have := h.2.2.2; rw [hm] at this; cases this)
        rw [HX.out] at hm
        have HM := Lib.hid hm
        clear hm HNO
        go_enter Tryd.func15, Tryd.ntmps15
        go_wp2_with fail
        refine (rmay_any 0 K N ByteArray.empty text _ hkz htz false HM.out).mono ?_
        rintro _ w1 ⟨rfl, hb1⟩
        go_wp2
        go_ret
        rw [HR2.out]
        exact ⟨rfl, hb1⟩
      | true =>
        have HHD : Hid (DocHead l) := ⟨fun e => by rw [e] at hl0; exact absurd hl0 (by decide), by rw [HX.out], by rw [HX.out]; rfl, hm⟩
        rw [HX.out] at hm
        have HM := Lib.hid hm
        clear hm HNO
        go_enter Tryd.func15, Tryd.ntmps15
        go_wp2_with fail
        refine (rmay_any 0 K N ByteArray.empty text _ hkz htz true HM.out).mono ?_
        rintro _ w1 ⟨rfl, hb1⟩
        have HST : Hid (RightW l w (n - 1) (.int .i64 1) w1) := ⟨1, rfl, Nat.le_refl _, by rw [HN.out]; omega, fun i a b => by omega, hb1⟩
        clear hb1 p0 p1 p2 p3 p4
        go_wp2
        go_loopg [3] (n - 1) (fun n v3 wr => RightW l w n v3 wr)
        case atStart => exact HST.out
        case round =>
          obtain ⟨k, rfl, hk1, hkn, hds, hbe⟩ := hrel
          rw [HN.out] at hkn
          have HDS := Lib.hid hds
          have HBE := Lib.hid hbe
          clear HST hds hbe
          by_cases hlt : k < n
          · obtain ⟨m, hkm⟩ : ∃ m, k = m + 1 := ⟨k - 1, by omega⟩
            have hmn : m < n := by omega
            have hki : (k : Int) - 1 = (m : Int) := by omega
            obtain ⟨dm, Km, km, tm, Nm, hxm⟩ := it_parts (itL l m)
            obtain ⟨d, K2, key, text2, N2, hxk⟩ := it_parts (itL l k)
            have hcw := HC.out.keep HBE.out
            obtain ⟨p0, p1, p2, p3, p4⟩ := hcw.at_ m (by rw [HN.out]; exact hmn) dm Km km tm Nm hxm
            obtain ⟨q0, q1, q2, q3, q4⟩ := hcw.at_ k (by rw [HN.out]; exact hlt) d K2 key text2 N2 hxk
            obtain ⟨hkz2, htz2⟩ := small_it HSM.out k (by rw [HN.out]; exact hlt) d K2 key text2 N2 hxk
            have hmm : mayU (itL l m) = true := by
              by_cases e : m = 0
              · subst e
                exact HHD.out.2.2.2
              · exact (HDS.out m (by omega) (by omega)).1.1
            obtain ⟨hdm, hKm1, hKm7⟩ := may_bounds hxm hmm
            have hdm0 : 0 ≤ dm := by
              by_cases e : m = 0
              · subst e
                have := HHD.out.2.1
                rw [hxm] at this
                have h2 : dm = 0 := this
                omega
              · have := (HDS.out m (by omega) (by omega)).1.2.1
                rw [hxm] at this
                have h2 : 1 ≤ dm := this
                omega
            obtain ⟨M, hM⟩ : ∃ M, mostAt l k = M := ⟨_, rfl⟩
            have hM2 : M = dm + (if 6 ≤ Km then 1 else 0) := by
              rw [← hM]
              unfold mostAt
              rw [hkm, Nat.add_sub_cancel, hxm]
            have no : ¬ DocStep l k → R = false := fun h => by
              cases hr : R with
              | false => rfl
              | true => exact absurd ((HRD.out.1 hr).2 k hk1 (by rw [HN.out]; exact hlt)) h
            have HNO := Lib.hid no
            have HXK := Lib.hid hxk
            have HCW := Lib.hid hcw
            have HM := Lib.hid hM
            have hM64 : M ≤ 65 := by rw [hM2]; split <;> omega
            clear hmm hxm no hxk hcw hM p2 p3 p4 hkm
            go_upto_if 48 with (fail)
            go_cut [4] (fun v4 wx => v4 = .int .i64 M ∧ wx = wr)
            case first =>
              by_cases h6 : 6 ≤ Km
              · rw [if_pos h6] at hM2
                go_wp2_with fail
                go_meet
                exact ⟨by rw [hM2], rfl⟩
              · rw [if_neg h6] at hM2
                go_wp2_with fail
                go_meet
                exact ⟨by rw [hM2, Int.add_zero], rfl⟩
            case rest =>
              obtain ⟨rfl, rfl⟩ := hcut
              clear p0 p1 hM2 hki hdm hdm0 hKm1 hKm7
              have hkl : k < l.length := by rw [HN.out]; exact hlt
              cases hmk : mayU (itL l k) with
              | false =>
                have HR2 : Hid (R = false) := HNO.out (fun h => by have := h.1.1; rw [hmk] at this; cases this)
                rw [HXK.out] at hmk
                have HMK := Lib.hid hmk
                clear hmk HNO
                go_wp2_with fail
                refine (rmay_any d K2 N2 key text2 _ hkz2 htz2 false HMK.out).mono ?_
                rintro _ w1 ⟨rfl, hb1⟩
                have hb := chain HBE.out hb1
                go_wp2
                go_ret
                rw [HR2.out]
                exact ⟨rfl, hb⟩
              | true =>
                have HMT := Lib.hid hmk
                rw [HXK.out] at hmk
                have HMK := Lib.hid hmk
                clear hmk
                by_cases hd1 : d < 1
                · have HR2 : Hid (R = false) := HNO.out (fun h => by
                    have := h.1.2.1
                    rw [HXK.out] at this
                    have h2 : 1 ≤ d := this
                    omega)
                  clear HNO
                  go_wp2_with fail
                  refine (rmay_any d K2 N2 key text2 _ hkz2 htz2 true HMK.out).mono ?_
                  rintro _ w1 ⟨rfl, hb1⟩
                  obtain ⟨q0, q1, q2, q3, q4⟩ := (HCW.out.keep hb1).at_ k hkl d K2 key text2 N2 HXK.out
                  have HB := Lib.hid (chain HBE.out hb1)
                  clear hb1
                  go_wp2
                  go_ret
                  rw [HR2.out]
                  exact ⟨rfl, HB.out⟩
                · have hd1' : 1 ≤ d := by omega
                  by_cases hdM : M < d
                  · have HR2 : Hid (R = false) := HNO.out (fun h => by
                      have := h.1.2.2
                      rw [HXK.out, HM.out] at this
                      have h2 : d ≤ M := this
                      omega)
                    clear HNO
                    go_wp2_with fail
                    refine (rmay_any d K2 N2 key text2 _ hkz2 htz2 true HMK.out).mono ?_
                    rintro _ w1 ⟨rfl, hb1⟩
                    obtain ⟨q0, q1, q2, q3, q4⟩ := (HCW.out.keep hb1).at_ k hkl d K2 key text2 N2 HXK.out
                    have HB := Lib.hid (chain HBE.out hb1)
                    clear hb1
                    go_wp2
                    go_ret
                    rw [HR2.out]
                    exact ⟨rfl, HB.out⟩
                  · have hdM' : d ≤ M := by omega
                    have HFIT : Hid (FitsAt l k) := ⟨HMT.out, by rw [HXK.out]; exact hd1', by rw [HXK.out, HM.out]; exact hdM'⟩
                    obtain ⟨h, hh1, hh2⟩ := hold_there l HHD.out k hk1 HDS.out HFIT.out
                    obtain ⟨dh, Kh, keyh, texth, Nh, hxh⟩ := it_parts (itL l h)
                    have hhl : h < l.length := by omega
                    have hhn : h < n := by omega
                    have HXH := Lib.hid hxh
                    have HHA := Lib.hid hh2
                    have hdk : (itL l k).depth = d := by rw [HXK.out]
                    have HDK := Lib.hid hdk
                    clear hxh hh2 hdk
                    go_wp2_with fail
                    refine (rmay_any d K2 N2 key text2 _ hkz2 htz2 true HMK.out).mono ?_
                    rintro _ w1 ⟨rfl, hb1⟩
                    have HCW1 := Lib.hid (HCW.out.keep hb1)
                    obtain ⟨q0, q1, q2, q3, q4⟩ := HCW1.out.at_ k hkl d K2 key text2 N2 HXK.out
                    have HB1 := Lib.hid (chain HBE.out hb1)
                    clear hb1 q1 q2 q3 q4
                    go_wp2_with fail
                    refine (rholder_any l ad cap n k _ HN.out HCW1.out hk1 hlt hz (by rw [HDK.out]; exact hd1') (by rw [HDK.out]; omega) (h : Int) HHA.out).mono ?_
                    rintro _ w2 ⟨rfl, hb2⟩
                    have HCW2 := Lib.hid (HCW1.out.keep hb2)
                    have HB2 := Lib.hid (chain HB1.out hb2)
                    clear hb2 q0 HCW1 HB1
                    obtain ⟨q0, q1, q2, q3, q4⟩ := HCW2.out.at_ k hkl d K2 key text2 N2 HXK.out
                    obtain ⟨r0, r1, r2, r3, r4⟩ := HCW2.out.at_ h hhl dh Kh keyh texth Nh HXH.out
                    clear q0 q1 q3 q4 r0 r2 r3 r4
                    have more : DocStep l k → ∀ i : Int, i = (k : Int) + 1 → ∀ w4, Below w.heap.size w w4 → RightW l w (gk - 1) (.int .i64 i) w4 := by
                      intro hd i hi w4 hb
                      subst hi
                      refine ⟨k + 1, by go_num, by omega, by rw [HN.out]; omega, fun i a b => ?_, hb⟩
                      by_cases e : i = k
                      · rw [e]; exact hd
                      · exact HDS.out i a (by omega)
                    have HMO := Lib.hid more
                    have hkx : (itL l (holdAt l k).toNat).kind = Kh := by rw [HHA.out, Int.toNat_natCast, HXH.out]
                    have HKX := Lib.hid hkx
                    have hte : key.toList.isEmpty = key.data.toList.isEmpty := by rw [ByteArray.toList_eq]
                    clear more hkx
                    by_cases h6 : Kh = 6
                    · subst h6
                      by_cases hk : key.data.toList = []
                      · have hkx : key = ByteArray.empty := ba_ext (by rw [hk]; rfl)
                        have HDD : Hid (DocStep l k) := ⟨HFIT.out, fun _ => by rw [HXK.out]; exact hk, fun h => by rw [HKX.out] at h; exact absurd h (by decide)⟩
                        subst hkx
                        clear hte hk HNO
                        go_wp2
                        go_roundg (gk - 1)
                        case measure => omega
                        case rel => exact HMO.out HDD.out _ rfl _ HB2.out
                      · have he : key.toList.isEmpty = false := by
                          rw [hte]
                          cases h : key.data.toList with
                          | nil => exact absurd h hk
                          | cons c t => rfl
                        have hl : key.toList ≠ [] := fun h => by rw [h] at he; cases he
                        have HR2 : Hid (R = false) := HNO.out (fun h => hk (by have := h.2.1 HKX.out; rw [HXK.out] at this; exact this))
                        clear hte hk HNO HMO
                        go_wp2
                        go_ret
                        rw [HR2.out]
                        exact ⟨rfl, HB2.out⟩
                    · have z6 : (Kh == 6) = false := by rw [beq_eq_false_iff_ne]; exact h6
                      clear hte
                      by_cases h7 : Kh = 7
                      · subst h7
                        by_cases hal : AloneAt l k (h : Int)
                        · have HDD : Hid (DocStep l k) := ⟨HFIT.out, fun e => by rw [HKX.out] at e; exact absurd e h6, fun _ => by rw [HHA.out]; exact hal⟩
                          have HAL := Lib.hid hal
                          clear hal HNO
                          go_wp2_with fail
                          refine (ralone_any l ad cap n k h _ HN.out HCW2.out hh1 hlt hz true ⟨fun _ => HAL.out, fun _ => rfl⟩).mono ?_
                          rintro _ w3 ⟨rfl, hb3⟩
                          have HB3 := Lib.hid (chain HB2.out hb3)
                          clear hb3
                          go_wp2
                          go_roundg (gk - 1)
                          case measure => omega
                          case rel => exact HMO.out HDD.out _ rfl _ HB3.out
                        · have HAL := Lib.hid hal
                          have HR2 : Hid (R = false) := HNO.out (fun e => hal (by have := e.2.2 HKX.out; rw [HHA.out] at this; exact this))
                          clear hal HNO HMO
                          go_wp2_with fail
                          refine (ralone_any l ad cap n k h _ HN.out HCW2.out hh1 hlt hz false ⟨(fun e => by cases e), fun e => absurd e HAL.out⟩).mono ?_
                          rintro _ w3 ⟨rfl, hb3⟩
                          have HB3 := Lib.hid (chain HB2.out hb3)
                          clear hb3
                          go_wp2
                          go_ret
                          rw [HR2.out]
                          exact ⟨rfl, HB3.out⟩
                      · have z7 : (Kh == 7) = false := by rw [beq_eq_false_iff_ne]; exact h7
                        have HDD : Hid (DocStep l k) := ⟨HFIT.out, fun e => by rw [HKX.out] at e; exact absurd e h6, fun e => by rw [HKX.out] at e; exact absurd e h7⟩
                        clear HNO
                        go_wp2
                        go_roundg (gk - 1)
                        case measure => omega
                        case rel => exact HMO.out HDD.out _ rfl _ HB2.out
          · have HR2 : Hid (R = true) := by
              show _ = _
              rw [HRD.out]
              exact ⟨HHD.out, fun i a b => HDS.out i a (by rw [HN.out] at b; omega)⟩
            go_wp2
            go_ret
            rw [HR2.out]
            exact ⟨rfl, HBE.out⟩
    · have he : key.toList.isEmpty = false := by
        rw [hte]
        cases h : key.data.toList with
        | nil => exact absurd h hk
        | cons c t => rfl
      have hl : key.toList ≠ [] := fun h => by rw [h] at he; cases he
      have HR2 : Hid (R = false) := HNO.out (fun h => by have := h.2.2.1; rw [HX.out] at this; exact hk this)
      clear hte hk HNO
      go_enter Tryd.func15, Tryd.ntmps15
      go_wp2
      go_ret
      rw [HR2.out]
      exact ⟨rfl, Below.refl _ _⟩
  · have z1 : (d == 0) = false := by rw [beq_eq_false_iff_ne]; exact hd
    have z2 : (d != 0) = true := by simp [hd]
    have HR2 : Hid (R = false) := HNO.out (fun h => by have := h.2.1; rw [HX.out] at this; exact hd this)
    clear hte HNO
    go_enter Tryd.func15, Tryd.ntmps15
    go_wp2
    go_ret
    rw [HR2.out]
    exact ⟨rfl, Below.refl _ _⟩

set_option maxRecDepth 100000 in
theorem rright_none (ao : Option Addr) (cap : Nat) (w : World) : Calls Tryd.prog 15 #[.slice ao 0 cap] w fun e w' => e = .returned (.bool false) ∧ Below w.heap.size w w' := by
  go_enter Tryd.func15, Tryd.ntmps15
  go_wp2
  go_ret
  exact ⟨rfl, Below.refl _ _⟩

theorem rright_any (v : Value) (l : List It) (w : World) (h : ItsAt w v l) (hsm : Small l) (R : Bool) (hR : rightU l = R) :
    Calls Tryd.prog 15 #[v] w fun e w' => e = .returned (.bool R) ∧ Below w.heap.size w w' := by
  rcases h with ⟨rfl, rfl⟩ | ⟨ad, cap, rfl, h1, h2⟩
  · have e : R = false := by rw [← hR]; rfl
    rw [e]
    exact rright_none none 0 w
  · by_cases h0 : 0 < l.length
    · exact rright_some l ad cap l.length w rfl h2 h0 h1 hsm R hR
    · have hl : l = [] := List.length_eq_zero_iff.1 (by omega)
      subst hl
      have e : R = false := by rw [← hR]; rfl
      rw [e]
      exact rright_none (some ad) cap w
end Go.Proofs.YtmnigdcgdebgoaaDoor
