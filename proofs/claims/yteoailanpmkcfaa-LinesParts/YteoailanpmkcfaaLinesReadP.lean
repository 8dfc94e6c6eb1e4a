/-
  The program's own marking (package lines): read: a contract.
-/
import Derived.Test.YteoailanpmkcfaaLinesRead
namespace Go.Proofs.Yteoailanpmkcfaa
open Go.RowKit
set_option linter.unusedVariables false

/-- The box of a way. -/
def boxOf (m : Way) (fb fw : Nat) : Obj := .cells #[.int .u8 (m.mark.toNat : Int), .int .i64 (m.many : Int), .func (.func fb) #[] #[], .func (.func fw) #[] #[]] 53

theorem box_cells (m : Way) (fb fw : Nat) (w : World) : (w.alloc (boxOf m fb fw)).cell? ⟨w.heap.size, 0, none⟩ = some (.int .u8 (m.mark.toNat : Int)) ∧ (w.alloc (boxOf m fb fw)).cell? ⟨w.heap.size, 1, none⟩ = some (.int .i64 (m.many : Int)) ∧ (w.alloc (boxOf m fb fw)).cell? ⟨w.heap.size, 2, none⟩ = some (.func (.func fb) #[] #[]) ∧ (w.alloc (boxOf m fb fw)).cell? ⟨w.heap.size, 3, none⟩ = some (.func (.func fw) #[] #[]) := by
  unfold boxOf
  exact ⟨by simp, by simp, by simp, by simp⟩

theorem bec_at {m : Way} {fb : Nat} (h : Becomes m fb) (c : UInt8) (C : Int) (t : ByteArray) (w : World) (hC : C = (c.toNat : Int)) (ht : (⟨(m.becomes c).toArray⟩ : ByteArray) = t) :
    Calls Try.prog fb #[.int .u8 C] w fun e w' => e = .returned (.string t) ∧ Below w.heap.size w w' := by
  subst ht
  exact h c C w hC

theorem same_text (l : List UInt8) (t : ByteArray) : ((⟨l.toArray⟩ : ByteArray).toList == t.toList) = decide (l = t.data.toList) := by
  rw [Bool.eq_iff_iff, beq_iff_eq, decide_eq_true_eq, ByteArray.toList_eq, ByteArray.toList_eq]

theorem ext_ext (s : ByteArray) (n : Nat) (h : n < s.size) : (s.extract 0 (1 + n)).extract 1 (1 + n) = s.extract 1 (1 + n) := by
  apply ba_ext
  rw [extract_list, extract_list, extract_list, List.drop_zero, List.drop_take, List.take_take]
  congr 1
  omega

theorem was_at {m : Way} {fw : Nat} (h : Was m fw) (x y : ByteArray) (b : UInt8) (w : World) (hx : x = y) (hy : y.size = m.many) (hb : m.was y.data.toList = b) :
    Calls Try.prog fw #[.string x] w fun e w' => e = .returned (.int .u8 (b.toNat : Int)) ∧ Below w.heap.size w w' := by
  subst hx hb
  exact h x w hy

theorem text_some (s : ByteArray) (h : 0 < s.size) : s.toList ≠ [] ∧ s.toList.isEmpty = false := by
  have e : s.toList.length = s.size := by rw [ByteArray.toList_eq, list_len]
  refine ⟨fun h2 => ?_, ?_⟩
  · rw [h2] at e
    simp at e
    omega
  · rw [isEmpty_size, decide_eq_false_iff_not]
    exact Nat.ne_of_gt h
theorem text_none (s : ByteArray) (h : s.size = 0) : s.toList = [] ∧ s.toList.isEmpty = true := by
  have e : s.toList.length = s.size := by rw [ByteArray.toList_eq, list_len]
  have e2 : s.toList = [] := List.eq_nil_of_length_eq_zero (by rw [e]; exact h)
  exact ⟨e2, by rw [e2]; rfl⟩

set_option maxRecDepth 100000 in
set_option maxHeartbeats 3200000 in
theorem read_any (m : Way) (R : List UInt8 → Option (List UInt8)) (fb fw : Nat) (s : ByteArray) (w : World) (hm : m.Fair) (hR : m.ReadBy R) (h1 : 1 ≤ m.many) (h2 : m.many ≤ 2) (hs : s.size ≤ 1000000000000)
    (hNb : ∀ args w, Sem.run Try.prog (callFunc fb args) w = .ok (.enter fb args) w) (hNw : ∀ args w, Sem.run Try.prog (callFunc fw args) w = .ok (.enter fw args) w) (hp : Becomes m fb) (hq : Was m fw) :
    Calls Try.prog 41 #[wayV m fb fw, .string s] w fun e w' => e = .returned (readV (R s.data.toList)) ∧ Below w.heap.size w w' := by
  have HP := Lib.hid hp
  have HQ := Lib.hid hq
  have HF := Lib.hid hm
  have HR := Lib.hid hR
  have HL := Lib.hid (list_len s)
  obtain ⟨i0, hi, hz0, hs1, hs2⟩ := info_parts Try.infoU8
  obtain ⟨wm, hrun, hown, hgrow⟩ := run_make_own (P := Try.prog) (w := w.alloc (boxOf m fb fw)) (w.heap.size + 1) 39 5 i0 (.int .u8 0) 1 Try.underlying39 hi hz0 hs1 .i64 .i64 s.size (by rw [hs2]; omega) (by unfold maxLen; omega) (by simp)
  have HBX := Lib.hid (box_cells m fb fw w)
  have HO := Lib.hid hown
  have HBM := Lib.hid ((Below.refl (w.heap.size + 1) (w.alloc (boxOf m fb fw))).grown hgrow (by simp) (fun k hk => by cases hk))
  have hzm : w.heap.size + 1 ≤ wm.heap.size := by have := hgrow.size; simpa using this
  unfold boxOf at hrun
  unfold wayV
  clear hp hq hm hR hi hz0 hs1 hs2 hown hgrow
  go_enter Try.func41, Try.ntmps41
  go_wp2
  clear hrun
  go_loopw [1, 6] (fun t row wr => ReadAt R s w.heap.size (w.alloc (boxOf m fb fw)) t row wr) (fun t _ _ => leftOf t)
  case atStart =>
    refine ⟨s, [], rfl, ?_, by simp, by simp, HBM.out, hzm⟩
    have := HO.out
    rw [World.size_alloc] at this
    simpa [RowB, u8s] using this
  case round =>
    obtain ⟨rest, had, rfl, hrow, hinv, hsz, hbe, hge⟩ := hrel
    obtain ⟨b0, b1, b2, b3⟩ := HBX.out
    have c0 := (hbe.cell (p := ⟨w.heap.size, 0, none⟩) (Nat.lt_succ_self _)).trans b0
    have c1 := (hbe.cell (p := ⟨w.heap.size, 1, none⟩) (Nat.lt_succ_self _)).trans b1
    have c2 := (hbe.cell (p := ⟨w.heap.size, 2, none⟩) (Nat.lt_succ_self _)).trans b2
    have c3 := (hbe.cell (p := ⟨w.heap.size, 3, none⟩) (Nat.lt_succ_self _)).trans b3
    have HRW := Lib.hid hrow
    have HIN := Lib.hid hinv
    clear b0 b1 b2 b3 hrow hinv
    by_cases hlt : 0 < rest.size
    · obtain ⟨n1, n2⟩ := text_some rest hlt
      have hw : w.heap.size < wr.drew.heap.size := by
        show w.heap.size < wr.heap.size
        omega
      by_cases hmk : rest[0] = m.mark ∧ m.many < rest.size
      · have hmt : (rest[0].toNat : Int) = (m.mark.toNat : Int) := by rw [hmk.1]
        have hmn := hmk.2
        go_wp2_with fail
        go_quiet (fail)
        go_wp2_with fail
        have hes : (rest.extract 0 (1 + m.many)).size = 1 + m.many := ext_size rest 0 (1 + m.many) (by omega)
        have hle : (1 : Int) ≤ 1 + (m.many : Int) := by omega
        obtain ⟨b, hb⟩ : ∃ b, m.was (rest.extract 1 (1 + m.many)).data.toList = b := ⟨_, rfl⟩
        have HX := Lib.hid (ext_ext rest m.many hmn)
        have HY := Lib.hid (show (rest.extract 1 (1 + m.many)).size = m.many from by rw [ext_size _ _ _ (by omega)]; omega)
        have HBB := Lib.hid hb
        clear hb
        go_region_held3 (fun W => W.cell? ⟨w.heap.size, 3, none⟩ = some (.func (.func fw) #[] #[]) ∧ W.cell? ⟨w.heap.size, 2, none⟩ = some (.func (.func fb) #[] #[])) (first | exact ⟨by assumption, by assumption⟩) (first
          | (refine (was_at HQ.out _ _ b _ HX.out HY.out HBB.out).mono ?_; rintro _ w1 ⟨rfl, hb1⟩; have d2 := (hb1.cell (p := ⟨w.heap.size, 2, none⟩) hw).trans c2; have d3 := (hb1.cell (p := ⟨w.heap.size, 3, none⟩) hw).trans c3))
        all_goals
          have hbe1 := hbe.trans ((below_drewN (Below.refl (w.heap.size + 1) wr) (nq + 1)).trans (hb1.mono (show w.heap.size + 1 ≤ wr.heap.size from hge)))
          have hrow1 : RowB w1 (w.heap.size + 1) _ had := RowB.keep (w := wr.drewN (nq + 1)) HRW.out hb1
          have HRW1 := Lib.hid hrow1
          have hge1 : w.heap.size + 1 ≤ w1.heap.size := Nat.le_trans hge hb1.size
          clear hrow1 HRW c0 c1 c2 c3 d3 hb1 HX HY
          by_cases hbc : m.becomes b = (rest.extract 0 (1 + m.many)).data.toList
          · have HN := Lib.hid (read_on HIN.out (Way.marked_yes HF.out HR.out rest hlt hmk.1 hmn (by rw [HBB.out]; exact hbc)))
            rw [HBB.out] at HN
            have hst : (⟨(m.becomes b).toArray⟩ : ByteArray) = rest.extract 0 (1 + m.many) := ba_ext hbc
            have HST := Lib.hid hst
            clear hbc hst HIN HBB hmk hmt
            go_wp2_with fail
            refine (bec_at HP.out b _ _ _ rfl HST.out).mono ?_
            rintro _ w2 ⟨rfl, hb2⟩
            have hge2 : w.heap.size + 1 ≤ w2.heap.size := Nat.le_trans hge1 hb2.size
            have hbe2 := hbe1.trans (hb2.mono hge1)
            have HRW2 := Lib.hid (HRW1.out.keep hb2)
            have hle2 : (1 : Int) + (m.many : Int) ≤ (rest.size : Int) := by omega
            have hle3 : 1 + m.many ≤ rest.size := by omega
            have HSZ := Lib.hid (ext_size rest (1 + m.many) rest.size (Nat.le_refl _))
            clear HRW1 HST hb2 hbe1 hbe
            go_wp2_with (at_builtin; refine wpList_push rfl _ _ rfl HRW2.out (c := b) rfl rfl rfl (by omega) hge2 ?_; intro v' w3 hrow' hB' hsz')
            have hbe3 := hB' _ _ hbe2 (Nat.le_refl _)
            have HRW3 := Lib.hid hrow'
            clear hB' hrow' HRW2
            go_wp2
            go_roundw
            case rel => exact ⟨rest.extract (1 + m.many) rest.size, had ++ [b], rfl, HRW3.out, HN.out, by rw [List.length_append, HSZ.out, List.length_singleton]; omega, hbe3, hsz'⟩
            case measure =>
              show (rest.extract (1 + m.many) rest.size).size < rest.size
              rw [HSZ.out]
              omega
          · have HN := Lib.hid (read_no HIN.out (Way.marked_no HF.out HR.out rest hlt hmk.1 hmn (by rw [HBB.out]; exact hbc)))
            have hst : ((⟨(m.becomes b).toArray⟩ : ByteArray).toList == (rest.extract 0 (1 + m.many)).toList) = false := by rw [same_text, decide_eq_false_iff_not]; exact hbc
            obtain ⟨t, ht⟩ : ∃ t, (⟨(m.becomes b).toArray⟩ : ByteArray) = t := ⟨_, rfl⟩
            rw [ht] at hst
            have hst2 : ¬ t.toList = (rest.extract 0 (1 + m.many)).toList := by simpa using hst
            have HT := Lib.hid ht
            clear hbc HIN HBB hmk hmt ht
            go_wp2_with fail
            refine (bec_at HP.out b _ t _ rfl HT.out).mono ?_
            rintro _ w2 ⟨rfl, hb2⟩
            have hbe2 := hbe1.trans (hb2.mono hge1)
            go_wp2
            go_ret2
            refine ⟨?_, ((Below.refl w.heap.size w).alloc (Nat.le_refl _) _).trans (hbe2.mono (by omega))⟩
            rw [HN.out]
            rfl
      · by_cases hmt : rest[0] = m.mark
        · have hmn : ¬ m.many < rest.size := fun h => hmk ⟨hmt, h⟩
          have hme : (rest[0].toNat : Int) = (m.mark.toNat : Int) := by rw [hmt]
          have HME := Lib.hid hme
          clear hmt
          by_cases hbc : m.becomes rest[0] = [rest[0]]
          · have hst : (⟨(m.becomes rest[0]).toArray⟩ : ByteArray) = rest.extract 0 1 := by rw [hbc, ext_one rest hlt]
            have HN := Lib.hid (read_on HIN.out (Way.bare_yes HF.out HR.out rest hlt hmk hbc))
            have HST := Lib.hid hst
            clear hbc hst HIN hmk
            go_wp2_with fail
            go_quiet (fail)
            go_wp2_with fail
            refine (bec_at HP.out rest[0] _ _ _ HME.out.symm HST.out).mono ?_
            rintro _ w1 ⟨rfl, hb1⟩
            have hge1 : w.heap.size + 1 ≤ w1.heap.size := Nat.le_trans hge hb1.size
            have hbe1 := hbe.trans ((below_drewN (Below.refl (w.heap.size + 1) wr) nq).trans (hb1.mono (show w.heap.size + 1 ≤ wr.heap.size from hge)))
            have HRW1 := Lib.hid (RowB.keep (w := wr.drewN nq) HRW.out hb1)
            have hle2 : (1 : Int) ≤ (rest.size : Int) := by omega
            have hes : (rest.extract 0 1).size = 1 := ext_size rest 0 1 (by omega)
            have HSZ := Lib.hid (ext_size rest 1 rest.size (Nat.le_refl _))
            have HLT := Lib.hid hlt
            clear HRW HST hb1 hbe
            go_wp2_with (at_builtin; refine wpList_push rfl _ _ rfl HRW1.out (c := rest[0]) HME.out.symm rfl rfl (by omega) hge1 ?_; intro v' w3 hrow' hB' hsz')
            have hbe3 := hB' _ _ hbe1 (Nat.le_refl _)
            have HRW3 := Lib.hid hrow'
            clear hB' hrow' HRW1
            go_wp2
            go_roundw
            case rel => exact ⟨rest.extract 1 rest.size, had ++ [rest[0]], rfl, HRW3.out, HN.out, by rw [List.length_append, HSZ.out, List.length_singleton]; omega, hbe3, hsz'⟩
            case measure =>
              show (rest.extract 1 rest.size).size < rest.size
              rw [HSZ.out]
              omega
          · have HN := Lib.hid (read_no HIN.out (Way.bare_no HF.out HR.out rest hlt hmk hbc))
            have hst : ((⟨(m.becomes rest[0]).toArray⟩ : ByteArray).toList == (rest.extract 0 1).toList) = false := by
              rw [same_text, decide_eq_false_iff_not, ext_one rest hlt]
              exact hbc
            obtain ⟨t, ht⟩ : ∃ t, (⟨(m.becomes rest[0]).toArray⟩ : ByteArray) = t := ⟨_, rfl⟩
            rw [ht] at hst
            have hst2 : ¬ t.toList = (rest.extract 0 1).toList := by simpa using hst
            have HT := Lib.hid ht
            clear hbc HIN ht hmk
            go_wp2_with fail
            go_quiet (fail)
            go_wp2_with fail
            refine (bec_at HP.out rest[0] _ t _ HME.out.symm HT.out).mono ?_
            rintro _ w1 ⟨rfl, hb1⟩
            have hbe1 := hbe.trans ((below_drewN (Below.refl (w.heap.size + 1) wr) nq).trans (hb1.mono (show w.heap.size + 1 ≤ wr.heap.size from hge)))
            go_wp2
            go_ret2
            refine ⟨?_, ((Below.refl w.heap.size w).alloc (Nat.le_refl _) _).trans (hbe1.mono (by omega))⟩
            rw [HN.out]
            rfl
        · have hme : ((rest[0].toNat : Int) == (m.mark.toNat : Int)) = false := by
            rw [beq_eq_false_iff_ne]
            intro h
            exact hmt (UInt8.toNat.inj (by omega))
          have hme2 : ¬ (rest[0].toNat : Int) = (m.mark.toNat : Int) := by simpa using hme
          clear hmt
          by_cases hbc : m.becomes rest[0] = [rest[0]]
          · have hst : (⟨(m.becomes rest[0]).toArray⟩ : ByteArray) = rest.extract 0 1 := by rw [hbc, ext_one rest hlt]
            have HN := Lib.hid (read_on HIN.out (Way.bare_yes HF.out HR.out rest hlt hmk hbc))
            have HST := Lib.hid hst
            clear hbc hst HIN hmk
            go_wp2_with fail
            go_quiet (fail)
            go_wp2_with fail
            refine (bec_at HP.out rest[0] _ _ _ rfl HST.out).mono ?_
            rintro _ w1 ⟨rfl, hb1⟩
            have hge1 : w.heap.size + 1 ≤ w1.heap.size := Nat.le_trans hge hb1.size
            have hbe1 := hbe.trans ((below_drewN (Below.refl (w.heap.size + 1) wr) nq).trans (hb1.mono (show w.heap.size + 1 ≤ wr.heap.size from hge)))
            have HRW1 := Lib.hid (RowB.keep (w := wr.drewN nq) HRW.out hb1)
            have hle2 : (1 : Int) ≤ (rest.size : Int) := by omega
            have hes : (rest.extract 0 1).size = 1 := ext_size rest 0 1 (by omega)
            have HSZ := Lib.hid (ext_size rest 1 rest.size (Nat.le_refl _))
            have HLT := Lib.hid hlt
            clear HRW HST hb1 hbe
            go_wp2_with (at_builtin; refine wpList_push rfl _ _ rfl HRW1.out (c := rest[0]) rfl rfl rfl (by omega) hge1 ?_; intro v' w3 hrow' hB' hsz')
            have hbe3 := hB' _ _ hbe1 (Nat.le_refl _)
            have HRW3 := Lib.hid hrow'
            clear hB' hrow' HRW1
            go_wp2
            go_roundw
            case rel => exact ⟨rest.extract 1 rest.size, had ++ [rest[0]], rfl, HRW3.out, HN.out, by rw [List.length_append, HSZ.out, List.length_singleton]; omega, hbe3, hsz'⟩
            case measure =>
              show (rest.extract 1 rest.size).size < rest.size
              rw [HSZ.out]
              omega
          · have HN := Lib.hid (read_no HIN.out (Way.bare_no HF.out HR.out rest hlt hmk hbc))
            have hst : ((⟨(m.becomes rest[0]).toArray⟩ : ByteArray).toList == (rest.extract 0 1).toList) = false := by
              rw [same_text, decide_eq_false_iff_not, ext_one rest hlt]
              exact hbc
            obtain ⟨t, ht⟩ : ∃ t, (⟨(m.becomes rest[0]).toArray⟩ : ByteArray) = t := ⟨_, rfl⟩
            rw [ht] at hst
            have hst2 : ¬ t.toList = (rest.extract 0 1).toList := by simpa using hst
            have HT := Lib.hid ht
            clear hbc HIN ht hmk
            go_wp2_with fail
            go_quiet (fail)
            go_wp2_with fail
            refine (bec_at HP.out rest[0] _ t _ rfl HT.out).mono ?_
            rintro _ w1 ⟨rfl, hb1⟩
            have hbe1 := hbe.trans ((below_drewN (Below.refl (w.heap.size + 1) wr) nq).trans (hb1.mono (show w.heap.size + 1 ≤ wr.heap.size from hge)))
            go_wp2
            go_ret2
            refine ⟨?_, ((Below.refl w.heap.size w).alloc (Nat.le_refl _) _).trans (hbe1.mono (by omega))⟩
            rw [HN.out]
            rfl
    · obtain ⟨n1, n2⟩ := text_none rest (by omega)
      have hcv := HRW.out.back
      have HA := Lib.hid (read_all HR.out HIN.out (by omega))
      go_wp2
      go_ret2
      refine ⟨?_, ((Below.refl w.heap.size w).alloc (Nat.le_refl _) _).trans (hbe.mono (by omega))⟩
      rw [HA.out]
      rfl
end Go.Proofs.Yteoailanpmkcfaa
