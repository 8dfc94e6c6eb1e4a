/-
  The document's own reader of json: Parse.
-/
import Derived.Test.YtmnigdcgdebgoaaDoorJsonRefV
import Derived.Test.YtmnigdcgdebgoaaDoorJsonLaws
namespace Go.Proofs.YtmnigdcgdebgoaaDoor
open Go.RowKit
set_option linter.unusedVariables false

theorem rrvalue_all : ∀ n, RValueOk n := by
  intro n
  induction n using Nat.strongRecOn with
  | _ n ih => exact rrvalue_step n ih

/-- What Parse tells, and leaves. -/
def RParsed (w : World) (q : Nat × List It) (e : Ending) (w' : World) : Prop := ∃ v, e = .returned (.tuple #[v, .int .i64 (q.1 : Int)]) ∧ ItsAt w' v q.2 ∧ Below w.heap.size w w'

set_option maxRecDepth 100000 in
set_option maxHeartbeats 1600000 in
theorem rparse_any (s : ByteArray) (w : World) (hs : s.size ≤ 1000000) :
    Calls Tryd.prog 21 #[.string s] w fun e w' => RParsed w (parseL readD s.data.toList) e w' := by
  obtain ⟨A, hA⟩ : ∃ A, parseL readD s.data.toList = A := ⟨_, rfl⟩
  rw [hA]
  obtain ⟨E, x, r, hv⟩ : ∃ E x r, valueF readD (2 * s.data.toList.length + 2) 0 [] s.data.toList = (E, x, r) := ⟨_, _, _, rfl⟩
  have hval := rrvalue_all s.size w s 0 none 0 0 [] 0 ByteArray.empty (2 * s.data.toList.length + 2) (ItsAt.nil w) (Nat.zero_le _) hs (Nat.zero_le _) (by omega) (by omega) (by rw [list_len]; omega)
  have e0 : restB s 0 = s.data.toList := rfl
  have e1 : (ByteArray.empty.data.toList : List UInt8) = [] := rfl
  rw [e0, e1, hv] at hval
  unfold itA stV at hval
  unfold parseL at hA
  rw [hv] at hA
  simp only at hA
  have HVAL := Lib.hid hval
  have HA := Lib.hid hA
  clear hval hA hv e0 e1
  go_enter Tryd.func21, Tryd.ntmps21
  go_wp2_with fail
  refine HVAL.out.mono ?_
  rintro rr w1 ⟨j, ao, m, c, hj, hre, hb1, hok⟩
  have hre : rr = .returned (stV s j (.slice ao m c) E) := hre
  subst hre
  have hok : E = 0 → restB s j = r ∧ ItsFar w.heap.size w1 (.slice ao m c) ([] ++ x) := hok
  have HOK := Lib.hid hok
  have hbx := BoxS.new w1 (.string s) (.int .i64 (j : Int)) (.slice ao m c) (.int .i64 (E : Int))
  have HB1 := Lib.hid (hb1.trans (((Below.refl w1.heap.size w1).alloc (Nat.le_refl _) (.cells #[.string s, .int .i64 (j : Int), .slice ao m c, .int .i64 (E : Int)] 76)).mono hb1.size))
  have ha := (Below.refl w1.heap.size w1).alloc (Nat.le_refl _) (.cells #[.string s, .int .i64 (j : Int), .slice ao m c, .int .i64 (E : Int)] 76)
  have HAB := Lib.hid ha
  have hlt1 : w.heap.size ≤ w1.heap.size := hb1.size
  clear hok hb1 HVAL ha
  unfold stV
  by_cases hE : E = 0
  · subst hE
    obtain ⟨hr, hI⟩ := HOK.out rfl
    rw [List.nil_append] at hI
    have HI := Lib.hid hI.1
    have HR := Lib.hid hr
    have HA2 : Hid (A = if skipL r = [] then (0, x) else (80, [])) := by
      show _ = _
      rw [← HA.out, if_pos rfl]
    obtain ⟨p0, p1, p2, p3⟩ := hbx.cells
    have HBX := Lib.hid hbx
    clear hr hI HOK HA hbx
    go_wp2_with fail
    refine (rskip_any s j ao m c 0 _ hj hs).mono ?_
    rintro _ w2 ⟨j2, hj2, hr2, rfl, hb2⟩
    rw [HR.out] at hr2
    have HR2 := Lib.hid hr2
    have hbx2 := HBX.out.keep hb2
    have HI2 := Lib.hid ((HI.out.keep HAB.out).keep hb2)
    have HB2 := Lib.hid (chain HB1.out hb2)
    obtain ⟨p0, p1, p2, p3⟩ := hbx2.cells
    have f0 := hbx2.frozen 0
    have f1 := hbx2.frozen 1
    have f2 := hbx2.frozen 2
    have f3 := hbx2.frozen 3
    have HBX2 := Lib.hid hbx2
    clear hr2 hb2 hbx2 HBX HI HB1
    unfold stV
    by_cases hlt : j2 < s.size
    · have HA3 : Hid (A = (80, [])) := by
        show _ = _
        rw [HA2.out, if_neg (by rw [← HR2.out, restB_cons s j2 hlt]; simp)]
      clear HA2
      go_wp2
      go_ret2
      rw [HA3.out]
      exact ⟨_, rfl, ItsAt.nil _, below_put HB2.out hlt1 _ _ _ _⟩
    · have HA3 : Hid (A = (0, x)) := by
        show _ = _
        rw [HA2.out, if_pos (by rw [← HR2.out, restB_nil s j2 hlt])]
      clear HA2
      go_wp2
      go_ret2
      rw [HA3.out]
      exact ⟨_, rfl, HI2.out.put HBX2.out _ _ _ _, below_put HB2.out hlt1 _ _ _ _⟩
  · have z1 : ((E : Int) == 0) = false := by rw [beq_eq_false_iff_ne]; omega
    have z2 : ((E : Int) != 0) = true := by simp; omega
    have z3 : ¬ (E : Int) = 0 := by omega
    have HA2 : Hid (A = (E, [])) := by
      show _ = _
      rw [← HA.out, if_neg hE]
    obtain ⟨p0, p1, p2, p3⟩ := hbx.cells
    clear hE HA hbx HOK
    go_wp2_with fail
    go_quiet (fail)
    obtain ⟨w4, hw4⟩ : ∃ w4, (w1.alloc (.cells #[.string s, .int .i64 (j : Int), .slice ao m c, .int .i64 (E : Int)] 76)).drewN nq = w4 := ⟨_, rfl⟩
    rw [hw4]
    have hb4 : Below (w1.alloc (.cells #[.string s, .int .i64 (j : Int), .slice ao m c, .int .i64 (E : Int)] 76)).heap.size (w1.alloc (.cells #[.string s, .int .i64 (j : Int), .slice ao m c, .int .i64 (E : Int)] 76)) w4 := by rw [← hw4]; exact ⟨rfl, rfl, rfl, Nat.le_refl _, fun _ _ => rfl⟩
    have hb5 := chain HB1.out hb4
    clear hw4 hb4 p0 p1 p2 p3
    go_wp2
    go_ret2
    rw [HA2.out]
    exact ⟨_, rfl, ItsAt.nil _, hb5⟩
end Go.Proofs.YtmnigdcgdebgoaaDoor
