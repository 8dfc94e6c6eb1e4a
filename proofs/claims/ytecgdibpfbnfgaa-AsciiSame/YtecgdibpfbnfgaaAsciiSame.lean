/-
  For all texts a, b, c, cracknellaw01.AsciiSame(a, b, c) returns true and leaves them as they were. Conditions: none beyond the form's own (a string that is read takes at most 2^47 - 4096 bytes).
-/
import Derived.Test.YtecgdibpfbnfgaaAlive
import Derived.ProofKit
import Derived.OpenShut
import Derived.ShutString
import Derived.ChangeOld
import Derived.SizedLaws
namespace Go.Proofs.Ytecgdibpfbnfgaa.asciiSame
open Go.ChangeShapes Go.WideShapes Go.ChangeAt Go.RowKit
open Go.ChangeMaps (open_string shut_string)
set_option linter.unusedVariables false

theorem own : ownKnob Try.prog.godebug = none := by kernel_rfl

set_option maxHeartbeats 1600000 in
theorem walk (a0 : ByteArray) (a1 : ByteArray) (a2 : ByteArray) (w0 : a0.size ≤ 140737488351232) (w1 : a1.size ≤ 140737488351232) (w2 : a2.size ≤ 140737488351232) (w : World) :
    Calls Try.prog 4 #[.string a0, .string a1, .string a2] w fun e w' => e = .returned (.bool true) ∧ Below w.heap.size w w' := by
  have hx := Lib.hid (lowB_idem a0)
  have hz : (lowB a0).size ≤ 140737488351232 := by rw [lowB_size]; exact w0
  generalize hX : lowB a0 = x at *
  generalize hY : lowB a1 = y at *
  generalize hZ : lowB a2 = z at *
  have HX := Lib.hid hX
  have HY := Lib.hid hY
  have HZ := Lib.hid hZ
  clear hX hY hZ
  have H1 : Hid (((lowB a0).toList == (lowB a1).toList) = (x.toList == y.toList)) := by show _ = _; rw [HX.out, HY.out]
  have H2 : Hid (((lowB a1).toList == (lowB a2).toList) = (y.toList == z.toList)) := by show _ = _; rw [HY.out, HZ.out]
  have H3 : Hid (((lowB a0).toList == (lowB a0).toList) = true) := by show _ = _; simp
  have H4 : Hid (((lowB a1).toList == (lowB a0).toList) = (x.toList == y.toList)) := by show _ = _; rw [HX.out, HY.out, Bool.eq_iff_iff, beq_iff_eq, beq_iff_eq]; exact eq_comm
  have H5 : Hid (((lowB a0).toList == (lowB a2).toList) = (x.toList == z.toList)) := by show _ = _; rw [HX.out, HZ.out]
  have H6 : Hid (((lowB a0).toList == (lowB x).toList) = true) := by show _ = _; rw [HX.out, hx.out]; simp
  have HT : Hid ((x.toList == y.toList) = true → (y.toList == z.toList) = true → (x.toList == z.toList) = true) := by
    show _ → _ → _
    simp only [beq_iff_eq]
    exact Eq.trans
  cases hp : (x.toList == y.toList) <;> cases hq : (y.toList == z.toList)
  all_goals
    have H1' := Lib.hid (H1.out.trans hp)
    have H2' := Lib.hid (H2.out.trans hq)
    have H4' := Lib.hid (H4.out.trans hp)
    go_enter Try.func4, Try.ntmps4
    go_wp2_with fail
    refine (at_same _ (by omega) (by omega) H1'.out).mono ?_
    rintro _ w1 ⟨rfl, hb1⟩
    go_wp2_with fail
    refine (at_same _ (by omega) (by omega) H2'.out).mono ?_
    rintro _ w2 ⟨rfl, hb⟩
    have hb2 := chain hb1 hb
    clear hb hb1
    go_wp2_with fail
    refine (alive_any _).mono ?_
    rintro _ w1 ⟨rfl, hb⟩
    have hb1 := chain hb2 hb
    clear hb hb2
    go_wp2_with fail
    refine (at_rlower _ (by omega) HX.out).mono ?_
    rintro _ w2 ⟨rfl, hb⟩
    have hb2 := chain hb1 hb
    clear hb hb1
    go_wp2_with fail
    refine (at_rlower _ (by omega) HY.out).mono ?_
    rintro _ w1 ⟨rfl, hb⟩
    have hb1 := chain hb2 hb
    clear hb hb2
    go_wp2_with fail
    refine (at_same _ (by omega) (by omega) H3.out).mono ?_
    rintro _ w2 ⟨rfl, hb⟩
    have hb2 := chain hb1 hb
    clear hb hb1
    go_wp2_with fail
    refine (at_same _ (by omega) (by omega) H4'.out).mono ?_
    rintro _ w1 ⟨rfl, hb⟩
    have hb1 := chain hb2 hb
    clear hb hb2
    go_wp2_with fail
    first
      | ((with_reducible refine (at_same _ (by omega) (by omega) (H5.out.trans (HT.out hp hq))).mono ?_)
         rintro _ w2 ⟨rfl, hb⟩
         have hb2 := chain hb1 hb
         clear hb hb1
         go_wp2_with fail
         refine (at_lower _ (by omega) HX.out).mono ?_
         rintro _ w1 ⟨rfl, hb⟩
         have hb1 := chain hb2 hb
         clear hb hb2)
      | ((with_reducible refine (at_lower _ (by omega) HX.out).mono ?_)
         rintro _ w2 ⟨rfl, hb⟩
         have hb2 := chain hb1 hb
         clear hb hb1
         have hb1 := hb2
         clear hb2)
    go_wp2_with fail
    refine (at_same _ (by omega) (by omega) H6.out).mono ?_
    rintro _ w3 ⟨rfl, hb⟩
    have hb3 := chain hb1 hb
    clear hb hb1
    go_wp2
    go_ret
    exact ⟨rfl, hb3⟩

set_option maxRecDepth 100000 in
theorem lifted (os : Os) (started : os.Started) (H : Type) (enc : TypeId × Value → H) :
    ReturnsInHanded {} Try.checked os 4 .any (Rows.asciiSameSpec.pre6 enc Try.prog Try.f4 Rows.asciiSameRow.domain false) (Rows.asciiSameSpec.post enc Try.prog Try.f4 false true false false) := by
  refine returnsInHanded_of_change_sized (C := Try.checked) own started (by kernel_rfl) Try.func4
    (ChangeSpec.witness6 (enc := enc) (C := Try.checked) false ⟨#[], #[.string ByteArray.empty, .string ByteArray.empty, .string ByteArray.empty], []⟩ 8 (by kernel_rfl) (by kernel_rfl) (by kernel_rfl) (by kernel_rfl)) ?_
  intro W base args ds gs before hval0 hW hcnd hsz0 _
  have hval : ∀ (j : Nat) t v, Try.f4.params[j]? = some t → args[j]? = some v → Value.okWide Try.prog W .any base t v := hval0
  have hsz : (DataW.weightsEach Try.prog (Try.f4.params.toList ++ Rows.asciiSameSpec.plain.varTypes Try.prog) (ds ++ gs)).all (· ≤ reachBytes) = true := hsz0
  have hW' := hW
  obtain ⟨p, q, hA0, hV, rfl, hfz, hnd⟩ := hW
  have hA : DataW.TrodAll enc Try.prog W 0 (fun _ => true) true Try.f4.params.toList args.toList ds p := hA0
  rw [Try.params4] at hA hval hsz
  obtain ⟨v0, vs0, d0, ds0, p0, q0, hargs, rfl, rfl, h0, r0⟩ := trodAll_cons hA
  obtain ⟨v1, vs1, d1, ds1, p1, q1, rfl, rfl, rfl, h1, r1⟩ := trodAll_cons r0
  obtain ⟨v2, vs2, d2, ds2, p2, q2, rfl, rfl, rfl, h2, r2⟩ := trodAll_cons r1
  obtain ⟨rfl, rfl, rfl⟩ := trodAll_nil r2
  obtain rfl : args = #[v0, v1, v2] := by cases args; simp_all
  obtain ⟨rfl, rfl⟩ := trodVars_none hV
  obtain ⟨a0, rfl, rfl, rfl, m0⟩ := open_string Try.underlying9 (hval 0 9 v0 rfl rfl) h0
  obtain ⟨a1, rfl, rfl, rfl, m1⟩ := open_string Try.underlying9 (hval 1 9 v1 rfl rfl) h1
  obtain ⟨a2, rfl, rfl, rfl, m2⟩ := open_string Try.underlying9 (hval 2 9 v2 rfl rfl) h2
  have w0 : a0.size ≤ 140737488351232 := by
    have h := sized_string hsz (j := 0) (t := 9) rfl rfl
    have e : a0.data.toList.length = a0.size := by simp
    unfold reachBytes at h
    omega
  have w1 : a1.size ≤ 140737488351232 := by
    have h := sized_string hsz (j := 1) (t := 9) rfl rfl
    have e : a1.data.toList.length = a1.size := by simp
    unfold reachBytes at h
    omega
  have w2 : a2.size ≤ 140737488351232 := by
    have h := sized_string hsz (j := 2) (t := 9) rfl rfl
    have e : a2.data.toList.length = a2.size := by simp
    unfold reachBytes at h
    omega
  clear hA0 hval0 hsz hsz0
  refine (walk a0 a1 a2 w0 w1 w2 W).mono fun e W' ⟨he, bel⟩ => ?_
  subst he
  exact ⟨_, rfl, _, _, _, [], _, [], hW', trodAll_mk1 (shut_bool Try.underlying4 _), (trodAll_cons_mk (shut_string Try.underlying9 m0) (trodAll_cons_mk (shut_string Try.underlying9 m1) (trodAll_cons_mk (shut_string Try.underlying9 m2) trodAll_mk0))), rfl, bel.frame _, fun h => by cases h⟩

theorem over : Rows.asciiSameRow.holds Try.pinned (OpenSpec.ofChange Rows.asciiSameSpec) :=
  OpenClaim.holds_of_wide 4 Try.f4 rfl rfl rfl rfl rfl rfl rfl ⟨rfl, rfl, rfl, rfl, rfl⟩ rfl rfl rfl rfl rfl (by kernel_rfl) Try.func4 (by kernel_rfl)
    (of_decide_eq_true (by kernel_rfl)) (by unfold Func.isWrapper; first | (rw [if_pos (by decide +kernel)]; kernel_rfl) | (rw [if_neg (by decide +kernel)]; exact ⟨rfl, rfl⟩))
    (fun os started H enc _ => lifted os started H enc)

end Go.Proofs.Ytecgdibpfbnfgaa.asciiSame
namespace Go.Proofs.Ytecgdibpfbnfgaa
/-- The statement. -/
theorem asciiSame_proved : Rows.AsciiSameSaid := asciiSame.over
end Go.Proofs.Ytecgdibpfbnfgaa
