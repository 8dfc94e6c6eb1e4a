/-
  For every text s and all numbers ahead and behind, cracknellaw01.AsciiTrims(s, ahead, behind) returns true and leaves them as they were. Conditions: none beyond the form's own (a string that is read takes at most 2^47 - 4096 bytes).
-/
import Derived.Test.YtecgdibpfbnfgaaAlive
import Derived.Deep.RegionHeld3
import Derived.ProofKit
import Derived.OpenShut
import Derived.ShutString
import Derived.ChangeOld
import Derived.SizedLaws
namespace Go.Proofs.Ytecgdibpfbnfgaa.asciiTrims
open Go.ChangeShapes Go.WideShapes Go.ChangeAt Go.RowKit
open Go.ChangeMaps (open_string shut_string)
set_option linter.unusedVariables false

theorem own : ownKnob Try.prog.godebug = none := by kernel_rfl

def blanksB : ByteArray := ⟨#[9, 32, 9, 9, 32, 32, 9, 32, 32, 32, 9, 32, 9, 9, 32, 32, 9, 32, 32, 32, 9, 9, 9, 32, 9, 9, 32, 32, 9, 32, 32, 32]⟩

theorem blanks_all (n : Nat) : (blanksB.extract 0 n).data.toList.all bl = true := by
  rw [extract_list, List.drop_zero, List.all_eq_true]
  intro x hx
  have h : blanksB.data.toList.all bl = true := by decide
  rw [List.all_eq_true] at h
  exact h x (List.mem_of_mem_take hx)

theorem trimB_idem (s : ByteArray) : trimB (trimB s) = trimB s := by
  apply ba_ext
  rw [trimB_list, trimB_list, trimL_idem]

theorem trimB_more (x s y : ByteArray) (hx : x.data.toList.all bl = true) (hy : y.data.toList.all bl = true) : trimB (x ++ s ++ y) = trimB s := by
  apply ba_ext
  rw [trimB_list, trimB_list, ByteArray.data_append, ByteArray.data_append, Array.toList_append, Array.toList_append]
  exact trimL_more _ _ _ hx hy

theorem trimB_size (s : ByteArray) : (trimB s).size ≤ s.size := by
  unfold trimB
  rw [ByteArray.size_extract]
  omega

set_option maxHeartbeats 1600000 in
theorem walk (a0 : ByteArray) (a1 : Int) (a2 : Int) (w0 : a0.size ≤ 140737488351232) (w1 : (Lit.int .i64 a1).wf = true) (w2 : (Lit.int .i64 a2).wf = true) (w : World) :
    Calls Try.prog 6 #[.string a0, .int .i64 a1, .int .i64 a2] w fun e w' => e = .returned (.bool true) ∧ Below w.heap.size w w' := by
  have hm : a0.size ≤ maxLen := by unfold maxLen; omega
  by_cases hin : 0 ≤ a1 ∧ a1 ≤ 20 ∧ 0 ≤ a2 ∧ a2 ≤ 20
  · obtain ⟨h1, h2, h3, h4⟩ := hin
    obtain ⟨n1, rfl⟩ := Int.eq_ofNat_of_zero_le h1
    obtain ⟨n2, rfl⟩ := Int.eq_ofNat_of_zero_le h3
    have hx := blanks_all n1
    have hy := blanks_all n2
    have HM := Lib.hid (trimB_more (blanksB.extract 0 n1) a0 (blanksB.extract 0 n2) hx hy)
    have HI := Lib.hid (trimB_idem a0)
    have hts : (trimB a0).size ≤ maxLen := Nat.le_trans (trimB_size a0) hm
    have hbz : blanksB.size = 32 := rfl
    have hs1 : (blanksB.extract 0 n1).size + a0.size ≤ 9223372036854775807 := by rw [ByteArray.size_extract, hbz]; omega
    have hs2 : (blanksB.extract 0 n1 ++ a0).size + (blanksB.extract 0 n2).size ≤ 9223372036854775807 := by rw [ByteArray.size_append, ByteArray.size_extract, ByteArray.size_extract, hbz]; omega
    have hs3 : (blanksB.extract 0 n1 ++ a0 ++ blanksB.extract 0 n2).size ≤ maxLen := by rw [ByteArray.size_append]; unfold maxLen; omega
    have g1 : (n1 : Int) ≤ (blanksB.size : Int) := by rw [hbz]; omega
    have g2 : (n2 : Int) ≤ (blanksB.size : Int) := by rw [hbz]; omega
    have k1 : n1 ≤ blanksB.size := by omega
    have k2 : n2 ≤ blanksB.size := by omega
    have hadd1 := fun w => run_string_add_sum (P := Try.prog) w (blanksB.extract 0 n1) a0 hs1
    have hadd2 := fun w => run_string_add_sum (P := Try.prog) w (blanksB.extract 0 n1 ++ a0) (blanksB.extract 0 n2) hs2
    clear hs1 hs2
    have d1 : decide ((n1 : Int) < 0) = false := by rw [decide_eq_false_iff_not]; omega
    have d2 : decide ((20 : Int) < (n1 : Int)) = false := by rw [decide_eq_false_iff_not]; omega
    have d3 : decide ((n2 : Int) < 0) = false := by rw [decide_eq_false_iff_not]; omega
    have d4 : decide ((20 : Int) < (n2 : Int)) = false := by rw [decide_eq_false_iff_not]; omega
    clear hx hy hbz
    go_enter Try.func6, Try.ntmps6
    go_wp2_with fail
    refine (trim_any a0 _ hm).mono ?_
    rintro _ w1 ⟨rfl, hb1⟩
    go_wp2_with fail
    rw [show (⟨#[9, 32, 9, 9, 32, 32, 9, 32, 32, 32, 9, 32, 9, 9, 32, 32, 9, 32, 32, 32, 9, 9, 9, 32, 9, 9, 32, 32, 9, 32, 32, 32]⟩ : ByteArray) = blanksB from rfl]
    generalize blanksB = B at *
    clear d1 d2 d3 d4
    go_region_held3 (fun _ => True) (trivial) (first
      | (go_at_call 10; ((with_reducible refine (alive_any _).mono ?_); rintro _ _ ⟨rfl, hb⟩; have hq := chain (w := w) (by first | assumption | (refine Below.drew ?_; assumption)) hb; clear hb))
      | (go_at_call 20; ((with_reducible refine (rtrim_any a0 _ hm).mono ?_); rintro _ _ ⟨rfl, rfl⟩))
      | (go_at_call_of 19 (trimB a0); ((with_reducible refine (at_trim _ hts HI.out).mono ?_); rintro _ _ ⟨rfl, hb⟩; have hq := chain (w := w) (by first | assumption | (refine Below.drew ?_; assumption)) hb; clear hb))
      | (go_at_call 19; ((with_reducible refine (at_trim _ hs3 HM.out).mono ?_); rintro _ _ ⟨rfl, hb⟩; have hq := chain (w := w) (by first | assumption | (refine Below.drew ?_; assumption)) hb; clear hb)))
    all_goals
      go_wp2
      go_ret
      exact ⟨rfl, by first | assumption | (refine Below.drew ?_; assumption)⟩
  · rcases (show a1 < 0 ∨ (0 ≤ a1 ∧ 20 < a1) ∨ (0 ≤ a1 ∧ a1 ≤ 20 ∧ a2 < 0) ∨ (0 ≤ a1 ∧ a1 ≤ 20 ∧ 0 ≤ a2 ∧ 20 < a2) from by omega) with h | ⟨h, h'⟩ | ⟨h, h', h2⟩ | ⟨h, h', h2, h3⟩
    all_goals
      clear hin
      go_enter Try.func6, Try.ntmps6
      go_wp2_with fail
      refine (alive_any _).mono ?_
      rintro _ w1 ⟨rfl, hb1⟩
      go_wp2
      go_ret
      exact ⟨rfl, hb1⟩

set_option maxRecDepth 100000 in
theorem lifted (os : Os) (started : os.Started) (H : Type) (enc : TypeId × Value → H) :
    ReturnsInHanded {} Try.checked os 6 .any (Rows.asciiTrimsSpec.pre6 enc Try.prog Try.f6 Rows.asciiTrimsRow.domain false) (Rows.asciiTrimsSpec.post enc Try.prog Try.f6 false true false false) := by
  refine returnsInHanded_of_change_sized (C := Try.checked) own started (by kernel_rfl) Try.func6
    (ChangeSpec.witness6 (enc := enc) (C := Try.checked) false ⟨#[], #[.string ByteArray.empty, .int .i64 0, .int .i64 0], []⟩ 8 (by kernel_rfl) (by kernel_rfl) (by kernel_rfl) (by kernel_rfl)) ?_
  intro W base args ds gs before hval0 hW hcnd hsz0 _
  have hval : ∀ (j : Nat) t v, Try.f6.params[j]? = some t → args[j]? = some v → Value.okWide Try.prog W .any base t v := hval0
  have hsz : (DataW.weightsEach Try.prog (Try.f6.params.toList ++ Rows.asciiTrimsSpec.plain.varTypes Try.prog) (ds ++ gs)).all (· ≤ reachBytes) = true := hsz0
  have hW' := hW
  obtain ⟨p, q, hA0, hV, rfl, hfz, hnd⟩ := hW
  have hA : DataW.TrodAll enc Try.prog W 0 (fun _ => true) true Try.f6.params.toList args.toList ds p := hA0
  rw [Try.params6] at hA hval hsz
  obtain ⟨v0, vs0, d0, ds0, p0, q0, hargs, rfl, rfl, h0, r0⟩ := trodAll_cons hA
  obtain ⟨v1, vs1, d1, ds1, p1, q1, rfl, rfl, rfl, h1, r1⟩ := trodAll_cons r0
  obtain ⟨v2, vs2, d2, ds2, p2, q2, rfl, rfl, rfl, h2, r2⟩ := trodAll_cons r1
  obtain ⟨rfl, rfl, rfl⟩ := trodAll_nil r2
  obtain rfl : args = #[v0, v1, v2] := by cases args; simp_all
  obtain ⟨rfl, rfl⟩ := trodVars_none hV
  obtain ⟨a0, rfl, rfl, rfl, m0⟩ := open_string Try.underlying9 (hval 0 9 v0 rfl rfl) h0
  obtain ⟨a1, rfl, rfl, rfl, w1⟩ := open_int Try.underlying3 (hval 1 3 v1 rfl rfl) h1
  obtain ⟨a2, rfl, rfl, rfl, w2⟩ := open_int Try.underlying3 (hval 2 3 v2 rfl rfl) h2
  have w0 : a0.size ≤ 140737488351232 := by
    have h := sized_string hsz (j := 0) (t := 9) rfl rfl
    have e : a0.data.toList.length = a0.size := by simp
    unfold reachBytes at h
    omega
  clear hA0 hval0 hsz hsz0
  refine (walk a0 a1 a2 w0 w1 w2 W).mono fun e W' ⟨he, bel⟩ => ?_
  subst he
  exact ⟨_, rfl, _, _, _, [], _, [], hW', trodAll_mk1 (shut_bool Try.underlying4 _), (trodAll_cons_mk (shut_string Try.underlying9 m0) (trodAll_cons_mk (shut_int Try.underlying3 w1) (trodAll_cons_mk (shut_int Try.underlying3 w2) trodAll_mk0))), rfl, bel.frame _, fun h => by cases h⟩

theorem over : Rows.asciiTrimsRow.holds Try.pinned (OpenSpec.ofChange Rows.asciiTrimsSpec) :=
  OpenClaim.holds_of_wide 6 Try.f6 rfl rfl rfl rfl rfl rfl rfl ⟨rfl, rfl, rfl, rfl, rfl⟩ rfl rfl rfl rfl rfl (by kernel_rfl) Try.func6 (by kernel_rfl)
    (of_decide_eq_true (by kernel_rfl)) (by unfold Func.isWrapper; first | (rw [if_pos (by decide +kernel)]; kernel_rfl) | (rw [if_neg (by decide +kernel)]; exact ⟨rfl, rfl⟩))
    (fun os started H enc _ => lifted os started H enc)

end Go.Proofs.Ytecgdibpfbnfgaa.asciiTrims
namespace Go.Proofs.Ytecgdibpfbnfgaa
/-- The statement. -/
theorem asciiTrims_proved : Rows.AsciiTrimsSaid := asciiTrims.over
end Go.Proofs.Ytecgdibpfbnfgaa
