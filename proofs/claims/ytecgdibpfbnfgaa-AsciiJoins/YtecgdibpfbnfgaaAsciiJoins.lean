/-
  For all texts a and b, cracknellaw01.AsciiJoins(a, b) returns true and leaves them as they were. Conditions: none beyond the form's own (a string that is read takes at most 2^47 - 4096 bytes).
-/
import Derived.Test.YtecgdibpfbnfgaaAlive
import Derived.ProofKit
import Derived.OpenShut
import Derived.ShutString
import Derived.ChangeOld
import Derived.SizedLaws
namespace Go.Proofs.Ytecgdibpfbnfgaa.asciiJoins
open Go.ChangeShapes Go.WideShapes Go.ChangeAt Go.RowKit
open Go.ChangeMaps (open_string shut_string)
set_option linter.unusedVariables false

theorem own : ownKnob Try.prog.godebug = none := by kernel_rfl

theorem app_list (a b : ByteArray) : (a ++ b).data.toList = a.data.toList ++ b.data.toList := by
  rw [ByteArray.data_append, Array.toList_append]

theorem allB_app (p : Int → Bool) (a b : ByteArray) : allB p (a ++ b) = (allB p a && allB p b) := by
  unfold allB
  rw [app_list, List.all_append]

theorem lowB_app (a b : ByteArray) : lowB (a ++ b) = lowB a ++ lowB b := by
  apply ba_ext
  rw [app_list]
  show ((a ++ b).data.toList.map lowC).toArray.toList = (a.data.toList.map lowC).toArray.toList ++ (b.data.toList.map lowC).toArray.toList
  rw [app_list]
  simp

theorem tokenB_app (a b : ByteArray) (ha : tokenB a = true) (hb : tokenB b = true) : tokenB (a ++ b) = true := by
  unfold tokenB at *
  rw [Bool.and_eq_true] at *
  refine ⟨?_, by rw [allB_app, ha.2, hb.2]; rfl⟩
  have h := ha.1
  rw [ByteArray.toList_eq] at h ⊢
  rw [app_list]
  cases hl : a.data.toList with
  | nil => rw [hl] at h; simp at h
  | cons c r => rfl

set_option maxHeartbeats 1600000 in
theorem walk (a0 : ByteArray) (a1 : ByteArray) (w0 : a0.size ≤ 140737488351232) (w1 : a1.size ≤ 140737488351232) (w : World) :
    Calls Try.prog 8 #[.string a0, .string a1] w fun e w' => e = .returned (.bool true) ∧ Below w.heap.size w w' := by
  have hm0 : a0.size ≤ maxLen := by unfold maxLen; omega
  have hm1 : a1.size ≤ maxLen := by unfold maxLen; omega
  have hsz : (a0 ++ a1).size ≤ 281474976710656 := by rw [ByteArray.size_append]; omega
  have hms : (a0 ++ a1).size ≤ maxLen := by unfold maxLen; omega
  have ho := allB_app (inSpans octL) a0 a1
  have hp := allB_app (inSpans plainL) a0 a1
  have hl := Lib.hid (lowB_app a0 a1)
  have ht := tokenB_app a0 a1
  have hls : (lowB a0).size + (lowB a1).size ≤ 9223372036854775807 := by rw [lowB_size, lowB_size]; omega
  generalize hO1 : allB (inSpans octL) a0 = o1 at *
  generalize hO2 : allB (inSpans octL) a1 = o2 at *
  generalize hP1 : allB (inSpans plainL) a0 = p1 at *
  generalize hP2 : allB (inSpans plainL) a1 = p2 at *
  generalize hT1 : tokenB a0 = t1 at *
  generalize hT2 : tokenB a1 = t2 at *
  generalize hTs : tokenB (a0 ++ a1) = ts at *
  have HO1 := Lib.hid hO1
  have HO2 := Lib.hid hO2
  have HP1 := Lib.hid hP1
  have HP2 := Lib.hid hP2
  have HT1 := Lib.hid hT1
  have HT2 := Lib.hid hT2
  have HTs := Lib.hid hTs
  clear hO1 hO2 hP1 hP2 hT1 hT2 hTs
  have htk : t1 = false ∨ (t1 = true ∧ t2 = false) ∨ (t1 = true ∧ t2 = true ∧ ts = true) := by
    cases t1 <;> cases t2 <;> simp_all
  clear ht
  cases o1 <;> cases p1 <;> rcases htk with rfl | ⟨rfl, rfl⟩ | ⟨rfl, rfl, rfl⟩
  all_goals
    have HO := Lib.hid ho
    have HP := Lib.hid hp
    clear ho hp
    have hq0 : Below w.heap.size w w := Below.refl _ _
    go_enter Try.func8, Try.ntmps8
    go_wp2_with (first
      | (go_at_call 10; ((with_reducible refine (alive_any _).mono ?_); rintro _ _ ⟨rfl, hb⟩; have hq := chain (w := w) (by assumption) hb; clear hb))
      | (go_at_call 15; ((with_reducible refine (at_octets _ hms HO.out).mono ?_); rintro _ _ ⟨rfl, hb⟩; have hq := chain (w := w) (by assumption) hb; clear hb))
      | (go_at_call 15; ((with_reducible refine (at_octets _ hm0 HO1.out).mono ?_); rintro _ _ ⟨rfl, hb⟩; have hq := chain (w := w) (by assumption) hb; clear hb))
      | (go_at_call 15; ((with_reducible refine (at_octets _ hm1 HO2.out).mono ?_); rintro _ _ ⟨rfl, hb⟩; have hq := chain (w := w) (by assumption) hb; clear hb))
      | (go_at_call 17; ((with_reducible refine (at_plain _ hms HP.out).mono ?_); rintro _ _ ⟨rfl, hb⟩; have hq := chain (w := w) (by assumption) hb; clear hb))
      | (go_at_call 17; ((with_reducible refine (at_plain _ hm0 HP1.out).mono ?_); rintro _ _ ⟨rfl, hb⟩; have hq := chain (w := w) (by assumption) hb; clear hb))
      | (go_at_call 17; ((with_reducible refine (at_plain _ hm1 HP2.out).mono ?_); rintro _ _ ⟨rfl, hb⟩; have hq := chain (w := w) (by assumption) hb; clear hb))
      | (go_at_call 13; ((with_reducible refine (at_token _ hms HTs.out).mono ?_); rintro _ _ ⟨rfl, hb⟩; have hq := chain (w := w) (by assumption) hb; clear hb))
      | (go_at_call 13; ((with_reducible refine (at_token _ hm0 HT1.out).mono ?_); rintro _ _ ⟨rfl, hb⟩; have hq := chain (w := w) (by assumption) hb; clear hb))
      | (go_at_call 13; ((with_reducible refine (at_token _ hm1 HT2.out).mono ?_); rintro _ _ ⟨rfl, hb⟩; have hq := chain (w := w) (by assumption) hb; clear hb))
      | (go_at_call 9; ((with_reducible refine (at_lower _ hsz hl.out).mono ?_); rintro _ _ ⟨rfl, hb⟩; have hq := chain (w := w) (by assumption) hb; clear hb))
      | (go_at_call 9; ((with_reducible refine (lower_any a0 _ (by omega)).mono ?_); rintro _ _ ⟨rfl, hb⟩; have hq := chain (w := w) (by assumption) hb; clear hb))
      | (go_at_call 9; ((with_reducible refine (lower_any a1 _ (by omega)).mono ?_); rintro _ _ ⟨rfl, hb⟩; have hq := chain (w := w) (by assumption) hb; clear hb)))
    go_ret
    exact ⟨rfl, by assumption⟩

set_option maxRecDepth 100000 in
theorem lifted (os : Os) (started : os.Started) (H : Type) (enc : TypeId × Value → H) :
    ReturnsInHanded {} Try.checked os 8 .any (Rows.asciiJoinsSpec.pre6 enc Try.prog Try.f8 Rows.asciiJoinsRow.domain false) (Rows.asciiJoinsSpec.post enc Try.prog Try.f8 false true false false) := by
  refine returnsInHanded_of_change_sized (C := Try.checked) own started (by kernel_rfl) Try.func8
    (ChangeSpec.witness6 (enc := enc) (C := Try.checked) false ⟨#[], #[.string ByteArray.empty, .string ByteArray.empty], []⟩ 8 (by kernel_rfl) (by kernel_rfl) (by kernel_rfl) (by kernel_rfl)) ?_
  intro W base args ds gs before hval0 hW hcnd hsz0 _
  have hval : ∀ (j : Nat) t v, Try.f8.params[j]? = some t → args[j]? = some v → Value.okWide Try.prog W .any base t v := hval0
  have hsz : (DataW.weightsEach Try.prog (Try.f8.params.toList ++ Rows.asciiJoinsSpec.plain.varTypes Try.prog) (ds ++ gs)).all (· ≤ reachBytes) = true := hsz0
  have hW' := hW
  obtain ⟨p, q, hA0, hV, rfl, hfz, hnd⟩ := hW
  have hA : DataW.TrodAll enc Try.prog W 0 (fun _ => true) true Try.f8.params.toList args.toList ds p := hA0
  rw [Try.params8] at hA hval hsz
  obtain ⟨v0, vs0, d0, ds0, p0, q0, hargs, rfl, rfl, h0, r0⟩ := trodAll_cons hA
  obtain ⟨v1, vs1, d1, ds1, p1, q1, rfl, rfl, rfl, h1, r1⟩ := trodAll_cons r0
  obtain ⟨rfl, rfl, rfl⟩ := trodAll_nil r1
  obtain rfl : args = #[v0, v1] := by cases args; simp_all
  obtain ⟨rfl, rfl⟩ := trodVars_none hV
  obtain ⟨a0, rfl, rfl, rfl, m0⟩ := open_string Try.underlying9 (hval 0 9 v0 rfl rfl) h0
  obtain ⟨a1, rfl, rfl, rfl, m1⟩ := open_string Try.underlying9 (hval 1 9 v1 rfl rfl) h1
  have w0 : a0.size ≤ 140737488351232 := by
    have h := sized_string hsz (j := 0) (t := 9) rfl rfl
    have e : a0.data.toList.length = a0.size := by simp
    unfold reachBytes at h
    omega
  have w1 : a1.size ≤ 140737488351232 := by
    have h := sized_string hsz (j := 1) (t := 9) rfl rfl
    have e : a1.data.toList.length = a1.size := by simp
    unfold reachBytes at h
    omega
  clear hA0 hval0 hsz hsz0
  refine (walk a0 a1 w0 w1 W).mono fun e W' ⟨he, bel⟩ => ?_
  subst he
  exact ⟨_, rfl, _, _, _, [], _, [], hW', trodAll_mk1 (shut_bool Try.underlying4 _), (trodAll_cons_mk (shut_string Try.underlying9 m0) (trodAll_cons_mk (shut_string Try.underlying9 m1) trodAll_mk0)), rfl, bel.frame _, fun h => by cases h⟩

theorem over : Rows.asciiJoinsRow.holds Try.pinned (OpenSpec.ofChange Rows.asciiJoinsSpec) :=
  OpenClaim.holds_of_wide 8 Try.f8 rfl rfl rfl rfl rfl rfl rfl ⟨rfl, rfl, rfl, rfl, rfl⟩ rfl rfl rfl rfl rfl (by kernel_rfl) Try.func8 (by kernel_rfl)
    (of_decide_eq_true (by kernel_rfl)) (by unfold Func.isWrapper; first | (rw [if_pos (by decide +kernel)]; kernel_rfl) | (rw [if_neg (by decide +kernel)]; exact ⟨rfl, rfl⟩))
    (fun os started H enc _ => lifted os started H enc)

end Go.Proofs.Ytecgdibpfbnfgaa.asciiJoins
namespace Go.Proofs.Ytecgdibpfbnfgaa
/-- The statement. -/
theorem asciiJoins_proved : Rows.AsciiJoinsSaid := asciiJoins.over
end Go.Proofs.Ytecgdibpfbnfgaa
