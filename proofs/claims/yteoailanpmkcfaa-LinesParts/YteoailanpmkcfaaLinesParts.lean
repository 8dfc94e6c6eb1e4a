/-
  For all texts s and t, cracknellaw06.LinesParts(s, t) returns true and leaves them as they were. Conditions: none beyond the form's own (a string that is read takes at most 2^47 - 4096 bytes).
-/
import Derived.Test.YteoailanpmkcfaaLinesFacts
import Derived.ProofKit
import Derived.OpenShut
import Derived.ShutString
import Derived.ChangeOld
import Derived.SizedLaws
namespace Go.Proofs.Yteoailanpmkcfaa.linesParts
open Go.ChangeShapes Go.WideShapes Go.ChangeAt Go.RowKit
open Go.ChangeMaps (open_string shut_string)
set_option linter.unusedVariables false

theorem own : ownKnob Try.prog.godebug = none := by kernel_rfl

/-- An append whose run is known, in a region that draws. -/
theorem step_append_run {P : Program} {w : World} {ops : Array Oper} {o : Oper} {a : Act} {K : Act → World → Prop} {Q : Exit → Act → World → Prop} {E : Prop} (hw : Region.wanted o (yielded ops a.tmps) = true) (s x : Operand) (t : TypeId)
    (ho : o.op = .call { callee := .builtin .append, args := #[s, x], argTypes := #[t, t] }) {v1 v2 v' : Value} {w' : World} (hs : a.eval s = v1) (hx : a.eval x = v2)
    (hrun : (Builtin.append_ #[t, t] o.type #[v1, v2]).run P w = .ok v' w') (h : K (a.put o.dst v') w') : if Region.wanted o (yielded ops a.tmps) = true then Oper.wp P o a w K Q else E := by
  rw [if_pos hw]
  unfold Oper.wp
  simp [execOp, ho, resolve, invoke, builtin, hs, hx, hrun, Result.andThen]
  exact h
set_option maxRecDepth 100000 in
set_option maxHeartbeats 1600000 in
theorem walk (a0 : ByteArray) (a1 : ByteArray) (w0 : a0.size ≤ 140737488351232) (w1 : a1.size ≤ 140737488351232) (w : World) :
    Calls Try.prog 10 #[.string a0, .string a1] w fun e w' => e = .returned (.bool true) ∧ Below w.heap.size w w' := by
  by_cases hbig : 1000 < a0.size ∨ 1000 < a1.size
  · rcases (show 1000 < a0.size ∨ (a0.size ≤ 1000 ∧ 1000 < a1.size) from by omega) with h | ⟨h, h'⟩
    all_goals
      clear hbig
      go_enter Try.func10, Try.ntmps10
      go_wp2_with fail
      refine (alive_any _).mono ?_
      rintro _ w1 ⟨rfl, hb1⟩
      go_wp2
      go_ret
      exact ⟨rfl, hb1⟩
  · have z0 : a0.size ≤ 1000 := by omega
    have z1 : a1.size ≤ 1000 := by omega
    clear hbig
    have e1 : (⟨#[10]⟩ : ByteArray).size = 1 := rfl
    have s0 : (a0 ++ ⟨#[10]⟩).size ≤ 1000000000000 := by rw [ByteArray.size_append, e1]; omega
    have s1 : a1.size ≤ 1000000000000 := by omega
    have s2 : (a0 ++ ⟨#[10]⟩ ++ a1).size ≤ 1000000000000 := by rw [ByteArray.size_append, ByteArray.size_append, e1]; omega
    have y0 : a0.size + 1 ≤ 9223372036854775807 := by omega
    have y1 : a0.size + 1 + a1.size ≤ 9223372036854775807 := by omega
    have hJ := parts_lines a0 a1
    have h0 := parts_some a0
    have cA := lines_count (a0 ++ ⟨#[10]⟩)
    have cB := lines_count a1
    rw [ByteArray.size_append, e1] at cA
    obtain ⟨A, hA⟩ : ∃ A, ofLs (linesL (a0 ++ ⟨#[10]⟩).data.toList) = A := ⟨_, rfl⟩
    obtain ⟨B, hB⟩ : ∃ B, ofLs (linesL a1.data.toList) = B := ⟨_, rfl⟩
    rw [hA] at hJ h0 cA
    rw [hB] at hJ cB
    have HA := Lib.hid hA
    have HB := Lib.hid hB
    have HJ := Lib.hid hJ
    have hz : (A.length + B.length) * 16 ≤ 140737488355328 := by omega
    have hlAB : (A ++ B).length ≤ 1000000000000 := by rw [List.length_append]; omega
    have HZ := Lib.hid hz
    have HLAB := Lib.hid hlAB
    clear hA hB hJ cA cB e1 hz hlAB
    go_enter Try.func10, Try.ntmps10
    go_wp2_with fail
    with_reducible refine (at_split (s := a0 ++ ⟨#[10]⟩) _ s0 HA.out).mono ?_
    rintro _ w1 ⟨⟨v, rfl, hv⟩, hb1⟩
    have HV := Lib.hid hv
    clear hv HA
    go_wp2_with fail
    refine (at_split _ s1 HB.out).mono ?_
    rintro _ w2 ⟨⟨u, rfl, hu⟩, hb⟩
    have HV2 := Lib.hid ((HV.out.keep hb).keep (Below.refl _ _).drew)
    have HU := Lib.hid (hu.keep (Below.refl _ _).drew)
    have hb2 := (chain hb1 hb).drew
    clear hb hb1 HV HB hu
    obtain ⟨ad, cap, rfl, hcap⟩ : ∃ ad cap, v = .slice (some ad) A.length cap ∧ A.length ≤ cap := by
      rcases HV2.out with ⟨_, h⟩ | ⟨ad, cap, h, h2, _⟩
      · rw [h] at h0
        exact absurd h0 (by simp)
      · exact ⟨ad, cap, h, h2⟩
    obtain ⟨n, hn⟩ : ∃ n, n = A.length := ⟨_, rfl⟩
    rw [← hn] at hcap h0 HV2 ⊢
    have HN := Lib.hid hn
    have hcapI : (n : Int) ≤ (cap : Int) := by omega
    have h0I : (0 : Int) < (n : Int) := by omega
    clear hn
    have happ : ∀ W : World, StrsAt W (.slice (some ad) n cap) A → StrsAt W u B → ∃ v' w', (Builtin.append_ #[23, 23] 23 #[.slice (some ad) n n, u]).run Try.prog W = .ok v' w' ∧ StrsAt w' v' (A ++ B) ∧ Below W.heap.size W w' := by
      intro W h1 h2
      refine append_strs W 23 (some ad) n (fun h => by cases h) u A B HN.out (fun b hb => ?_) h2 HZ.out
      rcases h1 with ⟨h, _⟩ | ⟨ad', cap', h, _, hc⟩
      · cases h
      · cases h
        cases hb
        exact hc
    have HAPP := Lib.hid happ
    clear happ
    have hadd1 := fun w => run_string_add_sum (P := Try.prog) w a0 ⟨#[10]⟩ (by rw [show (⟨#[10]⟩ : ByteArray).size = 1 from rfl]; omega)
    have hadd2 := fun w => run_string_add_sum (P := Try.prog) w (a0 ++ ⟨#[10]⟩) a1 (by rw [ByteArray.size_append, show (⟨#[10]⟩ : ByteArray).size = 1 from rfl]; omega)
    go_wp2_with fail
    go_region_held3 (fun _ => True) (first | trivial) (first
      | (go_at_call 11; refine (alive_any _).mono ?_; rintro _ w3 ⟨rfl, hb3⟩)
      | (go_at_call 12; with_reducible refine (at_split (s := a0 ++ ⟨#[10]⟩ ++ a1) _ s2 HJ.out).mono ?_; rintro _ w4 ⟨⟨x, rfl, hx⟩, hb4⟩)
      | (obtain ⟨v', w5, hrun, hres, hb5⟩ := HAPP.out w4 ((HV2.out.keep hb3).keep hb4) ((HU.out.keep hb3).keep hb4); refine step_append_run (by rfl) _ _ 23 (by rfl) (by rfl) (by rfl) hrun ?_)
      | (go_at_call 13; refine (rsame_any _ _ (A ++ B) (A ++ B) _ (hx.keep hb5) hres HLAB.out HLAB.out).mono ?_; rintro _ w6 ⟨rfl, hb6⟩; rw [show decide (A ++ B = A ++ B) = true by simp]))
    all_goals
      have hb7 := chain (chain (chain (chain hb2 hb3) hb4) hb5) hb6
      go_wp2
      go_ret
      exact ⟨rfl, hb7⟩

set_option maxRecDepth 100000 in
theorem lifted (os : Os) (started : os.Started) (H : Type) (enc : TypeId × Value → H) :
    ReturnsInHanded {} Try.checked os 10 .any (Rows.linesPartsSpec.pre6 enc Try.prog Try.f10 Rows.linesPartsRow.domain false) (Rows.linesPartsSpec.post enc Try.prog Try.f10 false true false false) := by
  refine returnsInHanded_of_change_sized (C := Try.checked) own started (by kernel_rfl) Try.func10
    (ChangeSpec.witness6 (enc := enc) (C := Try.checked) false ⟨#[], #[.string ByteArray.empty, .string ByteArray.empty], []⟩ 8 (by kernel_rfl) (by kernel_rfl) (by kernel_rfl) (by kernel_rfl)) ?_
  intro W base args ds gs before hval0 hW hcnd hsz0 _
  have hval : ∀ (j : Nat) t v, Try.f10.params[j]? = some t → args[j]? = some v → Value.okWide Try.prog W .any base t v := hval0
  have hsz : (DataW.weightsEach Try.prog (Try.f10.params.toList ++ Rows.linesPartsSpec.plain.varTypes Try.prog) (ds ++ gs)).all (· ≤ reachBytes) = true := hsz0
  have hW' := hW
  obtain ⟨p, q, hA0, hV, rfl, hfz, hnd⟩ := hW
  have hA : DataW.TrodAll enc Try.prog W 0 (fun _ => true) true Try.f10.params.toList args.toList ds p := hA0
  rw [Try.params10] at hA hval hsz
  obtain ⟨v0, vs0, d0, ds0, p0, q0, hargs, rfl, rfl, h0, r0⟩ := trodAll_cons hA
  obtain ⟨v1, vs1, d1, ds1, p1, q1, rfl, rfl, rfl, h1, r1⟩ := trodAll_cons r0
  obtain ⟨rfl, rfl, rfl⟩ := trodAll_nil r1
  obtain rfl : args = #[v0, v1] := by cases args; simp_all
  obtain ⟨rfl, rfl⟩ := trodVars_none hV
  obtain ⟨a0, rfl, rfl, rfl, m0⟩ := open_string Try.underlying9 (hval 0 9 v0 rfl rfl) h0
  obtain ⟨a1, rfl, rfl, rfl, m1⟩ := open_string Try.underlying9 (hval 1 9 v1 rfl rfl) h1
  have w0 : a0.size ≤ 140737488351232 := by
    have h := sized_string hsz (j := 0) (t := 9) rfl rfl
    have e : a0.data.toList.length = a0.size := by simp
    unfold reachBytes at h
    omega
  have w1 : a1.size ≤ 140737488351232 := by
    have h := sized_string hsz (j := 1) (t := 9) rfl rfl
    have e : a1.data.toList.length = a1.size := by simp
    unfold reachBytes at h
    omega
  clear hA0 hval0 hsz hsz0
  refine (walk a0 a1 w0 w1 W).mono fun e W' ⟨he, bel⟩ => ?_
  subst he
  exact ⟨_, rfl, _, _, _, [], _, [], hW', trodAll_mk1 (shut_bool Try.underlying4 _), (trodAll_cons_mk (shut_string Try.underlying9 m0) (trodAll_cons_mk (shut_string Try.underlying9 m1) trodAll_mk0)), rfl, bel.frame _, fun h => by cases h⟩

theorem over : Rows.linesPartsRow.holds Try.pinned (OpenSpec.ofChange Rows.linesPartsSpec) :=
  OpenClaim.holds_of_wide 10 Try.f10 rfl rfl rfl rfl rfl rfl rfl ⟨rfl, rfl, rfl, rfl, rfl⟩ rfl rfl rfl rfl rfl (by kernel_rfl) Try.func10 (by kernel_rfl)
    (of_decide_eq_true (by kernel_rfl)) (by unfold Func.isWrapper; first | (rw [if_pos (by decide +kernel)]; kernel_rfl) | (rw [if_neg (by decide +kernel)]; exact ⟨rfl, rfl⟩))
    (fun os started H enc _ => lifted os started H enc)

end Go.Proofs.Yteoailanpmkcfaa.linesParts
namespace Go.Proofs.Yteoailanpmkcfaa
/-- The statement. -/
theorem linesParts_proved : Rows.LinesPartsSaid := linesParts.over
end Go.Proofs.Yteoailanpmkcfaa
