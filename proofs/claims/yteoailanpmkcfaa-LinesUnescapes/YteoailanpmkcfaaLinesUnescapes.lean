/-
  For every text s, cracknellaw06.LinesUnescapes(s) returns true and leaves it as it was. Conditions: none beyond the form's own (a string that is read takes at most 2^47 - 4096 bytes).
-/
import Derived.Test.YteoailanpmkcfaaLinesFacts
import Derived.ProofKit
import Derived.OpenShut
import Derived.ShutString
import Derived.ChangeOld
import Derived.SizedLaws
namespace Go.Proofs.Yteoailanpmkcfaa.linesUnescapes
open Go.ChangeShapes Go.WideShapes Go.ChangeAt Go.RowKit
open Go.ChangeMaps (open_string shut_string)
set_option linter.unusedVariables false

theorem own : ownKnob Try.prog.godebug = none := by kernel_rfl

/-- What a reading answers, and what writing it again gives. -/
theorem esc_read (s : ByteArray) : (∃ a, readV (unescL s.data.toList) = .tuple #[.string a, .bool true] ∧ escLB a.data.toList = s ∧ a.size ≤ s.size) ∨ readV (unescL s.data.toList) = .tuple #[.string ByteArray.empty, .bool false] := by
  cases h : unescL s.data.toList with
  | none => exact .inr rfl
  | some a =>
    obtain ⟨h1, h2⟩ := unesc_esc s a h
    exact .inl ⟨ofL a, rfl, h1, h2⟩
theorem pct_read (s : ByteArray) : (∃ a, readV (unpctL s.data.toList) = .tuple #[.string a, .bool true] ∧ ofL (pctL a.data.toList) = s ∧ a.size ≤ s.size) ∨ readV (unpctL s.data.toList) = .tuple #[.string ByteArray.empty, .bool false] := by
  cases h : unpctL s.data.toList with
  | none => exact .inr rfl
  | some a =>
    obtain ⟨h1, h2⟩ := unpct_pct s a h
    exact .inl ⟨ofL a, rfl, h1, h2⟩
theorem at_runescape {s : ByteArray} {x : Value} (w : World) (hs : s.size ≤ 140737488351232) (h : readV (unescL s.data.toList) = x) :
    Calls Try.prog 24 #[.string s] w fun e w' => e = .returned x ∧ Below w.heap.size w w' := h ▸ runescape_any s w hs
theorem at_runpercent {s : ByteArray} {x : Value} (w : World) (hs : s.size ≤ 1000000000000) (h : readV (unpctL s.data.toList) = x) :
    Calls Try.prog 26 #[.string s] w fun e w' => e = .returned x ∧ Below w.heap.size w w' := h ▸ runpercent_any s w hs
set_option maxRecDepth 100000 in
set_option maxHeartbeats 1600000 in
theorem walk (a0 : ByteArray) (w0 : a0.size ≤ 140737488351232) (w : World) :
    Calls Try.prog 8 #[.string a0] w fun e w' => e = .returned (.bool true) ∧ Below w.heap.size w w' := by
  by_cases h : 2000 < a0.size
  · go_enter Try.func8, Try.ntmps8
    go_wp2_with fail
    refine (alive_any _).mono ?_
    rintro _ w1 ⟨rfl, hb1⟩
    go_wp2
    go_ret
    exact ⟨rfl, hb1⟩
  · have s0 : a0.size ≤ 1000000000000 := by omega
    have s1 : a0.size ≤ 140737488351232 := by omega
    have hle : (a0.size : Int) ≤ 2000 := by omega
    clear h
    rcases esc_read a0 with ⟨A, hA, hAe, hAz⟩ | hA <;> rcases pct_read a0 with ⟨C, hC, hCe, hCz⟩ | hC
    all_goals
      have HA := Lib.hid hA
      have HC := Lib.hid hC
      clear hA hC
      (try have HAE := Lib.hid hAe; clear hAe)
      (try have HCE := Lib.hid hCe; clear hCe)
      go_enter Try.func8, Try.ntmps8
      go_wp2_with fail
      refine (at_unescape _ s0 HA.out).mono ?_
      rintro _ w1 ⟨rfl, hb1⟩
      go_wp2_with fail
      refine (at_runescape _ s1 HA.out).mono ?_
      rintro _ w2 ⟨rfl, hb⟩
      have hb2 := chain hb1 hb
      clear hb hb1 HA
      go_wp2_with fail
      refine (at_unpercent _ s0 HC.out).mono ?_
      rintro _ w1 ⟨rfl, hb⟩
      have hb1 := chain hb2 hb
      clear hb hb2
      go_wp2_with fail
      refine (at_runpercent _ s0 HC.out).mono ?_
      rintro _ w2 ⟨rfl, hb⟩
      have hb2 := chain hb1 hb
      clear hb hb1 HC
      go_wp2_with fail
      refine (alive_any _).mono ?_
      rintro _ w1 ⟨rfl, hb⟩
      have hb1 := chain hb2 hb
      clear hb hb2
    · go_wp2_with fail
      refine (at_escape (s := A) _ (by omega) HAE.out).mono ?_
      rintro _ w2 ⟨rfl, hb⟩
      have hb2 := chain hb1 hb
      clear hb hb1
      go_wp2_with fail
      refine (at_percent (s := C) _ (by omega) HCE.out).mono ?_
      rintro _ w1 ⟨rfl, hb⟩
      have hb1 := chain hb2 hb
      clear hb hb2
      go_wp2
      go_ret
      exact ⟨rfl, hb1⟩
    · go_wp2_with fail
      refine (at_escape (s := A) _ (by omega) HAE.out).mono ?_
      rintro _ w2 ⟨rfl, hb⟩
      have hb2 := chain hb1 hb
      clear hb hb1
      go_wp2
      go_ret
      exact ⟨rfl, hb2⟩
    · go_wp2_with fail
      refine (at_percent (s := C) _ (by omega) HCE.out).mono ?_
      rintro _ w2 ⟨rfl, hb⟩
      have hb2 := chain hb1 hb
      clear hb hb1
      go_wp2
      go_ret
      exact ⟨rfl, hb2⟩
    · go_wp2
      go_ret
      exact ⟨rfl, hb1⟩

set_option maxRecDepth 100000 in
theorem lifted (os : Os) (started : os.Started) (H : Type) (enc : TypeId × Value → H) :
    ReturnsInHanded {} Try.checked os 8 .any (Rows.linesUnescapesSpec.pre6 enc Try.prog Try.f8 Rows.linesUnescapesRow.domain false) (Rows.linesUnescapesSpec.post enc Try.prog Try.f8 false true false false) := by
  refine returnsInHanded_of_change_sized (C := Try.checked) own started (by kernel_rfl) Try.func8
    (ChangeSpec.witness6 (enc := enc) (C := Try.checked) false ⟨#[], #[.string ByteArray.empty], []⟩ 8 (by kernel_rfl) (by kernel_rfl) (by kernel_rfl) (by kernel_rfl)) ?_
  intro W base args ds gs before hval0 hW hcnd hsz0 _
  have hval : ∀ (j : Nat) t v, Try.f8.params[j]? = some t → args[j]? = some v → Value.okWide Try.prog W .any base t v := hval0
  have hsz : (DataW.weightsEach Try.prog (Try.f8.params.toList ++ Rows.linesUnescapesSpec.plain.varTypes Try.prog) (ds ++ gs)).all (· ≤ reachBytes) = true := hsz0
  have hW' := hW
  obtain ⟨p, q, hA0, hV, rfl, hfz, hnd⟩ := hW
  have hA : DataW.TrodAll enc Try.prog W 0 (fun _ => true) true Try.f8.params.toList args.toList ds p := hA0
  rw [Try.params8] at hA hval hsz
  obtain ⟨v0, vs0, d0, ds0, p0, q0, hargs, rfl, rfl, h0, r0⟩ := trodAll_cons hA
  obtain ⟨rfl, rfl, rfl⟩ := trodAll_nil r0
  obtain rfl : args = #[v0] := by cases args; simp_all
  obtain ⟨rfl, rfl⟩ := trodVars_none hV
  obtain ⟨a0, rfl, rfl, rfl, m0⟩ := open_string Try.underlying9 (hval 0 9 v0 rfl rfl) h0
  have w0 : a0.size ≤ 140737488351232 := by
    have h := sized_string hsz (j := 0) (t := 9) rfl rfl
    have e : a0.data.toList.length = a0.size := by simp
    unfold reachBytes at h
    omega
  clear hA0 hval0 hsz hsz0
  refine (walk a0 w0 W).mono fun e W' ⟨he, bel⟩ => ?_
  subst he
  exact ⟨_, rfl, _, _, _, [], _, [], hW', trodAll_mk1 (shut_bool Try.underlying4 _), (trodAll_cons_mk (shut_string Try.underlying9 m0) trodAll_mk0), rfl, bel.frame _, fun h => by cases h⟩

theorem over : Rows.linesUnescapesRow.holds Try.pinned (OpenSpec.ofChange Rows.linesUnescapesSpec) :=
  OpenClaim.holds_of_wide 8 Try.f8 rfl rfl rfl rfl rfl rfl rfl ⟨rfl, rfl, rfl, rfl, rfl⟩ rfl rfl rfl rfl rfl (by kernel_rfl) Try.func8 (by kernel_rfl)
    (of_decide_eq_true (by kernel_rfl)) (by unfold Func.isWrapper; first | (rw [if_pos (by decide +kernel)]; kernel_rfl) | (rw [if_neg (by decide +kernel)]; exact ⟨rfl, rfl⟩))
    (fun os started H enc _ => lifted os started H enc)

end Go.Proofs.Yteoailanpmkcfaa.linesUnescapes
namespace Go.Proofs.Yteoailanpmkcfaa
/-- The statement. -/
theorem linesUnescapes_proved : Rows.LinesUnescapesSaid := linesUnescapes.over
end Go.Proofs.Yteoailanpmkcfaa
