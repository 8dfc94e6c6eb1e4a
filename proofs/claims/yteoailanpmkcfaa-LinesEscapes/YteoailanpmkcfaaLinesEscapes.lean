/-
  For every text s, cracknellaw06.LinesEscapes(s) returns true and leaves it as it was. Conditions: none beyond the form's own (a string that is read takes at most 2^47 - 4096 bytes).
-/
import Derived.Test.YteoailanpmkcfaaLinesFacts
import Derived.ProofKit
import Derived.OpenShut
import Derived.ShutString
import Derived.ChangeOld
import Derived.SizedLaws
namespace Go.Proofs.Yteoailanpmkcfaa.linesEscapes
open Go.ChangeShapes Go.WideShapes Go.ChangeAt Go.RowKit
open Go.ChangeMaps (open_string shut_string)
set_option linter.unusedVariables false

theorem own : ownKnob Try.prog.godebug = none := by kernel_rfl

set_option maxRecDepth 100000 in
set_option maxHeartbeats 1600000 in
theorem walk (a0 : ByteArray) (w0 : a0.size ≤ 140737488351232) (w : World) :
    Calls Try.prog 7 #[.string a0] w fun e w' => e = .returned (.bool true) ∧ Below w.heap.size w w' := by
  by_cases h : 2000 < a0.size
  · go_enter Try.func7, Try.ntmps7
    go_wp2_with fail
    refine (alive_any _).mono ?_
    rintro _ w1 ⟨rfl, hb1⟩
    go_wp2
    go_ret
    exact ⟨rfl, hb1⟩
  · have s0 : a0.size ≤ 1000000000000 := by omega
    have s1 : a0.size ≤ 140737488351232 := by omega
    have hle : (a0.size : Int) ≤ 2000 := by omega
    have HB := Lib.hid (esc_back a0)
    have hl := esc_lines a0
    have ht := esc_tabs a0
    obtain ⟨T, hT⟩ : ∃ T, escLB a0.data.toList = T := ⟨_, rfl⟩
    have hz : T.size ≤ 1000000000000 := by
      have := escLB_size a0.data.toList
      rw [list_len, hT] at this
      omega
    rw [hT] at HB hl ht
    have HT := Lib.hid hT
    have HL := Lib.hid hl
    have HN := Lib.hid ht
    clear hT hl ht h
    go_enter Try.func7, Try.ntmps7
    go_wp2_with fail
    refine (at_escape _ s0 HT.out).mono ?_
    rintro _ w1 ⟨rfl, hb1⟩
    go_wp2_with fail
    refine (at_unescape _ hz HB.out).mono ?_
    rintro _ w2 ⟨rfl, hb⟩
    have hb2 := chain hb1 hb
    clear hb hb1 HB
    go_wp2_with fail
    refine (split_any T _ hz).mono ?_
    rintro _ w1 ⟨⟨v, rfl, hv⟩, hb⟩
    have hb1 := chain hb2 hb
    clear hb hb2
    obtain ⟨ao, n, cap, rfl, hn, _⟩ := hv.shape
    have hn1 : (n : Int) ≤ 1 := by
      have := HL.out
      omega
    clear hv hn HL
    go_wp2_with fail
    refine (alive_any _).mono ?_
    rintro _ w2 ⟨rfl, hb⟩
    have hb2 := chain hb1 hb
    clear hb hb1
    go_wp2_with fail
    refine (rescape_any a0 _ s1).mono ?_
    rintro _ w1 ⟨rfl, hb⟩
    have hb1 := chain hb2 hb
    clear hb hb2
    rw [HT.out]
    clear HT
    go_wp2_with fail
    refine (tabs_any T _ hz).mono ?_
    rintro _ w2 ⟨⟨u, rfl, hu⟩, hb⟩
    have hb2 := chain hb1 hb
    clear hb hb1
    obtain ⟨ao2, n2, cap2, rfl, hn2, _⟩ := hu.shape
    have hn3 : n2 = 1 := by rw [hn2]; exact HN.out
    subst hn3
    clear hu hn2 HN
    go_wp2
    go_ret
    exact ⟨rfl, hb2⟩

set_option maxRecDepth 100000 in
theorem lifted (os : Os) (started : os.Started) (H : Type) (enc : TypeId × Value → H) :
    ReturnsInHanded {} Try.checked os 7 .any (Rows.linesEscapesSpec.pre6 enc Try.prog Try.f7 Rows.linesEscapesRow.domain false) (Rows.linesEscapesSpec.post enc Try.prog Try.f7 false true false false) := by
  refine returnsInHanded_of_change_sized (C := Try.checked) own started (by kernel_rfl) Try.func7
    (ChangeSpec.witness6 (enc := enc) (C := Try.checked) false ⟨#[], #[.string ByteArray.empty], []⟩ 8 (by kernel_rfl) (by kernel_rfl) (by kernel_rfl) (by kernel_rfl)) ?_
  intro W base args ds gs before hval0 hW hcnd hsz0 _
  have hval : ∀ (j : Nat) t v, Try.f7.params[j]? = some t → args[j]? = some v → Value.okWide Try.prog W .any base t v := hval0
  have hsz : (DataW.weightsEach Try.prog (Try.f7.params.toList ++ Rows.linesEscapesSpec.plain.varTypes Try.prog) (ds ++ gs)).all (· ≤ reachBytes) = true := hsz0
  have hW' := hW
  obtain ⟨p, q, hA0, hV, rfl, hfz, hnd⟩ := hW
  have hA : DataW.TrodAll enc Try.prog W 0 (fun _ => true) true Try.f7.params.toList args.toList ds p := hA0
  rw [Try.params7] at hA hval hsz
  obtain ⟨v0, vs0, d0, ds0, p0, q0, hargs, rfl, rfl, h0, r0⟩ := trodAll_cons hA
  obtain ⟨rfl, rfl, rfl⟩ := trodAll_nil r0
  obtain rfl : args = #[v0] := by cases args; simp_all
  obtain ⟨rfl, rfl⟩ := trodVars_none hV
  obtain ⟨a0, rfl, rfl, rfl, m0⟩ := open_string Try.underlying9 (hval 0 9 v0 rfl rfl) h0
  have w0 : a0.size ≤ 140737488351232 := by
    have h := sized_string hsz (j := 0) (t := 9) rfl rfl
    have e : a0.data.toList.length = a0.size := by simp
    unfold reachBytes at h
    omega
  clear hA0 hval0 hsz hsz0
  refine (walk a0 w0 W).mono fun e W' ⟨he, bel⟩ => ?_
  subst he
  exact ⟨_, rfl, _, _, _, [], _, [], hW', trodAll_mk1 (shut_bool Try.underlying4 _), (trodAll_cons_mk (shut_string Try.underlying9 m0) trodAll_mk0), rfl, bel.frame _, fun h => by cases h⟩

theorem over : Rows.linesEscapesRow.holds Try.pinned (OpenSpec.ofChange Rows.linesEscapesSpec) :=
  OpenClaim.holds_of_wide 7 Try.f7 rfl rfl rfl rfl rfl rfl rfl ⟨rfl, rfl, rfl, rfl, rfl⟩ rfl rfl rfl rfl rfl (by kernel_rfl) Try.func7 (by kernel_rfl)
    (of_decide_eq_true (by kernel_rfl)) (by unfold Func.isWrapper; first | (rw [if_pos (by decide +kernel)]; kernel_rfl) | (rw [if_neg (by decide +kernel)]; exact ⟨rfl, rfl⟩))
    (fun os started H enc _ => lifted os started H enc)

end Go.Proofs.Yteoailanpmkcfaa.linesEscapes
namespace Go.Proofs.Yteoailanpmkcfaa
/-- The statement. -/
theorem linesEscapes_proved : Rows.LinesEscapesSaid := linesEscapes.over
end Go.Proofs.Yteoailanpmkcfaa
