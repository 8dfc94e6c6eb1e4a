/-
  For every text s, cracknellaw06.LinesSplits(s) returns true and leaves it as it was. Conditions: none beyond the form's own (a string that is read takes at most 2^47 - 4096 bytes).
-/
import Derived.Test.YteoailanpmkcfaaLinesFacts
import Derived.ProofKit
import Derived.OpenShut
import Derived.ShutString
import Derived.ChangeOld
import Derived.SizedLaws
namespace Go.Proofs.Yteoailanpmkcfaa.linesSplits
open Go.ChangeShapes Go.WideShapes Go.ChangeAt Go.RowKit
open Go.ChangeMaps (open_string shut_string)
set_option linter.unusedVariables false

theorem own : ownKnob Try.prog.godebug = none := by kernel_rfl

theorem at_rsplit {s : ByteArray} {l : List ByteArray} (w : World) (hs : s.size ≤ 1000000000000) (h : ofLs (linesL s.data.toList) = l) :
    Calls Try.prog 14 #[.string s] w fun e w' => (∃ v, e = .returned v ∧ StrsAt w' v l) ∧ Below w.heap.size w w' := h ▸ rsplit_any s w hs
theorem join_or (l : List ByteArray) (hl : l.length ≤ 10000) (hs : ∀ s ∈ l, s.size ≤ 1000000) : (∃ t, joinV l = .tuple #[.string t, .bool true] ∧ ofLs (linesL t.data.toList) = l ∧ t.size ≤ 1000000000000) ∨ joinV l = .tuple #[.string ByteArray.empty, .bool false] := by
  rcases join_cases l with ⟨h1, h2⟩ | h
  · have := joinB_size l hs
    exact .inl ⟨_, h1, h2, by omega⟩
  · exact .inr h
set_option maxRecDepth 100000 in
set_option maxHeartbeats 1600000 in
theorem walk (a0 : ByteArray) (w0 : a0.size ≤ 140737488351232) (w : World) :
    Calls Try.prog 3 #[.string a0] w fun e w' => e = .returned (.bool true) ∧ Below w.heap.size w w' := by
  by_cases h : 2000 < a0.size
  · go_enter Try.func3, Try.ntmps3
    go_wp2_with fail
    refine (alive_any _).mono ?_
    rintro _ w1 ⟨rfl, hb1⟩
    go_wp2
    go_ret
    exact ⟨rfl, hb1⟩
  · have s0 : a0.size ≤ 1000000000000 := by omega
    have hc := lines_count a0
    have he := lines_each a0
    obtain ⟨L, hL⟩ : ∃ L, ofLs (linesL a0.data.toList) = L := ⟨_, rfl⟩
    rw [hL] at hc he
    have HL := Lib.hid hL
    have l1 : L.length ≤ 10000 := by omega
    have l2 : ∀ x ∈ L, x.size ≤ 1000000 := fun x hx => by have := he x hx; omega
    have HE := Lib.hid l2
    have hor := Lib.hid (join_or L l1 l2)
    clear hL he l2
    go_enter Try.func3, Try.ntmps3
    go_wp2_with fail
    refine (at_split _ s0 HL.out).mono ?_
    rintro _ w1 ⟨⟨v, rfl, hv⟩, hb1⟩
    have HW := Lib.hid hv
    clear hv
    go_wp2_with fail
    refine (at_rsplit _ s0 HL.out).mono ?_
    rintro _ w2 ⟨⟨u, rfl, hu⟩, hb⟩
    have HW2 := Lib.hid (HW.out.keep hb)
    have HU := Lib.hid hu
    have hb2 := chain hb1 hb
    clear hb hb1 HW HL hu
    go_wp2_with fail
    refine (rsame_any _ _ L L _ HW2.out HU.out (by omega) (by omega)).mono ?_
    rintro _ w1 ⟨rfl, hb⟩
    have HW := Lib.hid (HW2.out.keep hb)
    have hb1 := chain hb2 hb
    rw [show decide (L = L) = true by simp]
    clear hb hb2 HW2 HU
    rcases hor.out with ⟨t, hV, ht, hz⟩ | hV
    · have HV := Lib.hid hV
      have HT := Lib.hid ht
      clear hV ht hor
      go_wp2_with fail
      refine (at_join _ HW.out l1 HE.out HV.out).mono ?_
      rintro _ w2 ⟨rfl, hb⟩
      have HW2 := Lib.hid (HW.out.keep hb)
      have hb2 := chain hb1 hb
      clear hb hb1 HW HV
      go_wp2_with fail
      refine (alive_any _).mono ?_
      rintro _ w1 ⟨rfl, hb⟩
      have HW := Lib.hid (HW2.out.keep hb)
      have hb1 := chain hb2 hb
      clear hb hb2 HW2
      go_wp2_with fail
      refine (at_split _ hz HT.out).mono ?_
      rintro _ w2 ⟨⟨x, rfl, hx⟩, hb⟩
      have HW2 := Lib.hid (HW.out.keep hb)
      have HX := Lib.hid hx
      have hb2 := chain hb1 hb
      clear hb hb1 HW HT hx
      go_wp2_with fail
      refine (rsame_any _ _ L L _ HX.out HW2.out (by omega) (by omega)).mono ?_
      rintro _ w1 ⟨rfl, hb⟩
      have hb1 := chain hb2 hb
      rw [show decide (L = L) = true by simp]
      clear hb hb2 HW2 HX HE
      go_wp2
      go_ret
      exact ⟨rfl, hb1⟩
    · have HV := Lib.hid hV
      clear hV hor
      go_wp2_with fail
      refine (at_join _ HW.out l1 HE.out HV.out).mono ?_
      rintro _ w2 ⟨rfl, hb⟩
      have hb2 := chain hb1 hb
      clear hb hb1 HW HV HE
      go_wp2_with fail
      refine (alive_any _).mono ?_
      rintro _ w1 ⟨rfl, hb⟩
      have hb1 := chain hb2 hb
      clear hb hb2
      go_wp2
      go_ret
      exact ⟨rfl, hb1⟩

set_option maxRecDepth 100000 in
theorem lifted (os : Os) (started : os.Started) (H : Type) (enc : TypeId × Value → H) :
    ReturnsInHanded {} Try.checked os 3 .any (Rows.linesSplitsSpec.pre6 enc Try.prog Try.f3 Rows.linesSplitsRow.domain false) (Rows.linesSplitsSpec.post enc Try.prog Try.f3 false true false false) := by
  refine returnsInHanded_of_change_sized (C := Try.checked) own started (by kernel_rfl) Try.func3
    (ChangeSpec.witness6 (enc := enc) (C := Try.checked) false ⟨#[], #[.string ByteArray.empty], []⟩ 8 (by kernel_rfl) (by kernel_rfl) (by kernel_rfl) (by kernel_rfl)) ?_
  intro W base args ds gs before hval0 hW hcnd hsz0 _
  have hval : ∀ (j : Nat) t v, Try.f3.params[j]? = some t → args[j]? = some v → Value.okWide Try.prog W .any base t v := hval0
  have hsz : (DataW.weightsEach Try.prog (Try.f3.params.toList ++ Rows.linesSplitsSpec.plain.varTypes Try.prog) (ds ++ gs)).all (· ≤ reachBytes) = true := hsz0
  have hW' := hW
  obtain ⟨p, q, hA0, hV, rfl, hfz, hnd⟩ := hW
  have hA : DataW.TrodAll enc Try.prog W 0 (fun _ => true) true Try.f3.params.toList args.toList ds p := hA0
  rw [Try.params3] at hA hval hsz
  obtain ⟨v0, vs0, d0, ds0, p0, q0, hargs, rfl, rfl, h0, r0⟩ := trodAll_cons hA
  obtain ⟨rfl, rfl, rfl⟩ := trodAll_nil r0
  obtain rfl : args = #[v0] := by cases args; simp_all
  obtain ⟨rfl, rfl⟩ := trodVars_none hV
  obtain ⟨a0, rfl, rfl, rfl, m0⟩ := open_string Try.underlying9 (hval 0 9 v0 rfl rfl) h0
  have w0 : a0.size ≤ 140737488351232 := by
    have h := sized_string hsz (j := 0) (t := 9) rfl rfl
    have e : a0.data.toList.length = a0.size := by simp
    unfold reachBytes at h
    omega
  clear hA0 hval0 hsz hsz0
  refine (walk a0 w0 W).mono fun e W' ⟨he, bel⟩ => ?_
  subst he
  exact ⟨_, rfl, _, _, _, [], _, [], hW', trodAll_mk1 (shut_bool Try.underlying4 _), (trodAll_cons_mk (shut_string Try.underlying9 m0) trodAll_mk0), rfl, bel.frame _, fun h => by cases h⟩

theorem over : Rows.linesSplitsRow.holds Try.pinned (OpenSpec.ofChange Rows.linesSplitsSpec) :=
  OpenClaim.holds_of_wide 3 Try.f3 rfl rfl rfl rfl rfl rfl rfl ⟨rfl, rfl, rfl, rfl, rfl⟩ rfl rfl rfl rfl rfl (by kernel_rfl) Try.func3 (by kernel_rfl)
    (of_decide_eq_true (by kernel_rfl)) (by unfold Func.isWrapper; first | (rw [if_pos (by decide +kernel)]; kernel_rfl) | (rw [if_neg (by decide +kernel)]; exact ⟨rfl, rfl⟩))
    (fun os started H enc _ => lifted os started H enc)

end Go.Proofs.Yteoailanpmkcfaa.linesSplits
namespace Go.Proofs.Yteoailanpmkcfaa
/-- The statement. -/
theorem linesSplits_proved : Rows.LinesSplitsSaid := linesSplits.over
end Go.Proofs.Yteoailanpmkcfaa
