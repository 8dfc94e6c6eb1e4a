/-
  For every text s, cracknellaw05.UtfRunes(s) returns true and leaves it as it was. Conditions: none beyond the form's own (a string that is read takes at most 2^47 - 4096 bytes). The two tables of the library's utf8 (first, acceptRanges) are as the program's text lays them: the statement is a tied card, over the pruned copy of the project that its seat holds; what tests or other packages might write there it leaves to the translator's report.
-/
import Derived.Test.YtncgecelnndneaaDoorUtfAlive
import Derived.Test.YtncgecelnndneaaDoorUtfLaid
import Derived.Test.YtncgecelnndneaaDoorTie
import Derived.Test.YtncgecelnndneaaDoorCards
import Derived.SevenTiedAt
import Derived.LaidLaws
import Derived.Stop.Joined
import Derived.ProofKit
import Derived.OpenShut
import Derived.ShutString
import Derived.ChangeOld
import Derived.SizedLaws
namespace Go.Proofs.YtncgecelnndneaaDoor.utfRunes
open Go.ChangeShapes Go.WideShapes Go.ChangeAt Go.RowKit
open Go.ChangeMaps (open_string shut_string)
set_option linter.unusedVariables false

theorem own : ownKnob Tryd.prog.godebug = none := by kernel_rfl

theorem nats_ints (rs : List Nat) : natsI (intsN rs) = rs := by
  unfold natsI intsN
  rw [List.map_map]
  exact List.map_id'' (fun x => by simp) rs

theorem all_ints (rs : List Nat) (h : letters rs) : allL (intsN rs) = true := by
  unfold allL intsN
  rw [List.all_eq_true]
  intro x hx
  obtain ⟨r, hr, rfl⟩ := List.mem_map.1 hx
  rw [letB_nat]
  simpa using h r hr

theorem text_runes (s : ByteArray) (rs : List Nat) (h : runesU s.data.toList = some rs) : textB (intsN rs) = s ∧ allL (intsN rs) = true ∧ rs.length ≤ s.size ∧ ∀ n ∈ intsN rs, -9223372036854775808 ≤ n ∧ n ≤ 9223372036854775807 := by
  obtain ⟨h1, h2⟩ := (runesU_iff _ _).1 h
  refine ⟨ba_ext (by rw [textB_list, nats_ints, ← h2]), all_ints rs h1, ?_, fun n hn => ?_⟩
  · have := textU_len rs
    rw [← h2, list_len] at this
    exact this
  · obtain ⟨r, hr, rfl⟩ := List.mem_map.1 hn
    have := (h1 r hr).1
    omega

set_option maxRecDepth 100000 in
set_option maxHeartbeats 1600000 in
theorem walk (a0 : ByteArray) (w0 : a0.size ≤ 140737488351232) (w : World) (hT : Tabs w) :
    Calls Tryd.prog 6 #[.string a0] w fun e w' => e = .returned (.bool true) ∧ Below w.heap.size w w' := by
  by_cases hbig : 1000 < a0.size
  · go_enter Tryd.func6, Tryd.ntmps6
    go_wp2_with fail
    refine (alive_any _ (by first | exact hT | exact hT.keep hb1 | exact hT.keep hb2)).mono ?_
    rintro _ w1 ⟨rfl, hb1⟩
    go_wp2
    go_ret
    exact ⟨rfl, hb1⟩
  · have hsz : a0.size ≤ 1000000000000 := by omega
    cases hr : runesU a0.data.toList with
    | some rs =>
      obtain ⟨t1, t2, t3, t4⟩ := text_runes a0 rs hr
      have HR := Lib.hid hr
      have T1 := Lib.hid t1
      have T2 := Lib.hid t2
      have T4 := Lib.hid t4
      have hl : (intsN rs).length ≤ 1000000000000 := by show (List.map _ rs).length ≤ _; rw [List.length_map]; omega
      have HVA : Hid (validB a0 = true) := by show _ = _; unfold validB; rw [hr]; rfl
      clear hr t1 t2 t4
      go_enter Tryd.func6, Tryd.ntmps6
      go_wp2_with fail
      refine (at_runes _ (by first | exact hT | exact hT.keep hb1 | exact hT.keep hb2) hsz HR.out).mono ?_
      rintro _ w1 ⟨⟨v, rfl, hv⟩, hb1⟩
      have HV := Lib.hid hv
      clear hv
      go_wp2_with fail
      refine (at_rrunes _ hsz HR.out).mono ?_
      rintro _ w2 ⟨⟨u, rfl, hu⟩, hb⟩
      have hb2 := chain hb1 hb
      have HV2 := Lib.hid (HV.out.keep hb)
      have HU := Lib.hid hu
      clear hb hb1 hu HV HR
      go_wp2_with fail
      refine (at_text _ HV2.out hl T4.out T2.out T1.out).mono ?_
      rintro _ w1 ⟨rfl, hb⟩
      have hb1 := chain hb2 hb
      have HV := Lib.hid (HV2.out.keep hb)
      have HU2 := Lib.hid (HU.out.keep hb)
      clear hb hb2 HV2 HU T1 T2 T4
      go_wp2_with fail
      refine (alive_any _ (by first | exact hT | exact hT.keep hb1 | exact hT.keep hb2)).mono ?_
      rintro _ w2 ⟨rfl, hb⟩
      have hb2 := chain hb1 hb
      have HV2 := Lib.hid (HV.out.keep hb)
      have HU := Lib.hid (HU2.out.keep hb)
      clear hb hb1 HV HU2
      go_wp2_with fail
      refine (rsame_any _ _ (intsN rs) (intsN rs) _ HV2.out HU.out hl hl).mono ?_
      rintro _ w1 ⟨rfl, hb⟩
      have hb1 := chain hb2 hb
      rw [show decide (intsN rs = intsN rs) = true by simp]
      clear hb hb2 HV2 HU
      go_wp2_with fail
      refine (at_valid _ (by first | exact hT | exact hT.keep hb1 | exact hT.keep hb2) hsz HVA.out).mono ?_
      rintro _ w2 ⟨rfl, hb⟩
      have hb2 := chain hb1 hb
      clear hb hb1 HVA
      go_wp2
      go_ret
      exact ⟨rfl, hb2⟩
    | none =>
      have HR := Lib.hid hr
      have HVA : Hid (validB a0 = false) := by show _ = _; unfold validB; rw [hr]; rfl
      clear hr
      go_enter Tryd.func6, Tryd.ntmps6
      go_wp2_with fail
      refine (at_runes_no _ (by first | exact hT | exact hT.keep hb1 | exact hT.keep hb2) hsz HR.out).mono ?_
      rintro _ w1 ⟨⟨v, rfl, hv⟩, hb1⟩
      have HV := Lib.hid hv
      clear hv
      go_wp2_with fail
      refine (at_rrunes_no _ hsz HR.out).mono ?_
      rintro _ w2 ⟨⟨u, rfl, hu⟩, hb⟩
      have hb2 := chain hb1 hb
      have HV2 := Lib.hid (HV.out.keep hb)
      have HU := Lib.hid hu
      clear hb hb1 hu HV HR
      go_wp2_with fail
      refine (at_text (l := []) (t := ByteArray.empty) _ HV2.out (by simp) (by simp) rfl rfl).mono ?_
      rintro _ w1 ⟨rfl, hb⟩
      have hb1 := chain hb2 hb
      have HV := Lib.hid (HV2.out.keep hb)
      have HU2 := Lib.hid (HU.out.keep hb)
      clear hb hb2 HV2 HU
      go_wp2_with fail
      refine (alive_any _ (by first | exact hT | exact hT.keep hb1 | exact hT.keep hb2)).mono ?_
      rintro _ w2 ⟨rfl, hb⟩
      have hb2 := chain hb1 hb
      have HV2 := Lib.hid (HV.out.keep hb)
      have HU := Lib.hid (HU2.out.keep hb)
      clear hb hb1 HV HU2
      go_wp2_with fail
      refine (rsame_any _ _ [] [] _ HV2.out HU.out (by simp) (by simp)).mono ?_
      rintro _ w1 ⟨rfl, hb⟩
      have hb1 := chain hb2 hb
      rw [show decide (([] : List Int) = []) = true by simp]
      clear hb hb2 HV2 HU
      go_wp2_with fail
      refine (at_valid _ (by first | exact hT | exact hT.keep hb1 | exact hT.keep hb2) hsz HVA.out).mono ?_
      rintro _ w2 ⟨rfl, hb⟩
      have hb2 := chain hb1 hb
      clear hb hb1 HVA
      go_wp2
      go_ret
      exact ⟨rfl, hb2⟩

set_option maxRecDepth 100000 in
theorem lifted (os : Os) (started : os.Started) (H : Type) (enc : TypeId × Value → H) :
    ReturnsInHanded {} Tryd.checked os 6 .any (fun w args => (Rows.utfRunesSpec.pre enc Tryd.prog Tryd.f6 [] false w args ∧ laidMetH Tryd.prog listed w) ∧ sizedMet enc Tryd.prog Tryd.f6 (OpenSpec.ofChange Rows.utfRunesSpec) false w args)
      (Rows.utfRunesSpec.post enc Tryd.prog Tryd.f6 false true false false) := by
  refine returnsInHanded_of_change_and (C := Tryd.checked) (X := fun w _ => laidMetH Tryd.prog listed w) (fun _ _ _ hh h => h.of_heap hh) own started (by kernel_rfl) Tryd.func6
    (ChangeSpec.witness_shaped (enc := enc) (C := Tryd.checked) (os := os) (X := fun w _ => laidMetH Tryd.prog listed w) false (laidOver (World.holding Tryd.prog os ⟨#[], #[], []⟩)) #[.string ByteArray.empty] 8 rfl (World.shaped_of_RefB (by kernel_rfl) (by kernel_rfl)) (by kernel_rfl) (by kernel_rfl) (by kernel_rfl) (laid_over os _)) ?_
  intro W base args ds gs before hval0 hW hcnd hsz0 hL _
  have hT := tabs_listed hL
  have hval : ∀ (j : Nat) t v, Tryd.f6.params[j]? = some t → args[j]? = some v → Value.okWide Tryd.prog W .any base t v := hval0
  have hsz : (DataW.weightsEach Tryd.prog (Tryd.f6.params.toList ++ Rows.utfRunesSpec.plain.varTypes Tryd.prog) (ds ++ gs)).all (· ≤ reachBytes) = true := hsz0
  have hW' := hW
  obtain ⟨p, q, hA0, hV, rfl, hfz, hnd⟩ := hW
  have hA : DataW.TrodAll enc Tryd.prog W 0 (fun _ => true) true Tryd.f6.params.toList args.toList ds p := hA0
  rw [Tryd.params6] at hA hval hsz
  obtain ⟨v0, vs0, d0, ds0, p0, q0, hargs, rfl, rfl, h0, r0⟩ := trodAll_cons hA
  obtain ⟨rfl, rfl, rfl⟩ := trodAll_nil r0
  obtain rfl : args = #[v0] := by cases args; simp_all
  obtain ⟨rfl, rfl⟩ := trodVars_none hV
  obtain ⟨a0, rfl, rfl, rfl, m0⟩ := open_string Tryd.underlying9 (hval 0 9 v0 rfl rfl) h0
  have w0 : a0.size ≤ 140737488351232 := by
    have h := sized_string hsz (j := 0) (t := 9) rfl rfl
    have e : a0.data.toList.length = a0.size := by simp
    unfold reachBytes at h
    omega
  clear hA0 hval0 hsz hsz0
  refine (walk a0 w0 W hT).mono fun e W' ⟨he, bel⟩ => ?_
  subst he
  exact ⟨_, rfl, _, _, _, [], _, [], hW', trodAll_mk1 (shut_bool Tryd.underlying4 _), (trodAll_cons_mk (shut_string Tryd.underlying9 m0) trodAll_mk0), rfl, bel.frame _, fun h => by cases h⟩

theorem over : Rows.utfRunesRow.holds Tryd.pinned (OpenSpec.ofChange Rows.utfRunesSpec) :=
  OpenClaim.holds_of_wide 6 Tryd.f6 rfl rfl rfl rfl rfl rfl rfl ⟨rfl, rfl, rfl, rfl, rfl⟩ rfl rfl rfl rfl rfl (by kernel_rfl) Tryd.func6 (by kernel_rfl)
    (of_decide_eq_true (by kernel_rfl)) (by unfold Func.isWrapper; first | (rw [if_pos (by decide +kernel)]; kernel_rfl) | (rw [if_neg (by decide +kernel)]; exact ⟨rfl, rfl⟩))
    (fun os started H enc _ => lifted os started H enc)

set_option maxRecDepth 100000 in
theorem card : Rows.UtfRunesCardSaid :=
  Claim7.holds_tied_plain_at .later [] [.data, .pinned] true Rows.utfRunesCard.stood.harness false
    over (fun _ h => by cases h) (by kernel_rfl) (fun _ h => by cases h) utfRunes_row_tie rfl ⟨rfl, rfl⟩ (by kernel_rfl) rfl
    (fun f fn hf hfn => by
      obtain rfl : f = 6 := Option.some.inj ((show Tryd.prog.funcNamed Rows.utfRunesRow.func = some 6 by kernel_rfl).symm.trans hf) |>.symm
      obtain rfl : fn = Tryd.f6 := (Option.some.inj (Tryd.func6.symm.trans hfn)).symm
      exact ⟨by kernel_rfl, fun j t ht => by
        rw [Tryd.params6] at ht
        have hm : t ∈ [9] := by simpa using Array.mem_of_getElem? ht
        have hall : ([9].all fun u => !Tryd.prog.wantsStandIn u) = true := by kernel_rfl
        exact (show Tryd.prog.wantsStandIn t = false by simpa using List.all_eq_true.1 hall t hm)⟩)
    (by kernel_rfl)

end Go.Proofs.YtncgecelnndneaaDoor.utfRunes
namespace Go.Proofs.YtncgecelnndneaaDoor
/-- The statement. -/
theorem utfRunes_proved : Rows.UtfRunesCardSaid := utfRunes.card
end Go.Proofs.YtncgecelnndneaaDoor
