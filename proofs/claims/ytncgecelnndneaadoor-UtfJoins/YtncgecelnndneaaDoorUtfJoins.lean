/-
  For all texts a and b, cracknellaw05.UtfJoins(a, b) returns true and leaves them as they were. Conditions: none beyond the form's own (a string that is read takes at most 2^47 - 4096 bytes). The two tables of the library's utf8 (first, acceptRanges) are as the program's text lays them: the statement is a tied card, over the pruned copy of the project that its seat holds; what tests or other packages might write there it leaves to the translator's report.
-/
import Derived.Test.YtncgecelnndneaaDoorUtfAlive
import Derived.Test.YtncgecelnndneaaDoorUtfLaid
import Derived.Test.YtncgecelnndneaaDoorTie
import Derived.Test.YtncgecelnndneaaDoorCards
import Derived.SevenTiedAt
import Derived.LaidLaws
import Derived.Stop.Joined
import Derived.ProofKit
import Derived.OpenShut
import Derived.ShutString
import Derived.ChangeOld
import Derived.SizedLaws
namespace Go.Proofs.YtncgecelnndneaaDoor.utfJoins
open Go.ChangeShapes Go.WideShapes Go.ChangeAt Go.RowKit
open Go.ChangeMaps (open_string shut_string)
set_option linter.unusedVariables false

theorem own : ownKnob Tryd.prog.godebug = none := by kernel_rfl

set_option maxRecDepth 100000 in
set_option maxHeartbeats 1600000 in
theorem walk (a0 : ByteArray) (a1 : ByteArray) (w0 : a0.size ≤ 140737488351232) (w1 : a1.size ≤ 140737488351232) (w : World) (hT : Tabs w) :
    Calls Tryd.prog 7 #[.string a0, .string a1] w fun e w' => e = .returned (.bool true) ∧ Below w.heap.size w w' := by
  by_cases hbig : 500 < a0.size ∨ 500 < a1.size
  · rcases (show 500 < a0.size ∨ (a0.size ≤ 500 ∧ 500 < a1.size) from by omega) with h | ⟨h, h'⟩
    all_goals
      clear hbig
      go_enter Tryd.func7, Tryd.ntmps7
      go_wp2_with fail
      refine (alive_any _ (by first | exact hT | exact hT.keep hb1 | exact hT.keep hb2)).mono ?_
      rintro _ w1 ⟨rfl, hb1⟩
      go_wp2
      go_ret
      exact ⟨rfl, hb1⟩
  · have z0 : a0.size ≤ 500 := by omega
    have z1 : a1.size ≤ 500 := by omega
    have s0 : a0.size ≤ 1000000000000 := by omega
    have s1 : a1.size ≤ 1000000000000 := by omega
    clear hbig
    cases hr : runesU a0.data.toList with
    | none =>
      have HVA : Hid (validB a0 = false) := by show _ = _; unfold validB; rw [hr]; rfl
      clear hr
      go_enter Tryd.func7, Tryd.ntmps7
      go_wp2_with fail
      refine (at_valid _ (by first | exact hT | exact hT.keep hb1 | exact hT.keep hb2) s0 HVA.out).mono ?_
      rintro _ w1 ⟨rfl, hb1⟩
      clear HVA
      go_wp2_with fail
      refine (alive_any _ (by first | exact hT | exact hT.keep hb1 | exact hT.keep hb2)).mono ?_
      rintro _ w2 ⟨rfl, hb⟩
      have hb2 := chain hb1 hb
      clear hb hb1
      go_wp2
      go_ret
      exact ⟨rfl, hb2⟩
    | some rs =>
      have HVA : Hid (validB a0 = true) := by show _ = _; unfold validB; rw [hr]; rfl
      have hss : a0.size + a1.size ≤ 9223372036854775807 := by omega
      have hsz : (a0 ++ a1).size ≤ 1000000000000 := by rw [ByteArray.size_append]; omega
      obtain ⟨i1, i2⟩ := (runesU_iff _ _).1 hr
      have lr : rs.length ≤ a0.size := by
        have := textU_len rs
        rw [← i2, list_len] at this
        exact this
      have hj : runesU (a0 ++ a1).data.toList = (runesU a1.data.toList).map (rs ++ ·) := by rw [app_list, i2, runesU_append rs _ i1]
      cases hq : runesU a1.data.toList with
      | none =>
        rw [hq] at hj
        have HR := Lib.hid hr
        have HQ := Lib.hid hq
        have HJ : Hid (runesU (a0 ++ a1).data.toList = none) := hj
        have HVB : Hid (validB a1 = false) := by show _ = _; unfold validB; rw [hq]; rfl
        have HVJ : Hid (validB (a0 ++ a1) = false) := by show _ = _; unfold validB; rw [hj]; rfl
        clear hr hq hj i1 i2
        go_enter Tryd.func7, Tryd.ntmps7
        go_wp2_with fail
        refine (at_valid _ (by first | exact hT | exact hT.keep hb1 | exact hT.keep hb2) s0 HVA.out).mono ?_
        rintro _ w1 ⟨rfl, hb1⟩
        clear HVA
        go_wp2_with fail
        refine (at_runes _ (by first | exact hT | exact hT.keep hb1 | exact hT.keep hb2) s0 HR.out).mono ?_
        rintro _ w2 ⟨⟨v, rfl, hv⟩, hb⟩
        have hb2 := chain hb1 hb
        clear hb hb1 hv
        go_wp2_with fail
        refine (at_runes_no _ (by first | exact hT | exact hT.keep hb1 | exact hT.keep hb2) s1 HQ.out).mono ?_
        rintro _ w1 ⟨⟨u, rfl, hu⟩, hb⟩
        have hb1 := chain hb2 hb
        clear hb hb2 hu
        go_wp2_with fail
        with_reducible refine (at_runes_no (s := a0 ++ a1) _ (by first | exact hT | exact hT.keep hb1 | exact hT.keep hb2) hsz HJ.out).mono ?_
        rintro _ w2 ⟨⟨x, rfl, hx⟩, hb⟩
        have hb2 := chain hb1 hb
        clear hb hb1 hx HR HQ HJ
        go_wp2_with fail
        refine (alive_any _ (by first | exact hT | exact hT.keep hb1 | exact hT.keep hb2)).mono ?_
        rintro _ w1 ⟨rfl, hb⟩
        have hb1 := chain hb2 hb
        clear hb hb2
        go_wp2_with fail
        refine (at_valid _ (by first | exact hT | exact hT.keep hb1 | exact hT.keep hb2) s1 HVB.out).mono ?_
        rintro _ w2 ⟨rfl, hb⟩
        have hb2 := chain hb1 hb
        clear hb hb1
        go_wp2_with fail
        with_reducible refine (at_valid (s := a0 ++ a1) _ (by first | exact hT | exact hT.keep hb1 | exact hT.keep hb2) hsz HVJ.out).mono ?_
        rintro _ w1 ⟨rfl, hb⟩
        have hb1 := chain hb2 hb
        clear hb hb2 HVB HVJ
        go_wp2
        go_ret
        exact ⟨rfl, hb1⟩
      | some qs =>
        rw [hq] at hj
        have HR := Lib.hid hr
        have HQ := Lib.hid hq
        have HJ : Hid (runesU (a0 ++ a1).data.toList = some (rs ++ qs)) := hj
        have HVB : Hid (validB a1 = true) := by show _ = _; unfold validB; rw [hq]; rfl
        have HVJ : Hid (validB (a0 ++ a1) = true) := by show _ = _; unfold validB; rw [hj]; rfl
        have lq : qs.length ≤ a1.size := by
          have h := (runesU_iff _ _).1 hq
          have := textU_len qs
          rw [← h.2, list_len] at this
          exact this
        clear hr hq hj i1 i2
        go_enter Tryd.func7, Tryd.ntmps7
        go_wp2_with fail
        refine (at_valid _ (by first | exact hT | exact hT.keep hb1 | exact hT.keep hb2) s0 HVA.out).mono ?_
        rintro _ w1 ⟨rfl, hb1⟩
        clear HVA
        go_wp2_with fail
        refine (at_runes _ (by first | exact hT | exact hT.keep hb1 | exact hT.keep hb2) s0 HR.out).mono ?_
        rintro _ w2 ⟨⟨v, rfl, hv⟩, hb⟩
        have hb2 := chain hb1 hb
        have HV := Lib.hid hv
        clear hb hb1 hv
        go_wp2_with fail
        refine (at_runes _ (by first | exact hT | exact hT.keep hb1 | exact hT.keep hb2) s1 HQ.out).mono ?_
        rintro _ w1 ⟨⟨u, rfl, hu⟩, hb⟩
        have hb1 := chain hb2 hb
        have HV2 := Lib.hid (HV.out.keep hb)
        have HU := Lib.hid hu
        clear hb hb2 hu HV
        go_wp2_with fail
        with_reducible refine (at_runes (s := a0 ++ a1) _ (by first | exact hT | exact hT.keep hb1 | exact hT.keep hb2) hsz HJ.out).mono ?_
        rintro _ w2 ⟨⟨x, rfl, hx⟩, hb⟩
        have hb2 := chain hb1 hb
        have HV := Lib.hid (HV2.out.keep hb)
        have HU2 := Lib.hid (HU.out.keep hb)
        have HX := Lib.hid hx
        clear hb hb1 hx HR HQ HJ HV2 HU
        go_wp2_with fail
        refine (alive_any _ (by first | exact hT | exact hT.keep hb1 | exact hT.keep hb2)).mono ?_
        rintro _ w1 ⟨rfl, hb⟩
        have hb1 := chain hb2 hb
        have HV2 := Lib.hid (HV.out.keep hb)
        have HU := Lib.hid (HU2.out.keep hb)
        have HX2 := Lib.hid (HX.out.keep hb)
        clear hb hb2 HV HU2 HX
        go_wp2_with fail
        refine (at_valid _ (by first | exact hT | exact hT.keep hb1 | exact hT.keep hb2) s1 HVB.out).mono ?_
        rintro _ w2 ⟨rfl, hb⟩
        have hb2 := chain hb1 hb
        have HV := Lib.hid (HV2.out.keep hb)
        have HU2 := Lib.hid (HU.out.keep hb)
        have HX := Lib.hid (HX2.out.keep hb)
        clear hb hb1 HV2 HU HX2
        go_wp2_with fail
        with_reducible refine (at_valid (s := a0 ++ a1) _ (by first | exact hT | exact hT.keep hb1 | exact hT.keep hb2) hsz HVJ.out).mono ?_
        rintro _ w1 ⟨rfl, hb⟩
        have hb1 := chain hb2 hb
        have HV2 := Lib.hid (HV.out.keep hb)
        have HU := Lib.hid (HU2.out.keep hb)
        have HX2 := Lib.hid (HX.out.keep hb)
        clear hb hb2 HV HU2 HX HVB HVJ
        have hl1 : (intsN rs).length ≤ 500 := by show (List.map _ rs).length ≤ _; rw [List.length_map]; omega
        have hl2 : (intsN qs).length ≤ 500 := by show (List.map _ qs).length ≤ _; rw [List.length_map]; omega
        have ej : intsN (rs ++ qs) = intsN rs ++ intsN qs := by unfold intsN; rw [List.map_append]
        have HXX : Hid (IntsAt w1 x (intsN rs ++ intsN qs)) := by show IntsAt _ _ _; rw [← ej]; exact HX2.out
        clear HX2 ej
        rcases HV2.out with ⟨rfl, hz⟩ | ⟨ad, cap, rfl, hcap, hcl⟩
        · have hn0 : 0 = (intsN rs).length := by rw [hz]; rfl
          obtain ⟨v', w3, happ, hres, hbw⟩ := append_ints w1 29 none 0 (fun _ => rfl) u (intsN rs) (intsN qs) hn0 (fun b hb => by cases hb) HU.out (by omega)
          have HRES := Lib.hid hres
          have HBW := Lib.hid hbw
          clear hres hbw hz hn0 HV2 HU
          go_wp2_with (at_builtin; refine wpList_append_run (by rfl) _ _ 29 rfl rfl rfl happ ?_)
          refine (rsame_any _ _ (intsN rs ++ intsN qs) (intsN rs ++ intsN qs) _ (HXX.out.keep HBW.out) HRES.out (by rw [List.length_append]; omega) (by rw [List.length_append]; omega)).mono ?_
          rintro _ w2 ⟨rfl, hb⟩
          have hb2 := chain (chain hb1 HBW.out) hb
          rw [show decide (intsN rs ++ intsN qs = intsN rs ++ intsN qs) = true by simp]
          clear hb HRES HBW HXX
          go_wp2
          go_ret
          exact ⟨rfl, hb2⟩
        · obtain ⟨v', w3, happ, hres, hbw⟩ := append_ints w1 29 (some ad) (intsN rs).length (fun h => by cases h) u (intsN rs) (intsN qs) rfl (fun b hb => by cases hb; exact hcl) HU.out (by omega)
          have HRES := Lib.hid hres
          have HBW := Lib.hid hbw
          have hlA : (intsN rs ++ intsN qs).length ≤ 1000000000000 := by rw [List.length_append]; omega
          clear hres hbw hcl HV2 HU
          have hcapI : ((intsN rs).length : Int) ≤ (cap : Int) := by omega
          generalize (intsN rs).length = n at *
          go_wp2_with (at_builtin; refine wpList_append_run (by rfl) _ _ 29 rfl rfl rfl happ ?_)
          refine (rsame_any _ _ (intsN rs ++ intsN qs) (intsN rs ++ intsN qs) _ (HXX.out.keep HBW.out) HRES.out hlA hlA).mono ?_
          rintro _ w2 ⟨rfl, hb⟩
          have hb2 := chain (chain hb1 HBW.out) hb
          rw [show decide (intsN rs ++ intsN qs = intsN rs ++ intsN qs) = true by simp]
          clear hb HRES HBW HXX
          go_wp2
          go_ret
          exact ⟨rfl, hb2⟩

set_option maxRecDepth 100000 in
theorem lifted (os : Os) (started : os.Started) (H : Type) (enc : TypeId × Value → H) :
    ReturnsInHanded {} Tryd.checked os 7 .any (fun w args => (Rows.utfJoinsSpec.pre enc Tryd.prog Tryd.f7 [] false w args ∧ laidMetH Tryd.prog listed w) ∧ sizedMet enc Tryd.prog Tryd.f7 (OpenSpec.ofChange Rows.utfJoinsSpec) false w args)
      (Rows.utfJoinsSpec.post enc Tryd.prog Tryd.f7 false true false false) := by
  refine returnsInHanded_of_change_and (C := Tryd.checked) (X := fun w _ => laidMetH Tryd.prog listed w) (fun _ _ _ hh h => h.of_heap hh) own started (by kernel_rfl) Tryd.func7
    (ChangeSpec.witness_shaped (enc := enc) (C := Tryd.checked) (os := os) (X := fun w _ => laidMetH Tryd.prog listed w) false (laidOver (World.holding Tryd.prog os ⟨#[], #[], []⟩)) #[.string ByteArray.empty, .string ByteArray.empty] 8 rfl (World.shaped_of_RefB (by kernel_rfl) (by kernel_rfl)) (by kernel_rfl) (by kernel_rfl) (by kernel_rfl) (laid_over os _)) ?_
  intro W base args ds gs before hval0 hW hcnd hsz0 hL _
  have hT := tabs_listed hL
  have hval : ∀ (j : Nat) t v, Tryd.f7.params[j]? = some t → args[j]? = some v → Value.okWide Tryd.prog W .any base t v := hval0
  have hsz : (DataW.weightsEach Tryd.prog (Tryd.f7.params.toList ++ Rows.utfJoinsSpec.plain.varTypes Tryd.prog) (ds ++ gs)).all (· ≤ reachBytes) = true := hsz0
  have hW' := hW
  obtain ⟨p, q, hA0, hV, rfl, hfz, hnd⟩ := hW
  have hA : DataW.TrodAll enc Tryd.prog W 0 (fun _ => true) true Tryd.f7.params.toList args.toList ds p := hA0
  rw [Tryd.params7] at hA hval hsz
  obtain ⟨v0, vs0, d0, ds0, p0, q0, hargs, rfl, rfl, h0, r0⟩ := trodAll_cons hA
  obtain ⟨v1, vs1, d1, ds1, p1, q1, rfl, rfl, rfl, h1, r1⟩ := trodAll_cons r0
  obtain ⟨rfl, rfl, rfl⟩ := trodAll_nil r1
  obtain rfl : args = #[v0, v1] := by cases args; simp_all
  obtain ⟨rfl, rfl⟩ := trodVars_none hV
  obtain ⟨a0, rfl, rfl, rfl, m0⟩ := open_string Tryd.underlying9 (hval 0 9 v0 rfl rfl) h0
  obtain ⟨a1, rfl, rfl, rfl, m1⟩ := open_string Tryd.underlying9 (hval 1 9 v1 rfl rfl) h1
  have w0 : a0.size ≤ 140737488351232 := by
    have h := sized_string hsz (j := 0) (t := 9) rfl rfl
    have e : a0.data.toList.length = a0.size := by simp
    unfold reachBytes at h
    omega
  have w1 : a1.size ≤ 140737488351232 := by
    have h := sized_string hsz (j := 1) (t := 9) rfl rfl
    have e : a1.data.toList.length = a1.size := by simp
    unfold reachBytes at h
    omega
  clear hA0 hval0 hsz hsz0
  refine (walk a0 a1 w0 w1 W hT).mono fun e W' ⟨he, bel⟩ => ?_
  subst he
  exact ⟨_, rfl, _, _, _, [], _, [], hW', trodAll_mk1 (shut_bool Tryd.underlying4 _), (trodAll_cons_mk (shut_string Tryd.underlying9 m0) (trodAll_cons_mk (shut_string Tryd.underlying9 m1) trodAll_mk0)), rfl, bel.frame _, fun h => by cases h⟩

theorem over : Rows.utfJoinsRow.holds Tryd.pinned (OpenSpec.ofChange Rows.utfJoinsSpec) :=
  OpenClaim.holds_of_wide 7 Tryd.f7 rfl rfl rfl rfl rfl rfl rfl ⟨rfl, rfl, rfl, rfl, rfl⟩ rfl rfl rfl rfl rfl (by kernel_rfl) Tryd.func7 (by kernel_rfl)
    (of_decide_eq_true (by kernel_rfl)) (by unfold Func.isWrapper; first | (rw [if_pos (by decide +kernel)]; kernel_rfl) | (rw [if_neg (by decide +kernel)]; exact ⟨rfl, rfl⟩))
    (fun os started H enc _ => lifted os started H enc)

set_option maxRecDepth 100000 in
theorem card : Rows.UtfJoinsCardSaid :=
  Claim7.holds_tied_plain_at .later [] [.data, .pinned] true Rows.utfJoinsCard.stood.harness false
    over (fun _ h => by cases h) (by kernel_rfl) (fun _ h => by cases h) utfJoins_row_tie rfl ⟨rfl, rfl⟩ (by kernel_rfl) rfl
    (fun f fn hf hfn => by
      obtain rfl : f = 7 := Option.some.inj ((show Tryd.prog.funcNamed Rows.utfJoinsRow.func = some 7 by kernel_rfl).symm.trans hf) |>.symm
      obtain rfl : fn = Tryd.f7 := (Option.some.inj (Tryd.func7.symm.trans hfn)).symm
      exact ⟨by kernel_rfl, fun j t ht => by
        rw [Tryd.params7] at ht
        have hm : t ∈ [9] := by simpa using Array.mem_of_getElem? ht
        have hall : ([9].all fun u => !Tryd.prog.wantsStandIn u) = true := by kernel_rfl
        exact (show Tryd.prog.wantsStandIn t = false by simpa using List.all_eq_true.1 hall t hm)⟩)
    (by kernel_rfl)

end Go.Proofs.YtncgecelnndneaaDoor.utfJoins
namespace Go.Proofs.YtncgecelnndneaaDoor
/-- The statement. -/
theorem utfJoins_proved : Rows.UtfJoinsCardSaid := utfJoins.card
end Go.Proofs.YtncgecelnndneaaDoor
