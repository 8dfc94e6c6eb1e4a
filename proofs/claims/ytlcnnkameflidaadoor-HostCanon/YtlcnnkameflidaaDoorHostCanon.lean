/-
  For every text s, cracknellaw11.HostCanon(s) returns true and leaves it as it was. Conditions: none beyond the form's own (a string that is read takes at most 2^47 - 4096 bytes).
-/
import Derived.Test.YtlcnnkameflidaaDoorHosAlive
import Derived.Test.YtlcnnkameflidaaDoorU8Laid
import Derived.Test.YtlcnnkameflidaaDoorTie
import Derived.Test.YtlcnnkameflidaaDoorCards
import Derived.SevenTiedAt
import Derived.LaidLaws
import Derived.Stop.Joined
import Derived.ProofKit
import Derived.OpenShut
import Derived.ShutString
import Derived.ChangeOld
import Derived.SizedLaws
namespace Go.Proofs.YtlcnnkameflidaaDoor.hostCanon
open Go.ChangeShapes Go.WideShapes Go.ChangeAt Go.RowKit
open Go.ChangeMaps (open_string shut_string)
set_option linter.unusedVariables false

theorem own : ownKnob Tryd.prog.godebug = none := by kernel_rfl

theorem low_low {s T : ByteArray} (hT : T = lowB s) : lowB T = T := by rw [hT, lowB_idem]
theorem can_low {T : ByteArray} {v : Value} (hi : lowB T = T) (h : canV T = v) : canV (lowB T) = v := by rw [hi]; exact h
theorem can_same {s T : ByteArray} {v : Value} (hT : T = lowB s) (h : canV T = v) : canV (lowB s) = v := hT ▸ h
theorem can_empty : canV (lowB ByteArray.empty) = .tuple #[.string ByteArray.empty, .bool false] := canV_no _ (by decide)
theorem host_size {T : ByteArray} (h : hostB T.data.toList = true) : T.size ≤ 64 := by
  have h' : (1 ≤ T.data.toList.length ∧ T.data.toList.length ≤ 64) ∧ (dotsL T.data.toList).all partB = true := by simpa [hostB] using h
  have := h'.1.2
  rw [list_len] at this
  exact this
theorem rlower_at {s T : ByteArray} (w : World) (hs : s.size ≤ 281474976710656) (h : T = lowB s) : Calls Tryd.prog 11 #[.string s] w fun e w' => e = .returned (.string T) ∧ Below w.heap.size w w' := h ▸ rlower_any s w hs

set_option maxRecDepth 100000 in
set_option maxHeartbeats 1600000 in
theorem walk (a0 : ByteArray) (w0 : a0.size ≤ 140737488351232) (w : World) (hT : Tabs w) :
    Calls Tryd.prog 3 #[.string a0] w fun e w' => e = .returned (.bool true) ∧ Below w.heap.size w w' := by
  obtain ⟨T, hT⟩ : ∃ T, T = lowB a0 := ⟨_, rfl⟩
  have hts : T.size ≤ 281474976710656 := by rw [hT, lowB_size]; omega
  have has : a0.size ≤ 281474976710656 := by omega
  have HI := Lib.hid (low_low hT)
  have HT := Lib.hid hT
  clear hT w0
  cases hh : hostB T.data.toList
  · have HV := Lib.hid (canV_no T hh)
    clear hh
    go_enter Tryd.func3, Tryd.ntmps3
    go_wp2_with fail
    with_reducible refine (canon_at _ has (can_same HT.out HV.out)).mono ?_
    rintro _ w1 ⟨rfl, hb1⟩
    go_wp2_with fail
    with_reducible refine (rcanon_at _ has (can_same HT.out HV.out)).mono ?_
    rintro _ w2 ⟨rfl, hb⟩
    have hb2 := chain hb1 hb
    clear hb hb1
    go_wp2_with fail
    with_reducible refine (canon_at _ (by decide) can_empty).mono ?_
    rintro _ w3 ⟨rfl, hb⟩
    have hb3 := chain hb2 hb
    clear hb hb2
    go_wp2_with fail
    with_reducible refine (rlower_at _ has HT.out).mono ?_
    rintro _ w4 ⟨rfl, hb⟩
    have hb4 := chain hb3 hb
    clear hb hb3
    go_wp2_with fail
    with_reducible refine (canon_at _ hts (can_low HI.out HV.out)).mono ?_
    rintro _ w5 ⟨rfl, hb⟩
    have hb5 := chain hb4 hb
    clear hb hb4
    go_wp2_with fail
    with_reducible refine (alive_any _).mono ?_
    rintro _ w6 ⟨rfl, hb⟩
    have hb6 := chain hb5 hb
    clear hb hb5
    go_wp2
    go_ret
    exact ⟨rfl, hb6⟩
  · have HV := Lib.hid (canV_yes T hh)
    have h64 : (T.size : Int) ≤ 64 := by have := host_size hh; omega
    clear hh
    go_enter Tryd.func3, Tryd.ntmps3
    go_wp2_with fail
    with_reducible refine (canon_at _ has (can_same HT.out HV.out)).mono ?_
    rintro _ w1 ⟨rfl, hb1⟩
    go_wp2_with fail
    with_reducible refine (rcanon_at _ has (can_same HT.out HV.out)).mono ?_
    rintro _ w2 ⟨rfl, hb⟩
    have hb2 := chain hb1 hb
    clear hb hb1
    go_wp2_with fail
    with_reducible refine (canon_at _ hts (can_low HI.out HV.out)).mono ?_
    rintro _ w3 ⟨rfl, hb⟩
    have hb3 := chain hb2 hb
    clear hb hb2
    go_wp2_with fail
    with_reducible refine (rlower_at _ has HT.out).mono ?_
    rintro _ w4 ⟨rfl, hb⟩
    have hb4 := chain hb3 hb
    clear hb hb3
    go_wp2_with fail
    with_reducible refine (canon_at _ hts (can_low HI.out HV.out)).mono ?_
    rintro _ w5 ⟨rfl, hb⟩
    have hb5 := chain hb4 hb
    clear hb hb4
    go_wp2_with fail
    with_reducible refine (alive_any _).mono ?_
    rintro _ w6 ⟨rfl, hb⟩
    have hb6 := chain hb5 hb
    clear hb hb5
    go_wp2
    go_ret
    exact ⟨rfl, hb6⟩

set_option maxRecDepth 100000 in
theorem lifted (os : Os) (started : os.Started) (H : Type) (enc : TypeId × Value → H) :
    ReturnsInHanded {} Tryd.checked os 3 .any (fun w args => (Rows.hostCanonSpec.pre enc Tryd.prog Tryd.f3 [] false w args ∧ laidMetH Tryd.prog listed w) ∧ sizedMet enc Tryd.prog Tryd.f3 (OpenSpec.ofChange Rows.hostCanonSpec) false w args)
      (Rows.hostCanonSpec.post enc Tryd.prog Tryd.f3 false true false false) := by
  refine returnsInHanded_of_change_and (C := Tryd.checked) (X := fun w _ => laidMetH Tryd.prog listed w) (fun _ _ _ hh h => h.of_heap hh) own started (by kernel_rfl) Tryd.func3
    (ChangeSpec.witness_shaped (enc := enc) (C := Tryd.checked) (os := os) (X := fun w _ => laidMetH Tryd.prog listed w) false (laidOver (World.holding Tryd.prog os ⟨#[], #[], []⟩)) #[.string ByteArray.empty] 8 rfl (World.shaped_of_RefB (by kernel_rfl) (by kernel_rfl)) (by kernel_rfl) (by kernel_rfl) (by kernel_rfl) (laid_over os _)) ?_
  intro W base args ds gs before hval0 hW hcnd hsz0 hL _
  have hT := tabs_listed hL
  have hval : ∀ (j : Nat) t v, Tryd.f3.params[j]? = some t → args[j]? = some v → Value.okWide Tryd.prog W .any base t v := hval0
  have hsz : (DataW.weightsEach Tryd.prog (Tryd.f3.params.toList ++ Rows.hostCanonSpec.plain.varTypes Tryd.prog) (ds ++ gs)).all (· ≤ reachBytes) = true := hsz0
  have hW' := hW
  obtain ⟨p, q, hA0, hV, rfl, hfz, hnd⟩ := hW
  have hA : DataW.TrodAll enc Tryd.prog W 0 (fun _ => true) true Tryd.f3.params.toList args.toList ds p := hA0
  rw [Tryd.params3] at hA hval hsz
  obtain ⟨v0, vs0, d0, ds0, p0, q0, hargs, rfl, rfl, h0, r0⟩ := trodAll_cons hA
  obtain ⟨rfl, rfl, rfl⟩ := trodAll_nil r0
  obtain rfl : args = #[v0] := by cases args; simp_all
  obtain ⟨rfl, rfl⟩ := trodVars_none hV
  obtain ⟨a0, rfl, rfl, rfl, m0⟩ := open_string Tryd.underlying9 (hval 0 9 v0 rfl rfl) h0
  have w0 : a0.size ≤ 140737488351232 := by
    have h := sized_string hsz (j := 0) (t := 9) rfl rfl
    have e : a0.data.toList.length = a0.size := by simp
    unfold reachBytes at h
    omega
  clear hA0 hval0 hsz hsz0
  refine (walk a0 w0 W hT).mono fun e W' ⟨he, bel⟩ => ?_
  subst he
  exact ⟨_, rfl, _, _, _, [], _, [], hW', trodAll_mk1 (shut_bool Tryd.underlying4 _), (trodAll_cons_mk (shut_string Tryd.underlying9 m0) trodAll_mk0), rfl, bel.frame _, fun h => by cases h⟩

theorem over : Rows.hostCanonRow.holds Tryd.pinned (OpenSpec.ofChange Rows.hostCanonSpec) :=
  OpenClaim.holds_of_wide 3 Tryd.f3 rfl rfl rfl rfl rfl rfl rfl ⟨rfl, rfl, rfl, rfl, rfl⟩ rfl rfl rfl rfl rfl (by kernel_rfl) Tryd.func3 (by kernel_rfl)
    (of_decide_eq_true (by kernel_rfl)) (by unfold Func.isWrapper; first | (rw [if_pos (by decide +kernel)]; kernel_rfl) | (rw [if_neg (by decide +kernel)]; exact ⟨rfl, rfl⟩))
    (fun os started H enc _ => lifted os started H enc)

set_option maxRecDepth 100000 in
theorem card : Rows.HostCanonCardSaid :=
  Claim7.holds_tied_plain_at .later [] _ true Rows.hostCanonCard.stood.harness false
    over (fun _ h => by cases h) (by kernel_rfl) (fun _ h => by cases h) hostCanon_row_tie rfl ⟨rfl, rfl⟩ (by kernel_rfl) rfl
    (fun f fn hf hfn => by
      obtain rfl : f = 3 := Option.some.inj ((show Tryd.prog.funcNamed Rows.hostCanonRow.func = some 3 by kernel_rfl).symm.trans hf) |>.symm
      obtain rfl : fn = Tryd.f3 := (Option.some.inj (Tryd.func3.symm.trans hfn)).symm
      exact ⟨by kernel_rfl, fun j t ht => by
        rw [Tryd.params3] at ht
        have hm : t ∈ [9] := by first | (simpa using Array.mem_of_getElem? ht) | (have hq := Array.mem_of_getElem? ht; simp at hq ⊢; omega)
        have hall : ([9].all fun u => !Tryd.prog.wantsStandIn u) = true := by kernel_rfl
        exact (show Tryd.prog.wantsStandIn t = false by simpa using List.all_eq_true.1 hall t hm)⟩)
    (by kernel_rfl)

end Go.Proofs.YtlcnnkameflidaaDoor.hostCanon
namespace Go.Proofs.YtlcnnkameflidaaDoor
/-- The statement. -/
theorem hostCanon_proved : Rows.HostCanonCardSaid := hostCanon.card
end Go.Proofs.YtlcnnkameflidaaDoor
