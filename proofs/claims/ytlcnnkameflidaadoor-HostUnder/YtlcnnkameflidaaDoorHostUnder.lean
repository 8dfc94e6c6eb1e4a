/-
  For all texts a and b, cracknellaw11.HostUnder(a, b) returns true and leaves them as they were. Conditions: none beyond the form's own (a string that is read takes at most 2^47 - 4096 bytes).
-/
import Derived.Test.YtlcnnkameflidaaDoorHosAlive
import Derived.Test.YtlcnnkameflidaaDoorU8Laid
import Derived.Test.YtlcnnkameflidaaDoorTie
import Derived.Test.YtlcnnkameflidaaDoorCards
import Derived.SevenTiedAt
import Derived.LaidLaws
import Derived.Stop.Joined
import Derived.ProofKit
import Derived.OpenShut
import Derived.ShutString
import Derived.ChangeOld
import Derived.SizedLaws
namespace Go.Proofs.YtlcnnkameflidaaDoor.hostUnder
open Go.ChangeShapes Go.WideShapes Go.ChangeAt Go.RowKit
open Go.ChangeMaps (open_string shut_string)
set_option linter.unusedVariables false

theorem own : ownKnob Tryd.prog.godebug = none := by kernel_rfl

theorem host_facts {T : ByteArray} (h : hostB T.data.toList = true) : 1 ≤ T.size ∧ T.size ≤ 64 := by
  have h' : (1 ≤ T.data.toList.length ∧ T.data.toList.length ≤ 64) ∧ (dotsL T.data.toList).all partB = true := by simpa [hostB] using h
  have := h'.1
  rw [list_len] at this
  exact this

theorem under_list (s t : ByteArray) : (s ++ ⟨#[46]⟩ ++ t).data.toList = s.data.toList ++ 46 :: t.data.toList := by
  rw [app_list, app_list, List.append_assoc]
  rfl

theorem low_app (a b : ByteArray) : lowB (a ++ ⟨#[46]⟩ ++ b) = lowB a ++ ⟨#[46]⟩ ++ lowB b := by
  apply ba_ext
  rw [under_list]
  show (a ++ ⟨#[46]⟩ ++ b).data.toList.map lowC = (a.data.toList.map lowC) ++ 46 :: (b.data.toList.map lowC)
  rw [under_list, List.map_append, List.map_cons]
  rfl

theorem under_can (a b s t : ByteArray) (hs : s = lowB a) (ht : t = lowB b) (h1 : hostB s.data.toList = true) (h2 : hostB t.data.toList = true) (hl : s.size + t.size < 64) :
    canV (lowB (a ++ ⟨#[46]⟩ ++ b)) = .tuple #[.string (s ++ ⟨#[46]⟩ ++ t), .bool true] := by
  rw [low_app, ← hs, ← ht]
  refine canV_yes _ ?_
  rw [under_list]
  exact host_app _ _ h1 h2 (by rw [list_len, list_len]; exact hl)

theorem under_match (s t : ByteArray) {b : Bool} (h : ipB (s ++ ⟨#[46]⟩ ++ t).data.toList = b) : matchB (s ++ ⟨#[46]⟩ ++ t).data.toList t.data.toList = !b := by
  rw [← h, under_list]
  exact match_app _ _
theorem under_not (s t : ByteArray) : matchB t.data.toList (s ++ ⟨#[46]⟩ ++ t).data.toList = false := by
  rw [under_list]
  exact match_not _ _
theorem can_at {s T : ByteArray} {v : Value} (hT : T = lowB s) (h : canV T = v) : canV (lowB s) = v := hT ▸ h
theorem can_two (T : ByteArray) : ∃ (U : ByteArray) (b : Bool), canV T = .tuple #[.string U, .bool b] := by
  unfold canV
  split
  · exact ⟨_, _, rfl⟩
  · exact ⟨_, _, rfl⟩

set_option maxRecDepth 100000 in
set_option maxHeartbeats 1600000 in
theorem walk (a0 : ByteArray) (a1 : ByteArray) (w0 : a0.size ≤ 140737488351232) (w1 : a1.size ≤ 140737488351232) (w : World) (hT : Tabs w) :
    Calls Tryd.prog 8 #[.string a0, .string a1] w fun e w' => e = .returned (.bool true) ∧ Below w.heap.size w w' := by
  by_cases hla0 : (200 : Int) < (a0.size : Int)
  · go_enter Tryd.func8, Tryd.ntmps8
    go_wp2_with fail
    with_reducible refine (alive_any _).mono ?_
    rintro _ w1 ⟨rfl, hb1⟩
    go_wp2
    go_ret
    exact ⟨rfl, hb1⟩
  by_cases hla1 : (200 : Int) < (a1.size : Int)
  · go_enter Tryd.func8, Tryd.ntmps8
    go_wp2_with fail
    with_reducible refine (alive_any _).mono ?_
    rintro _ w1 ⟨rfl, hb1⟩
    go_wp2
    go_ret
    exact ⟨rfl, hb1⟩
  have hz0 : a0.size ≤ 281474976710656 := by omega
  have hz1 : a1.size ≤ 281474976710656 := by omega
  obtain ⟨s, hs⟩ : ∃ s, s = lowB a0 := ⟨_, rfl⟩
  obtain ⟨t, ht⟩ : ∃ t, t = lowB a1 := ⟨_, rfl⟩
  have HS := Lib.hid hs
  have HT := Lib.hid ht
  have hss : s.size = a0.size := by rw [hs, lowB_size]
  have htt : t.size = a1.size := by rw [ht, lowB_size]
  clear hs ht w0 w1
  cases h1 : hostB s.data.toList
  · have H1 := Lib.hid (can_at HS.out (canV_no s h1))
    obtain ⟨U, b, h2⟩ := can_two t
    have H2 := Lib.hid (can_at HT.out h2)
    clear h1 h2
    go_enter Tryd.func8, Tryd.ntmps8
    go_wp2_with fail
    with_reducible refine (canon_at _ hz0 H1.out).mono ?_
    rintro _ w1 ⟨rfl, hb1⟩
    go_wp2_with fail
    with_reducible refine (canon_at _ hz1 H2.out).mono ?_
    rintro _ w2 ⟨rfl, hb⟩
    have hb2 := chain hb1 hb
    clear hb hb1
    go_wp2_with fail
    with_reducible refine (alive_any _).mono ?_
    rintro _ w3 ⟨rfl, hb⟩
    have hb3 := chain hb2 hb
    clear hb hb2
    go_wp2
    go_ret
    exact ⟨rfl, hb3⟩
  cases h2 : hostB t.data.toList
  · have H1 := Lib.hid (can_at HS.out (canV_yes s h1))
    have H2 := Lib.hid (can_at HT.out (canV_no t h2))
    clear h1 h2
    go_enter Tryd.func8, Tryd.ntmps8
    go_wp2_with fail
    with_reducible refine (canon_at _ hz0 H1.out).mono ?_
    rintro _ w1 ⟨rfl, hb1⟩
    go_wp2_with fail
    with_reducible refine (canon_at _ hz1 H2.out).mono ?_
    rintro _ w2 ⟨rfl, hb⟩
    have hb2 := chain hb1 hb
    clear hb hb1
    go_wp2_with fail
    with_reducible refine (alive_any _).mono ?_
    rintro _ w3 ⟨rfl, hb⟩
    have hb3 := chain hb2 hb
    clear hb hb2
    go_wp2
    go_ret
    exact ⟨rfl, hb3⟩
  have H1 := Lib.hid (can_at HS.out (canV_yes s h1))
  have H2 := Lib.hid (can_at HT.out (canV_yes t h2))
  by_cases hsum : (64 : Int) ≤ (s.size : Int) + (t.size : Int)
  · clear h1 h2
    go_enter Tryd.func8, Tryd.ntmps8
    go_wp2_with fail
    with_reducible refine (canon_at _ hz0 H1.out).mono ?_
    rintro _ w1 ⟨rfl, hb1⟩
    go_wp2_with fail
    with_reducible refine (canon_at _ hz1 H2.out).mono ?_
    rintro _ w2 ⟨rfl, hb⟩
    have hb2 := chain hb1 hb
    clear hb hb1
    go_wp2_with fail
    with_reducible refine (alive_any _).mono ?_
    rintro _ w3 ⟨rfl, hb⟩
    have hb3 := chain hb2 hb
    clear hb hb2
    go_wp2
    go_ret
    exact ⟨rfl, hb3⟩
  have H3 := Lib.hid (under_can a0 a1 s t HS.out HT.out h1 h2 (by omega))
  have hz3 : (a0 ++ ⟨#[46]⟩ ++ a1).size ≤ 281474976710656 := by rw [ByteArray.size_append, ByteArray.size_append]; show a0.size + 1 + a1.size ≤ _; omega
  obtain ⟨b, hb⟩ : ∃ b, ipB (s ++ ⟨#[46]⟩ ++ t).data.toList = b := ⟨_, rfl⟩
  have H4 := Lib.hid (under_match s t hb)
  have H5 := Lib.hid hb
  have H6 := Lib.hid (under_not s t)
  have hzu : (s ++ ⟨#[46]⟩ ++ t).size ≤ 100000 := by rw [ByteArray.size_append, ByteArray.size_append]; show s.size + 1 + t.size ≤ _; omega
  have hzt : t.size ≤ 100000 := by omega
  clear h1 h2 hb
  go_enter Tryd.func8, Tryd.ntmps8
  go_wp2_with fail
  with_reducible refine (canon_at _ hz0 H1.out).mono ?_
  rintro _ w1 ⟨rfl, hb1⟩
  go_wp2_with fail
  with_reducible refine (canon_at _ hz1 H2.out).mono ?_
  rintro _ w2 ⟨rfl, hb⟩
  have hb2 := chain hb1 hb
  clear hb hb1
  go_wp2_with fail
  with_reducible refine (canon_at _ hz3 H3.out).mono ?_
  rintro _ w3 ⟨rfl, hb⟩
  have hb3 := chain hb2 hb
  clear hb hb2
  go_wp2_with fail
  with_reducible refine (alive_any _).mono ?_
  rintro _ w4 ⟨rfl, hb⟩
  have hb4 := chain hb3 hb
  clear hb hb3
  go_wp2_with fail
  with_reducible refine (match_at _ hzu hzt H4.out).mono ?_
  rintro _ w5 ⟨rfl, hb⟩
  have hb5 := chain hb4 hb
  clear hb hb4
  go_wp2_with fail
  with_reducible refine (ip_at _ hzu H5.out).mono ?_
  rintro _ w6 ⟨rfl, hb⟩
  have hb6 := chain hb5 hb
  clear hb hb5
  go_wp2_with fail
  with_reducible refine (match_at _ hzt hzu H6.out).mono ?_
  rintro _ w7 ⟨rfl, hb⟩
  have hb7 := chain hb6 hb
  clear hb hb6
  go_wp2
  go_ret
  exact ⟨rfl, hb7⟩

set_option maxRecDepth 100000 in
theorem lifted (os : Os) (started : os.Started) (H : Type) (enc : TypeId × Value → H) :
    ReturnsInHanded {} Tryd.checked os 8 .any (fun w args => (Rows.hostUnderSpec.pre enc Tryd.prog Tryd.f8 [] false w args ∧ laidMetH Tryd.prog listed w) ∧ sizedMet enc Tryd.prog Tryd.f8 (OpenSpec.ofChange Rows.hostUnderSpec) false w args)
      (Rows.hostUnderSpec.post enc Tryd.prog Tryd.f8 false true false false) := by
  refine returnsInHanded_of_change_and (C := Tryd.checked) (X := fun w _ => laidMetH Tryd.prog listed w) (fun _ _ _ hh h => h.of_heap hh) own started (by kernel_rfl) Tryd.func8
    (ChangeSpec.witness_shaped (enc := enc) (C := Tryd.checked) (os := os) (X := fun w _ => laidMetH Tryd.prog listed w) false (laidOver (World.holding Tryd.prog os ⟨#[], #[], []⟩)) #[.string ByteArray.empty, .string ByteArray.empty] 8 rfl (World.shaped_of_RefB (by kernel_rfl) (by kernel_rfl)) (by kernel_rfl) (by kernel_rfl) (by kernel_rfl) (laid_over os _)) ?_
  intro W base args ds gs before hval0 hW hcnd hsz0 hL _
  have hT := tabs_listed hL
  have hval : ∀ (j : Nat) t v, Tryd.f8.params[j]? = some t → args[j]? = some v → Value.okWide Tryd.prog W .any base t v := hval0
  have hsz : (DataW.weightsEach Tryd.prog (Tryd.f8.params.toList ++ Rows.hostUnderSpec.plain.varTypes Tryd.prog) (ds ++ gs)).all (· ≤ reachBytes) = true := hsz0
  have hW' := hW
  obtain ⟨p, q, hA0, hV, rfl, hfz, hnd⟩ := hW
  have hA : DataW.TrodAll enc Tryd.prog W 0 (fun _ => true) true Tryd.f8.params.toList args.toList ds p := hA0
  rw [Tryd.params8] at hA hval hsz
  obtain ⟨v0, vs0, d0, ds0, p0, q0, hargs, rfl, rfl, h0, r0⟩ := trodAll_cons hA
  obtain ⟨v1, vs1, d1, ds1, p1, q1, rfl, rfl, rfl, h1, r1⟩ := trodAll_cons r0
  obtain ⟨rfl, rfl, rfl⟩ := trodAll_nil r1
  obtain rfl : args = #[v0, v1] := by cases args; simp_all
  obtain ⟨rfl, rfl⟩ := trodVars_none hV
  obtain ⟨a0, rfl, rfl, rfl, m0⟩ := open_string Tryd.underlying9 (hval 0 9 v0 rfl rfl) h0
  obtain ⟨a1, rfl, rfl, rfl, m1⟩ := open_string Tryd.underlying9 (hval 1 9 v1 rfl rfl) h1
  have w0 : a0.size ≤ 140737488351232 := by
    have h := sized_string hsz (j := 0) (t := 9) rfl rfl
    have e : a0.data.toList.length = a0.size := by simp
    unfold reachBytes at h
    omega
  have w1 : a1.size ≤ 140737488351232 := by
    have h := sized_string hsz (j := 1) (t := 9) rfl rfl
    have e : a1.data.toList.length = a1.size := by simp
    unfold reachBytes at h
    omega
  clear hA0 hval0 hsz hsz0
  refine (walk a0 a1 w0 w1 W hT).mono fun e W' ⟨he, bel⟩ => ?_
  subst he
  exact ⟨_, rfl, _, _, _, [], _, [], hW', trodAll_mk1 (shut_bool Tryd.underlying4 _), (trodAll_cons_mk (shut_string Tryd.underlying9 m0) (trodAll_cons_mk (shut_string Tryd.underlying9 m1) trodAll_mk0)), rfl, bel.frame _, fun h => by cases h⟩

theorem over : Rows.hostUnderRow.holds Tryd.pinned (OpenSpec.ofChange Rows.hostUnderSpec) :=
  OpenClaim.holds_of_wide 8 Tryd.f8 rfl rfl rfl rfl rfl rfl rfl ⟨rfl, rfl, rfl, rfl, rfl⟩ rfl rfl rfl rfl rfl (by kernel_rfl) Tryd.func8 (by kernel_rfl)
    (of_decide_eq_true (by kernel_rfl)) (by unfold Func.isWrapper; first | (rw [if_pos (by decide +kernel)]; kernel_rfl) | (rw [if_neg (by decide +kernel)]; exact ⟨rfl, rfl⟩))
    (fun os started H enc _ => lifted os started H enc)

set_option maxRecDepth 100000 in
theorem card : Rows.HostUnderCardSaid :=
  Claim7.holds_tied_plain_at .later [] _ true Rows.hostUnderCard.stood.harness false
    over (fun _ h => by cases h) (by kernel_rfl) (fun _ h => by cases h) hostUnder_row_tie rfl ⟨rfl, rfl⟩ (by kernel_rfl) rfl
    (fun f fn hf hfn => by
      obtain rfl : f = 8 := Option.some.inj ((show Tryd.prog.funcNamed Rows.hostUnderRow.func = some 8 by kernel_rfl).symm.trans hf) |>.symm
      obtain rfl : fn = Tryd.f8 := (Option.some.inj (Tryd.func8.symm.trans hfn)).symm
      exact ⟨by kernel_rfl, fun j t ht => by
        rw [Tryd.params8] at ht
        have hm : t ∈ [9] := by first | (simpa using Array.mem_of_getElem? ht) | (have hq := Array.mem_of_getElem? ht; simp at hq ⊢; omega)
        have hall : ([9].all fun u => !Tryd.prog.wantsStandIn u) = true := by kernel_rfl
        exact (show Tryd.prog.wantsStandIn t = false by simpa using List.all_eq_true.1 hall t hm)⟩)
    (by kernel_rfl)

end Go.Proofs.YtlcnnkameflidaaDoor.hostUnder
namespace Go.Proofs.YtlcnnkameflidaaDoor
/-- The statement. -/
theorem hostUnder_proved : Rows.HostUnderCardSaid := hostUnder.card
end Go.Proofs.YtlcnnkameflidaaDoor
