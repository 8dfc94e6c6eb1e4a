/-
  For every number r and every text behind, cracknellaw05.UtfPuts(r, behind) returns true and leaves them as they were. Conditions: none beyond the form's own (a string that is read takes at most 2^47 - 4096 bytes). The two tables of the library's utf8 (first, acceptRanges) are as the program's text lays them: the statement is a tied card, over the pruned copy of the project that its seat holds; what tests or other packages might write there it leaves to the translator's report.
-/
import Derived.Test.YtncgecelnndneaaDoorUtfAlive
import Derived.Test.YtncgecelnndneaaDoorUtfLaid
import Derived.Test.YtncgecelnndneaaDoorTie
import Derived.Test.YtncgecelnndneaaDoorCards
import Derived.SevenTiedAt
import Derived.LaidLaws
import Derived.Stop.Joined
import Derived.ProofKit
import Derived.OpenShut
import Derived.ShutString
import Derived.ChangeOld
import Derived.SizedLaws
namespace Go.Proofs.YtncgecelnndneaaDoor.utfPuts
open Go.ChangeShapes Go.WideShapes Go.ChangeAt Go.RowKit
open Go.ChangeMaps (open_string shut_string)
set_option linter.unusedVariables false

theorem own : ownKnob Tryd.prog.godebug = none := by kernel_rfl

theorem take_more (r : Nat) (b : ByteArray) (hr : letter r) : takeU (putUB r ++ b).data.toList = (r, (putUB r).size, true) := by
  have e : (putUB r).data.toList = putU r := by simp [putUB]
  rw [app_list, e, takeU_put r _ hr]
  have : (putU r).length = (putUB r).size := by rw [← e, list_len]
  rw [this]

theorem putUB_size (r : Nat) : (putUB r).size ≤ 4 := by
  have := (putU_len r).2
  show (putU r).toArray.size ≤ 4
  rw [List.size_toArray]
  exact this

theorem nothing_more (b : ByteArray) : ByteArray.empty ++ b = b := ba_ext (by rw [app_list]; rfl)

set_option maxRecDepth 100000 in
set_option maxHeartbeats 1600000 in
theorem walk (a0 : Int) (a1 : ByteArray) (w0 : (Lit.int .i64 a0).wf = true) (w1 : a1.size ≤ 140737488351232) (w : World) (hT : Tabs w) :
    Calls Tryd.prog 3 #[.int .i64 a0, .string a1] w fun e w' => e = .returned (.bool true) ∧ Below w.heap.size w w' := by
  obtain ⟨l0, u0⟩ := bounds_i64 w0
  clear w0
  by_cases hl : letB a0 = true
  · obtain ⟨e1, e2⟩ := letB_letter a0 hl
    obtain ⟨r, hr⟩ : ∃ r : Nat, a0.toNat = r := ⟨_, rfl⟩
    rw [hr] at e1 e2
    subst e1
    have hz := putUB_size r
    have hss : (putUB r).size + a1.size ≤ 9223372036854775807 := by omega
    have hsz : (putUB r ++ a1).size ≤ 1000000000000000 := by rw [ByteArray.size_append]; omega
    have HT := Lib.hid (take_more r a1 e2)
    have HL := Lib.hid e2
    clear hl hr e2
    go_enter Tryd.func3, Tryd.ntmps3
    go_wp2_with fail
    refine (putu_yes r _ HL.out).mono ?_
    rintro _ w1 ⟨rfl, hb1⟩
    go_wp2_with fail
    refine (rputu_yes r _ HL.out).mono ?_
    rintro _ w2 ⟨rfl, hb⟩
    have hb2 := chain hb1 hb
    clear hb hb1
    go_wp2_with fail
    with_reducible refine (takeu_any (putUB r ++ a1) _ _ _ _ (by first | exact hT | exact hT.keep hb1 | exact hT.keep hb2) HT.out).mono ?_
    rintro _ w1 ⟨rfl, hb⟩
    have hb1 := chain hb2 hb
    clear hb hb2 HT HL hss hsz
    go_wp2_with fail
    refine (alive_any _ (by first | exact hT | exact hT.keep hb1 | exact hT.keep hb2)).mono ?_
    rintro _ w2 ⟨rfl, hb⟩
    have hb2 := chain hb1 hb
    clear hb hb1
    go_wp2
    go_ret
    exact ⟨rfl, hb2⟩
  · have hno : letB a0 = false := by simpa using hl
    obtain ⟨x, n, b, ht⟩ : ∃ x n b, takeU a1.data.toList = (x, n, b) := ⟨_, _, _, rfl⟩
    have HT : Hid (takeU (ByteArray.empty ++ a1).data.toList = (x, n, b)) := by show _ = _; rw [nothing_more]; exact ht
    have hss : ByteArray.empty.size + a1.size ≤ 9223372036854775807 := by show 0 + _ ≤ _; omega
    have hsz : (ByteArray.empty ++ a1).size ≤ 1000000000000000 := by rw [nothing_more]; omega
    have HL := Lib.hid hno
    clear hl hno ht
    go_enter Tryd.func3, Tryd.ntmps3
    go_wp2_with fail
    refine (putu_no a0 _ l0 u0 HL.out).mono ?_
    rintro _ w1 ⟨rfl, hb1⟩
    go_wp2_with fail
    refine (rputu_no a0 _ HL.out).mono ?_
    rintro _ w2 ⟨rfl, hb⟩
    have hb2 := chain hb1 hb
    clear hb hb1
    go_wp2_with fail
    refine (takeu_any (ByteArray.empty ++ a1) x n b _ (by first | exact hT | exact hT.keep hb1 | exact hT.keep hb2) HT.out).mono ?_
    rintro _ w1 ⟨rfl, hb⟩
    have hb1 := chain hb2 hb
    clear hb hb2 HT HL hss hsz
    go_wp2_with fail
    refine (alive_any _ (by first | exact hT | exact hT.keep hb1 | exact hT.keep hb2)).mono ?_
    rintro _ w2 ⟨rfl, hb⟩
    have hb2 := chain hb1 hb
    clear hb hb1
    go_wp2
    go_ret
    exact ⟨rfl, hb2⟩

set_option maxRecDepth 100000 in
theorem lifted (os : Os) (started : os.Started) (H : Type) (enc : TypeId × Value → H) :
    ReturnsInHanded {} Tryd.checked os 3 .any (fun w args => (Rows.utfPutsSpec.pre enc Tryd.prog Tryd.f3 [] false w args ∧ laidMetH Tryd.prog listed w) ∧ sizedMet enc Tryd.prog Tryd.f3 (OpenSpec.ofChange Rows.utfPutsSpec) false w args)
      (Rows.utfPutsSpec.post enc Tryd.prog Tryd.f3 false true false false) := by
  refine returnsInHanded_of_change_and (C := Tryd.checked) (X := fun w _ => laidMetH Tryd.prog listed w) (fun _ _ _ hh h => h.of_heap hh) own started (by kernel_rfl) Tryd.func3
    (ChangeSpec.witness_shaped (enc := enc) (C := Tryd.checked) (os := os) (X := fun w _ => laidMetH Tryd.prog listed w) false (laidOver (World.holding Tryd.prog os ⟨#[], #[], []⟩)) #[.int .i64 0, .string ByteArray.empty] 8 rfl (World.shaped_of_RefB (by kernel_rfl) (by kernel_rfl)) (by kernel_rfl) (by kernel_rfl) (by kernel_rfl) (laid_over os _)) ?_
  intro W base args ds gs before hval0 hW hcnd hsz0 hL _
  have hT := tabs_listed hL
  have hval : ∀ (j : Nat) t v, Tryd.f3.params[j]? = some t → args[j]? = some v → Value.okWide Tryd.prog W .any base t v := hval0
  have hsz : (DataW.weightsEach Tryd.prog (Tryd.f3.params.toList ++ Rows.utfPutsSpec.plain.varTypes Tryd.prog) (ds ++ gs)).all (· ≤ reachBytes) = true := hsz0
  have hW' := hW
  obtain ⟨p, q, hA0, hV, rfl, hfz, hnd⟩ := hW
  have hA : DataW.TrodAll enc Tryd.prog W 0 (fun _ => true) true Tryd.f3.params.toList args.toList ds p := hA0
  rw [Tryd.params3] at hA hval hsz
  obtain ⟨v0, vs0, d0, ds0, p0, q0, hargs, rfl, rfl, h0, r0⟩ := trodAll_cons hA
  obtain ⟨v1, vs1, d1, ds1, p1, q1, rfl, rfl, rfl, h1, r1⟩ := trodAll_cons r0
  obtain ⟨rfl, rfl, rfl⟩ := trodAll_nil r1
  obtain rfl : args = #[v0, v1] := by cases args; simp_all
  obtain ⟨rfl, rfl⟩ := trodVars_none hV
  obtain ⟨a0, rfl, rfl, rfl, w0⟩ := open_int Tryd.underlying3 (hval 0 3 v0 rfl rfl) h0
  obtain ⟨a1, rfl, rfl, rfl, m1⟩ := open_string Tryd.underlying9 (hval 1 9 v1 rfl rfl) h1
  have w1 : a1.size ≤ 140737488351232 := by
    have h := sized_string hsz (j := 1) (t := 9) rfl rfl
    have e : a1.data.toList.length = a1.size := by simp
    unfold reachBytes at h
    omega
  clear hA0 hval0 hsz hsz0
  refine (walk a0 a1 w0 w1 W hT).mono fun e W' ⟨he, bel⟩ => ?_
  subst he
  exact ⟨_, rfl, _, _, _, [], _, [], hW', trodAll_mk1 (shut_bool Tryd.underlying4 _), (trodAll_cons_mk (shut_int Tryd.underlying3 w0) (trodAll_cons_mk (shut_string Tryd.underlying9 m1) trodAll_mk0)), rfl, bel.frame _, fun h => by cases h⟩

theorem over : Rows.utfPutsRow.holds Tryd.pinned (OpenSpec.ofChange Rows.utfPutsSpec) :=
  OpenClaim.holds_of_wide 3 Tryd.f3 rfl rfl rfl rfl rfl rfl rfl ⟨rfl, rfl, rfl, rfl, rfl⟩ rfl rfl rfl rfl rfl (by kernel_rfl) Tryd.func3 (by kernel_rfl)
    (of_decide_eq_true (by kernel_rfl)) (by unfold Func.isWrapper; first | (rw [if_pos (by decide +kernel)]; kernel_rfl) | (rw [if_neg (by decide +kernel)]; exact ⟨rfl, rfl⟩))
    (fun os started H enc _ => lifted os started H enc)

set_option maxRecDepth 100000 in
theorem card : Rows.UtfPutsCardSaid :=
  Claim7.holds_tied_plain_at .later [] [.data, .pinned] true Rows.utfPutsCard.stood.harness false
    over (fun _ h => by cases h) (by kernel_rfl) (fun _ h => by cases h) utfPuts_row_tie rfl ⟨rfl, rfl⟩ (by kernel_rfl) rfl
    (fun f fn hf hfn => by
      obtain rfl : f = 3 := Option.some.inj ((show Tryd.prog.funcNamed Rows.utfPutsRow.func = some 3 by kernel_rfl).symm.trans hf) |>.symm
      obtain rfl : fn = Tryd.f3 := (Option.some.inj (Tryd.func3.symm.trans hfn)).symm
      exact ⟨by kernel_rfl, fun j t ht => by
        rw [Tryd.params3] at ht
        have hm : t ∈ [3, 9] := by simpa using Array.mem_of_getElem? ht
        have hall : ([3, 9].all fun u => !Tryd.prog.wantsStandIn u) = true := by kernel_rfl
        exact (show Tryd.prog.wantsStandIn t = false by simpa using List.all_eq_true.1 hall t hm)⟩)
    (by kernel_rfl)

end Go.Proofs.YtncgecelnndneaaDoor.utfPuts
namespace Go.Proofs.YtncgecelnndneaaDoor
/-- The statement. -/
theorem utfPuts_proved : Rows.UtfPutsCardSaid := utfPuts.card
end Go.Proofs.YtncgecelnndneaaDoor
