/-
  For every text s and numbers ahead, behind, cracknellaw08.JsonBlanks(s, ahead, behind) returns true. Conditions: none beyond the form's own (a string that is read takes at most 2^47 - 4096 bytes).
-/
import Derived.Test.YtmnigdcgdebgoaaDoorJsF
import Derived.Test.YtmnigdcgdebgoaaDoorJsH
import Derived.Test.YtmnigdcgdebgoaaDoorJsonBlE
import Derived.Test.YtmnigdcgdebgoaaDoorJsonBlD
import Derived.Test.YtmnigdcgdebgoaaDoorJsonBlO
import Derived.Test.YtmnigdcgdebgoaaDoorUtfLaid
import Derived.Test.YtmnigdcgdebgoaaDoorTie
import Derived.Test.YtmnigdcgdebgoaaDoorCards
import Derived.SevenTiedAt
import Derived.LaidLaws
import Derived.Stop.Joined
import Derived.ProofKit
import Derived.OpenShut
import Derived.ShutString
import Derived.ChangeOld
import Derived.SizedLaws
namespace Go.Proofs.YtmnigdcgdebgoaaDoor.jsonBlanks
open Go.ChangeShapes Go.WideShapes Go.ChangeAt Go.RowKit
open Go.ChangeMaps (open_string shut_string)
set_option linter.unusedVariables false

theorem own : ownKnob Tryd.prog.godebug = none := by kernel_rfl

theorem blanks_cut (n : Nat) : Blanks ((⟨#[32, 9, 10, 13, 13, 10, 9, 32, 32]⟩ : ByteArray).extract 0 n).data.toList ∧ ((⟨#[32, 9, 10, 13, 13, 10, 9, 32, 32]⟩ : ByteArray).extract 0 n).size ≤ 9 := by
  constructor
  · intro c hc
    have h : c ∈ (⟨#[32, 9, 10, 13, 13, 10, 9, 32, 32]⟩ : ByteArray).data.toList := by
      rw [extract_list] at hc
      exact List.mem_of_mem_drop (List.mem_of_mem_take hc)
    have key : ∀ c ∈ (⟨#[32, 9, 10, 13, 13, 10, 9, 32, 32]⟩ : ByteArray).data.toList, blankN c.toNat = true := by decide
    exact key c h
  · rw [ByteArray.size_extract]
    have : (⟨#[32, 9, 10, 13, 13, 10, 9, 32, 32]⟩ : ByteArray).size = 9 := rfl
    omega

set_option maxRecDepth 100000 in
set_option maxHeartbeats 1600000 in
theorem walk (a0 : ByteArray) (a1 : Int) (a2 : Int) (w0 : a0.size ≤ 140737488351232) (w1 : (Lit.int .i64 a1).wf = true) (w2 : (Lit.int .i64 a2).wf = true) (w : World) (hT : Tabs w) :
    Calls Tryd.prog 7 #[.string a0, .int .i64 a1, .int .i64 a2] w fun e w' => e = .returned (.bool true) ∧ Below w.heap.size w w' := by
  have HT := Lib.hid hT
  clear hT
  by_cases h0 : 500 < a0.size
  · have z0 : (500 : Int) < (a0.size : Int) := by omega
    go_enter Tryd.func7, Tryd.ntmps7
    go_wp2_with fail
    refine (alive8_any _ HT.out).mono ?_
    rintro _ w1 ⟨rfl, hb1⟩
    go_wp2
    go_ret
    exact ⟨rfl, hb1⟩
  · have z0 : ¬ (500 : Int) < (a0.size : Int) := by omega
    by_cases h1 : a1 < 0
    · skip
      go_enter Tryd.func7, Tryd.ntmps7
      go_wp2_with fail
      refine (alive8_any _ HT.out).mono ?_
      rintro _ w1 ⟨rfl, hb1⟩
      go_wp2
      go_ret
      exact ⟨rfl, hb1⟩
    · skip
      by_cases h2 : 9 < a1
      · skip
        go_enter Tryd.func7, Tryd.ntmps7
        go_wp2_with fail
        refine (alive8_any _ HT.out).mono ?_
        rintro _ w1 ⟨rfl, hb1⟩
        go_wp2
        go_ret
        exact ⟨rfl, hb1⟩
      · skip
        by_cases h3 : a2 < 0
        · skip
          go_enter Tryd.func7, Tryd.ntmps7
          go_wp2_with fail
          refine (alive8_any _ HT.out).mono ?_
          rintro _ w1 ⟨rfl, hb1⟩
          go_wp2
          go_ret
          exact ⟨rfl, hb1⟩
        · skip
          by_cases h4 : 9 < a2
          · skip
            go_enter Tryd.func7, Tryd.ntmps7
            go_wp2_with fail
            refine (alive8_any _ HT.out).mono ?_
            rintro _ w1 ⟨rfl, hb1⟩
            go_wp2
            go_ret
            exact ⟨rfl, hb1⟩
          · skip
            obtain ⟨n1, hn1⟩ : ∃ n : Nat, a1 = (n : Int) := ⟨a1.toNat, by omega⟩
            obtain ⟨n2, hn2⟩ : ∃ n : Nat, a2 = (n : Int) := ⟨a2.toNat, by omega⟩
            subst hn1 hn2
            have q1 : n1 ≤ 9 := by omega
            have q2 : n2 ≤ 9 := by omega
            have q3 : (0 : Int) ≤ (n1 : Int) := by omega
            have q4 : (0 : Int) ≤ (n2 : Int) := by omega
            have q5 : (n1 : Int) ≤ 9 := by omega
            have q6 : (n2 : Int) ≤ 9 := by omega
            obtain ⟨A, hA⟩ : ∃ t, (⟨#[32, 9, 10, 13, 13, 10, 9, 32, 32]⟩ : ByteArray).extract 0 n1 = t := ⟨_, rfl⟩
            obtain ⟨B, hB⟩ : ∃ t, (⟨#[32, 9, 10, 13, 13, 10, 9, 32, 32]⟩ : ByteArray).extract 0 n2 = t := ⟨_, rfl⟩
            have bA := blanks_cut n1
            have bB := blanks_cut n2
            rw [hA] at bA
            rw [hB] at bB
            have zA := bA.2
            have zB := bB.2
            obtain ⟨E, l, hp⟩ : ∃ E l, parseL readD a0.data.toList = (E, l) := ⟨_, _, rfl⟩
            obtain ⟨G, n, hp4⟩ : ∃ E l, parseL readD ((⟨#[91]⟩ : ByteArray) ++ A ++ a0 ++ B ++ ⟨#[93]⟩).data.toList = (E, l) := ⟨_, _, rfl⟩
            obtain ⟨E3, l3, hp3⟩ : ∃ E l, parseL readD (A ++ a0 ++ B).data.toList = (E, l) := ⟨_, _, rfl⟩
            have hp2 : parseL readD (A ++ a0).data.toList = (E, l) := by
              rw [app_list, parse_ahead readD _ _ bA.1, hp]
            have hbe := parse_behind readD (A.data.toList ++ a0.data.toList) B.data.toList bB.1
            have e3 : (A ++ a0 ++ B).data.toList = A.data.toList ++ a0.data.toList ++ B.data.toList := by rw [app_list, app_list]
            rw [← e3, hp3, ← app_list, hp2] at hbe
            have el3 : l3 = l := hbe.2
            subst el3
            have hEE : E3 = 0 ↔ E = 0 := hbe.1
            have e4 : ((⟨#[91]⟩ : ByteArray) ++ A ++ a0 ++ B ++ ⟨#[93]⟩).data.toList = 91 :: (A.data.toList ++ (a0.data.toList ++ (B.data.toList ++ [93]))) := by
              rw [app_list, app_list, app_list, app_list]
              simp
            clear e3 hbe
            have HLZ0 := Lib.hid hp
            by_cases hE : E = 0
            · have hE3 : E3 = 0 := hEE.2 hE
              subst hE hE3
              obtain ⟨j, hj, hl, hw⟩ := parse_good _ _ hp
              rw [list_len] at hw
              have hsm := small_rows j hj 500 (by rw [← hl]; omega) (by omega)
              have htl := j.text_len 0 [] hj
              rw [← hl] at hsm htl
              have hlz : l3.length ≤ 100000 := hsm.1
              have hpu : printU l3 = j.text printL := by rw [hl]; exact j.printed hj
              have hpz : (printU l3).length ≤ 1000000 := by rw [hpu]; omega
              have harr := parse_array a0.data.toList A.data.toList B.data.toList l3 bA.1 bB.1 hp
              rw [← e4, hp4] at harr
              rcases harr with harr | ⟨n', harr, hlen, hpr⟩
              · have g1 : G = 81 := congrArg Prod.fst harr
                have g2 : n = [] := congrArg Prod.snd harr
                subst g1 g2
                exact blanks_deep a0 n1 n2 w HT h0 q1 q2 A B hA hB zA zB l3 hlz hp hp2 hp3 hp4
              · have g1 : G = 0 := congrArg Prod.fst harr
                have g2 : n = n' := congrArg Prod.snd harr
                subst g1 g2
                obtain ⟨j4, hj4, hl4, hw4⟩ := parse_good _ _ hp4
                have hsz : ((⟨#[91]⟩ : ByteArray) ++ A ++ a0 ++ B ++ ⟨#[93]⟩).data.toList.length ≤ 1000 := by
                  rw [e4]
                  simp only [List.length_cons, List.length_append, List.length_nil]
                  rw [list_len, list_len, list_len]
                  omega
                have hsm4 := small_rows j4 hj4 1000 (by rw [← hl4]; omega) (by omega)
                rw [← hl4] at hsm4
                have hQP : bytesOf (printU n) = (⟨#[91]⟩ : ByteArray) ++ bytesOf (printU l3) ++ ⟨#[93]⟩ := by
                  apply ba_ext
                  rw [app_list, app_list, list_bytesOf, list_bytesOf, hpr]
                  simp
                have hqz : (printU n).length ≤ 100000000000 := by
                  rw [hpr]
                  simp only [List.length_cons, List.length_append, List.length_nil]
                  omega
                exact blanks_ok a0 n1 n2 w HT h0 q1 q2 A B hA hB zA zB l3 n hlz hp hp2 hp3 hp4 hsm hsm4 _ _ (by rw [bytesOf_size]; exact hpz) rfl (show _ ≤ _ by omega) rfl hqz hQP hlen
            · have hE3 : E3 ≠ 0 := fun h => hE (hEE.1 h)
              have hl : l3 = [] := by
                have := parse_err a0.data.toList (by rw [hp]; exact hE)
                rw [hp] at this
                exact this
              subst hl
              exact blanks_err a0 n1 n2 w HT h0 q1 q2 A B hA hB zA zB E E3 G n hE hE3 hp hp2 hp3 hp4

set_option maxRecDepth 100000 in
theorem lifted (os : Os) (started : os.Started) (H : Type) (enc : TypeId × Value → H) :
    ReturnsInHanded {} Tryd.checked os 7 .any (fun w args => (Rows.jsonBlanksSpec.pre enc Tryd.prog Tryd.f7 [] false w args ∧ laidMetH Tryd.prog listed w) ∧ sizedMet enc Tryd.prog Tryd.f7 (OpenSpec.ofChange Rows.jsonBlanksSpec) false w args)
      (Rows.jsonBlanksSpec.post enc Tryd.prog Tryd.f7 false true false false) := by
  refine returnsInHanded_of_change_and (C := Tryd.checked) (X := fun w _ => laidMetH Tryd.prog listed w) (fun _ _ _ hh h => h.of_heap hh) own started (by kernel_rfl) Tryd.func7
    (ChangeSpec.witness_shaped (enc := enc) (C := Tryd.checked) (os := os) (X := fun w _ => laidMetH Tryd.prog listed w) false (laidOver (World.holding Tryd.prog os ⟨#[], #[], []⟩)) #[.string ByteArray.empty, .int .i64 0, .int .i64 0] 8 rfl (World.shaped_of_RefB (by kernel_rfl) (by kernel_rfl)) (by kernel_rfl) (by kernel_rfl) (by kernel_rfl) (laid_over os _)) ?_
  intro W base args ds gs before hval0 hW hcnd hsz0 hL _
  have hT := tabs_listed hL
  have hval : ∀ (j : Nat) t v, Tryd.f7.params[j]? = some t → args[j]? = some v → Value.okWide Tryd.prog W .any base t v := hval0
  have hsz : (DataW.weightsEach Tryd.prog (Tryd.f7.params.toList ++ Rows.jsonBlanksSpec.plain.varTypes Tryd.prog) (ds ++ gs)).all (· ≤ reachBytes) = true := hsz0
  have hW' := hW
  obtain ⟨p, q, hA0, hV, rfl, hfz, hnd⟩ := hW
  have hA : DataW.TrodAll enc Tryd.prog W 0 (fun _ => true) true Tryd.f7.params.toList args.toList ds p := hA0
  rw [Tryd.params7] at hA hval hsz
  obtain ⟨v0, vs0, d0, ds0, p0, q0, hargs, rfl, rfl, h0, r0⟩ := trodAll_cons hA
  obtain ⟨v1, vs1, d1, ds1, p1, q1, rfl, rfl, rfl, h1, r1⟩ := trodAll_cons r0
  obtain ⟨v2, vs2, d2, ds2, p2, q2, rfl, rfl, rfl, h2, r2⟩ := trodAll_cons r1
  obtain ⟨rfl, rfl, rfl⟩ := trodAll_nil r2
  obtain rfl : args = #[v0, v1, v2] := by cases args; simp_all
  obtain ⟨rfl, rfl⟩ := trodVars_none hV
  obtain ⟨a0, rfl, rfl, rfl, m0⟩ := open_string Tryd.underlying9 (hval 0 9 v0 rfl rfl) h0
  obtain ⟨a1, rfl, rfl, rfl, w1⟩ := open_int Tryd.underlying3 (hval 1 3 v1 rfl rfl) h1
  obtain ⟨a2, rfl, rfl, rfl, w2⟩ := open_int Tryd.underlying3 (hval 2 3 v2 rfl rfl) h2
  have w0 : a0.size ≤ 140737488351232 := by
    have h := sized_string hsz (j := 0) (t := 9) rfl rfl
    have e : a0.data.toList.length = a0.size := by simp
    unfold reachBytes at h
    omega
  clear hA0 hval0 hsz hsz0
  refine (walk a0 a1 a2 w0 w1 w2 W hT).mono fun e W' ⟨he, bel⟩ => ?_
  subst he
  exact ⟨_, rfl, _, _, _, [], _, [], hW', trodAll_mk1 (shut_bool Tryd.underlying4 _), (trodAll_cons_mk (shut_string Tryd.underlying9 m0) (trodAll_cons_mk (shut_int Tryd.underlying3 w1) (trodAll_cons_mk (shut_int Tryd.underlying3 w2) trodAll_mk0))), rfl, bel.frame _, fun h => by cases h⟩

theorem over : Rows.jsonBlanksRow.holds Tryd.pinned (OpenSpec.ofChange Rows.jsonBlanksSpec) :=
  OpenClaim.holds_of_wide 7 Tryd.f7 rfl rfl rfl rfl rfl rfl rfl ⟨rfl, rfl, rfl, rfl, rfl⟩ rfl rfl rfl rfl rfl (by kernel_rfl) Tryd.func7 (by kernel_rfl)
    (of_decide_eq_true (by kernel_rfl)) (by unfold Func.isWrapper; first | (rw [if_pos (by decide +kernel)]; kernel_rfl) | (rw [if_neg (by decide +kernel)]; exact ⟨rfl, rfl⟩))
    (fun os started H enc _ => lifted os started H enc)

set_option maxRecDepth 100000 in
theorem card : Rows.JsonBlanksCardSaid :=
  Claim7.holds_tied_plain_at .later [] [.data, .pinned] true Rows.jsonBlanksCard.stood.harness false
    over (fun _ h => by cases h) (by kernel_rfl) (fun _ h => by cases h) jsonBlanks_row_tie rfl ⟨rfl, rfl⟩ (by kernel_rfl) rfl
    (fun f fn hf hfn => by
      obtain rfl : f = 7 := Option.some.inj ((show Tryd.prog.funcNamed Rows.jsonBlanksRow.func = some 7 by kernel_rfl).symm.trans hf) |>.symm
      obtain rfl : fn = Tryd.f7 := (Option.some.inj (Tryd.func7.symm.trans hfn)).symm
      exact ⟨by kernel_rfl, fun j t ht => by
        rw [Tryd.params7] at ht
        have hm : t ∈ [9, 3] := by first | (simpa using Array.mem_of_getElem? ht) | (have hq := Array.mem_of_getElem? ht; simp at hq ⊢; omega)
        have hall : ([9, 3].all fun u => !Tryd.prog.wantsStandIn u) = true := by kernel_rfl
        exact (show Tryd.prog.wantsStandIn t = false by simpa using List.all_eq_true.1 hall t hm)⟩)
    (by kernel_rfl)

end Go.Proofs.YtmnigdcgdebgoaaDoor.jsonBlanks
namespace Go.Proofs.YtmnigdcgdebgoaaDoor
/-- The statement. -/
theorem jsonBlanks_proved : Rows.JsonBlanksCardSaid := jsonBlanks.card
end Go.Proofs.YtmnigdcgdebgoaaDoor
