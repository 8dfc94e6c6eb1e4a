/-
  For every text key and numbers n, m that together hold at most 1048576 values and letters (the form's own bound), cracknellaw08.JsonTwice(key, n, m) returns true, and leaves all memory that was there as it was. Conditions: that bound (without it the statement is false by size: the document's own Write is called ahead of the test of the key's length).
-/
import Derived.Test.YtmnigdcgdebgoaaDoorJsonTwM
import Derived.Test.YtmnigdcgdebgoaaDoorUtfLaid
import Derived.Test.YtmnigdcgdebgoaaDoorTie
import Derived.Test.YtmnigdcgdebgoaaDoorCards
import Derived.Deep.DeepHandedRow
import Derived.Deep.DeepWitnessRowRef
import Derived.SevenTiedAt
import Derived.LaidLaws
import Derived.Stop.Joined
import Derived.ProofKit
import Derived.OpenShut
import Derived.ShutString
import Derived.ChangeOld
import Derived.SizedLaws
namespace Go.Proofs.YtmnigdcgdebgoaaDoor.jsonTwice
open Go.ChangeShapes Go.WideShapes Go.ChangeAt Go.RowKit
open Go.ChangeMaps (open_string shut_string)
set_option linter.unusedVariables false

theorem own : ownKnob Tryd.prog.godebug = none := by kernel_rfl

set_option maxRecDepth 100000 in
set_option maxHeartbeats 1600000 in
theorem walk (a0 : ByteArray) (a1 : Int) (a2 : Int) (w0 : a0.size ≤ 1048576) (w1 : (Lit.int .i64 a1).wf = true) (w2 : (Lit.int .i64 a2).wf = true) (w : World) (hT : Tabs w) :
    Calls Tryd.prog 9 #[.string a0, .int .i64 a1, .int .i64 a2] w fun e w' => e = .returned (.bool true) ∧ Below w.heap.size w w' := by
  obtain ⟨b1, b2⟩ := bounds_i64 w1
  obtain ⟨c1, c2⟩ := bounds_i64 w2
  have HT := Lib.hid hT
  clear hT
  obtain ⟨QK, hQK⟩ : ∃ Q, (⟨(quoteL a0.data.toList).toArray⟩ : ByteArray) = Q := ⟨_, rfl⟩
  have hQl : QK.data.toList = quoteL a0.data.toList := by rw [← hQK]
  have HQK := Lib.hid hQK
  clear hQK
  cases hv : validB a0 with
  | false =>
    have HV := Lib.hid hv
    clear hv
    go_enter Tryd.func9, Tryd.ntmps9
    go_wp2_with fail
    refine (rwrite_any a0 _ (by omega)).mono ?_
    unfold quoteV
    rw [if_neg (by rw [HV.out]; simp)]
    rintro _ w3 ⟨rfl, hb3⟩
    have HB3 := Lib.hid (hb3.trans (((Below.refl w3.heap.size w3).alloc (Nat.le_refl _) (.cells #[.string ByteArray.empty] 9)).mono hb3.size))
    have HT3 := Lib.hid (HT.out.keep HB3.out)
    clear hb3
    go_wp2_with fail
    refine (alive8_any _ HT3.out).mono ?_
    rintro _ w4 ⟨rfl, hb4⟩
    have hb := chain HB3.out hb4
    go_wp2
    go_ret
    exact ⟨rfl, hb⟩
  | true =>
    have HV := Lib.hid hv
    clear hv
    by_cases hbig : 200 < a0.size
    · have z1 : (200 : Int) < (a0.size : Int) := by omega
      go_enter Tryd.func9, Tryd.ntmps9
      go_wp2_with fail
      refine (rwrite_any a0 _ (by omega)).mono ?_
      unfold quoteV
      rw [if_pos HV.out, HQK.out]
      rintro _ w3 ⟨rfl, hb3⟩
      have HB3 := Lib.hid (hb3.trans (((Below.refl w3.heap.size w3).alloc (Nat.le_refl _) (.cells #[.string QK] 9)).mono hb3.size))
      have HT3 := Lib.hid (HT.out.keep HB3.out)
      clear hb3
      go_wp2_with fail
      refine (alive8_any _ HT3.out).mono ?_
      rintro _ w4 ⟨rfl, hb4⟩
      have hb := chain HB3.out hb4
      go_wp2
      go_ret
      exact ⟨rfl, hb⟩
    · have z1 : ¬ (200 : Int) < (a0.size : Int) := by omega
      have hQz : QK.size ≤ 1202 := by
        rw [← list_len QK, hQl]
        have := quoteL_size a0.data.toList
        rw [list_len] at this
        omega
      have hvk : validL a0.data.toList := (valid_iff _).1 HV.out
      obtain ⟨M1, hM1⟩ : ∃ M, QK ++ ⟨#[58]⟩ ++ printB a1 = M := ⟨_, rfl⟩
      obtain ⟨M2, hM2⟩ : ∃ M, QK ++ ⟨#[58]⟩ ++ printB a2 = M := ⟨_, rfl⟩
      have e58 : (⟨#[58]⟩ : ByteArray).size = 1 := rfl
      have p1 := printB_small a1 b1 b2
      have p2 := printB_small a2 c1 c2
      have m1 : M1.size ≤ 1300 := by rw [← hM1, ByteArray.size_append, ByteArray.size_append, e58]; omega
      have m2 : M2.size ≤ 1300 := by rw [← hM2, ByteArray.size_append, ByteArray.size_append, e58]; omega
      have l1 : M1.data.toList = quoteL a0.data.toList ++ 58 :: printL a1 := by rw [← hM1, app_list, app_list, hQl, printB_list]; simp
      have l2 : M2.data.toList = quoteL a0.data.toList ++ 58 :: printL a2 := by rw [← hM2, app_list, app_list, hQl, printB_list]; simp
      obtain ⟨T1, hT1⟩ : ∃ T, (⟨#[91, 123]⟩ : ByteArray) ++ M1 ++ ⟨#[44]⟩ ++ M2 ++ ⟨#[125, 93]⟩ = T := ⟨_, rfl⟩
      obtain ⟨T2, hT2⟩ : ∃ T, (⟨#[123]⟩ : ByteArray) ++ QK ++ ⟨#[58, 123]⟩ ++ M1 ++ ⟨#[125, 125]⟩ = T := ⟨_, rfl⟩
      have e1 : (⟨#[91, 123]⟩ : ByteArray).size = 2 := rfl
      have e2 : (⟨#[44]⟩ : ByteArray).size = 1 := rfl
      have e3 : (⟨#[125, 93]⟩ : ByteArray).size = 2 := rfl
      have e4 : (⟨#[123]⟩ : ByteArray).size = 1 := rfl
      have e5 : (⟨#[58, 123]⟩ : ByteArray).size = 2 := rfl
      have e6 : (⟨#[125, 125]⟩ : ByteArray).size = 2 := rfl
      have t1 : T1.size ≤ 1000000 := by rw [← hT1, ByteArray.size_append, ByteArray.size_append, ByteArray.size_append, ByteArray.size_append]; omega
      have t2 : T2.size ≤ 1000000 := by rw [← hT2, ByteArray.size_append, ByteArray.size_append, ByteArray.size_append, ByteArray.size_append]; omega
      have q1 : parseL readD T1.data.toList = (82, []) := by
        have h := parse_twice a0.data.toList hvk a1 b1 b2 (printL a2 ++ [125, 93])
        rw [← h, ← hT1, app_list, app_list, app_list, app_list, l1, l2]
        simp
      have q2 : parseL readD T2.data.toList = (0, [⟨0, 7, [], [], 0⟩, ⟨1, 7, a0.data.toList, [], 0⟩, ⟨2, 4, a0.data.toList, [], a1⟩]) := by
        have h := parse_within a0.data.toList hvk a1 b1 b2
        rw [← h, ← hT2, app_list, app_list, app_list, app_list, l1, hQl]
        simp
      have HM1 := Lib.hid hM1
      have HM2 := Lib.hid hM2
      have HT1 := Lib.hid hT1
      have HT2 := Lib.hid hT2
      have HQ1 := Lib.hid q1
      have HQ2 := Lib.hid q2
      have hadd1 := fun w => run_string_add_sum (P := Tryd.prog) w ⟨#[123]⟩ QK (by rw [e4]; omega)
      have hadd2 := fun w => run_string_add_sum (P := Tryd.prog) w ((⟨#[123]⟩ : ByteArray) ++ QK) ⟨#[58, 123]⟩ (by rw [ByteArray.size_append]; omega)
      have hadd3 := fun w => run_string_add_sum (P := Tryd.prog) w ((⟨#[123]⟩ : ByteArray) ++ QK ++ ⟨#[58, 123]⟩) M1 (by rw [ByteArray.size_append, ByteArray.size_append]; omega)
      have hadd4 := fun w => run_string_add_sum (P := Tryd.prog) w ((⟨#[123]⟩ : ByteArray) ++ QK ++ ⟨#[58, 123]⟩ ++ M1) ⟨#[125, 125]⟩ (by rw [ByteArray.size_append, ByteArray.size_append, ByteArray.size_append]; omega)
      have HA := Lib.hid (And.intro hadd1 (And.intro hadd2 (And.intro hadd3 hadd4)))
      have s1 : 2 + M1.size ≤ 9223372036854775807 := by omega
      have s2 : 2 + M1.size + 1 ≤ 9223372036854775807 := by omega
      have s3 : 2 + M1.size + 1 + M2.size ≤ 9223372036854775807 := by omega
      have s4 : 2 + M1.size + 1 + M2.size + 2 ≤ 9223372036854775807 := by omega
      clear hM1 hM2 l1 l2 hT1 hT2 e1 e2 e3 e4 e5 e6 e58 q1 q2 hvk hadd1 hadd2 hadd3 hadd4 p1 p2 hbig hQl
      go_enter Tryd.func9, Tryd.ntmps9
      go_wp2_with fail
      refine (rwrite_any a0 _ (by omega)).mono ?_
      unfold quoteV
      rw [if_pos HV.out, HQK.out]
      rintro _ w3 ⟨rfl, hb3⟩
      have hba := ((Below.refl w3.heap.size w3).alloc (Nat.le_refl _) (.cells #[.string QK] 9))
      have HB3 := Lib.hid (hb3.trans (hba.mono hb3.size))
      have HT3 := Lib.hid (HT.out.keep HB3.out)
      have hc3 : (w3.alloc (.cells #[.string QK] 9)).cell? ⟨w3.heap.size, 0, none⟩ = some (.string QK) := cell_of_row _ w3.heap.size 0 _ _ _ (heap_alloc_new w3 _)
      have HC3 := Lib.hid hc3
      have hlt3 : w3.heap.size < (w3.alloc (.cells #[.string QK] 9)).heap.size := by simp
      have HL3 := Lib.hid hlt3
      clear hb3 hba hc3 hlt3 HT
      go_wp2_with fail
      refine (member_any QK w3.heap.size a1 b1 b2 M1 HM1.out _ HT3.out HC3.out (by omega)).mono ?_
      rintro _ w4 ⟨rfl, hb4⟩
      have HB4 := Lib.hid (chain HB3.out hb4)
      have HT4 := Lib.hid (HT3.out.keep hb4)
      have HC4 := Lib.hid ((hb4.cell (p := ⟨w3.heap.size, 0, none⟩) HL3.out).trans HC3.out)
      clear hb4 HB3 HT3 HC3
      go_wp2_with fail
      refine (member_any QK w3.heap.size a2 c1 c2 M2 HM2.out _ HT4.out HC4.out (by omega)).mono ?_
      rintro _ w5 ⟨rfl, hb5⟩
      have HB5 := Lib.hid (chain HB4.out hb5)
      have HT5 := Lib.hid (HT4.out.keep hb5)
      have HC5 := Lib.hid ((hb5.cell (p := ⟨w3.heap.size, 0, none⟩) (World.block_lt_of_cell? w4 ⟨w3.heap.size, 0, none⟩ HC4.out)).trans HC4.out)
      clear hb5 HB4 HT4 HC4 HL3
      go_wp2_with fail
      rw [HT1.out]
      refine (at_parse T1 82 [] _ HT5.out t1 HQ1.out).mono ?_
      rintro _ w6 ⟨ao6, cap6, rfl, _, hb6⟩
      rw [List.length_nil]
      have HB6 := Lib.hid (chain HB5.out hb6)
      have HT6 := Lib.hid ((HT5.out.keep hb6).keep (Below.refl _ _).drew)
      have hC6 := (hb6.cell (p := ⟨w3.heap.size, 0, none⟩) (World.block_lt_of_cell? w5 ⟨w3.heap.size, 0, none⟩ HC5.out)).trans HC5.out
      have HC6 := Lib.hid hC6
      clear hb6 HB5 HT5 HC5
      obtain ⟨ha1, ha2, ha3, ha4⟩ := HA.out
      obtain ⟨g, hg⟩ : ∃ g, w3.heap.size = g := ⟨_, rfl⟩
      rw [hg] at hC6 HC6 ⊢
      clear hg
      have hgl : g < w6.drew.heap.size := World.block_lt_of_cell? w6 ⟨g, 0, none⟩ hC6
      have HGL := Lib.hid hgl
      clear hgl
      obtain ⟨R3, hR3⟩ : ∃ R : List It, [⟨0, 7, [], [], 0⟩, ⟨1, 7, a0.data.toList, [], 0⟩, ⟨2, 4, a0.data.toList, [], a1⟩] = R := ⟨_, rfl⟩
      have hq2 := HQ2.out
      rw [hR3] at hq2
      have hn3 : R3.length = 3 := by rw [← hR3]; rfl
      have HQ3 := Lib.hid hq2
      have HN3 := Lib.hid hn3
      have HR3 := Lib.hid hR3
      clear hq2 hn3 hR3 HQ2
      go_wp2_with fail
      go_region_held3 (fun w' => w'.cell? ⟨g, 0, none⟩ = some (.string QK)) (first | assumption | go_keep) (first
        | (go_at_call 24; refine (member_any QK g a1 b1 b2 M1 HM1.out _ HT6.out HC6.out (by omega)).mono ?_; rintro _ w7 ⟨rfl, hb7⟩; have hc7 := (hb7.cell (p := ⟨g, 0, none⟩) HGL.out).trans HC6.out)
        | (go_at_call 20; rw [HT2.out]; refine (at_parse T2 0 R3 _ (HT6.out.keep hb7) t2 HQ3.out).mono ?_; rintro _ w8 ⟨ao8, cap8, rfl, hI8, hb8⟩; rw [HN3.out] at hI8 ⊢; have hc8 := (hb8.cell (p := ⟨g, 0, none⟩) (World.block_lt_of_cell? w7 ⟨g, 0, none⟩ hc7)).trans hc7))
      all_goals
        obtain ⟨ad, rfl, hcap, hcs⟩ : ∃ ad, ao8 = some ad ∧ 3 ≤ cap8 ∧ ∀ j u, (itsV R3)[j]? = some u → w8.cell? (ad.add j) = some u := by
          rcases hI8 with ⟨h, _⟩ | ⟨ad, c, h, h1, h2⟩
          · cases h
          · injection h with e1 e2 e3
            exact ⟨ad, e1, by rw [HN3.out] at h1; omega, h2⟩
        have HB8 := Lib.hid (chain (chain HB6.out.drew hb7) hb8)
        have HT8 := Lib.hid ((HT6.out.keep hb7).keep hb8)
        have HCS := Lib.hid hcs
        clear hb7 hb8 hc7 hc8 hcs ha1 ha2 ha3 ha4 hC6 HB6 HT6 HC6 hI8
        go_wp2_with fail
        refine (alive8_any _ HT8.out).mono ?_
        rintro _ w9 ⟨rfl, hb9⟩
        have HB9 := Lib.hid (chain HB8.out hb9)
        have hcs9 : ∀ j u, (itsV [(⟨0, 7, [], [], 0⟩ : It), ⟨1, 7, a0.data.toList, [], 0⟩, ⟨2, 4, a0.data.toList, [], a1⟩])[j]? = some u → w9.cell? (ad.add j) = some u := fun j u hj => by
          rw [HR3.out] at hj
          have h4 := HCS.out j u hj
          rw [hb9.cell (World.block_lt_of_cell? w8 _ h4)]
          exact h4
        obtain ⟨q0, q1, q2, q3, q4⟩ := its_cells hcs9 1 (by show 1 < 3; omega) a0 ⟨#[]⟩ (bytesOf_list a0).symm rfl
        obtain ⟨r0, r1, r2, r3, r4⟩ := its_cells hcs9 2 (by show 2 < 3; omega) a0 ⟨#[]⟩ (bytesOf_list a0).symm rfl
        have q2 : w9.cell? ⟨ad.block, ad.off + 5 + 2, none⟩ = some (.string a0) := q2
        have r0 : w9.cell? ⟨ad.block, ad.off + 10, none⟩ = some (.int .i64 2) := r0
        have r1 : w9.cell? ⟨ad.block, ad.off + 10 + 1, none⟩ = some (.int .i64 4) := r1
        have r2 : w9.cell? ⟨ad.block, ad.off + 10 + 2, none⟩ = some (.string a0) := r2
        have r3 : w9.cell? ⟨ad.block, ad.off + 10 + 3, none⟩ = some (.string ⟨#[]⟩) := r3
        have r4 : w9.cell? ⟨ad.block, ad.off + 10 + 4, none⟩ = some (.int .i64 a1) := r4
        have ee := eql_itemP 2 4 a1 2 4 a1 a0 ⟨#[]⟩ a0 ⟨#[]⟩ true (by rw [sameB_iff]; simp)
        have hgd := guardP
        have hkk : (a0.toList == a0.toList) = true := by simp
        clear hb9 hcs9 q0 q1 q3 q4
        go_wp2
        go_ret
        exact ⟨rfl, HB9.out⟩

set_option maxRecDepth 100000 in
theorem lifted (os : Os) (started : os.Started) (H : Type) (enc : TypeId × Value → H) (F : Stop.Interp) :
    ReturnsInHanded {} Tryd.checked os 9 .any ((Rows.OpenSpec.upto Rows.jsonTwiceSpec).preRow enc Tryd.prog Tryd.f9 Rows.jsonTwiceUptoRow.domain false Rows.jsonTwiceUptoRow.laid) (((Rows.OpenSpec.upto Rows.jsonTwiceSpec).at F).post enc Tryd.prog Tryd.f9 false true false false) := by
  obtain ⟨places, hx⟩ : ∃ places, DataW.whole enc Tryd.prog ((laidOver (World.holding Tryd.prog os ⟨#[], #[], []⟩)).forCall (fun _ _ => 0) ⟨#[], #[.string ByteArray.empty, .int .i64 0, .int .i64 0], []⟩).memory Tryd.f9.params.toList Rows.jsonTwiceSpec.vars false #[.string ByteArray.empty, .int .i64 0, .int .i64 0].toList 8 = some ([.lit (.string []), .lit (.int .i64 0), .lit (.int .i64 0)], [], places) := ⟨[], by kernel_rfl⟩
  refine returnsInHanded_of_row (C := Tryd.checked) (s := Rows.OpenSpec.upto Rows.jsonTwiceSpec) own started (by kernel_rfl) Tryd.func9
    (witness_row_atRef (enc := enc) (C := Tryd.checked) false (laidOver (World.holding Tryd.prog os ⟨#[], #[], []⟩)) #[.string ByteArray.empty, .int .i64 0, .int .i64 0] rfl (by kernel_rfl) (by kernel_rfl) (by kernel_rfl)
      (OpenSpec.preRow_of_cond 8 hx (by kernel_rfl) (fun k hk => by cases hk; kernel_rfl) (by kernel_rfl) (laid_over os _))) ?_
  intro W base args ds gs before hval0 hW hcnd hcond hsz0 hL _ _
  have hT := tabs_listed hL
  have hval : ∀ (j : Nat) t v, Tryd.f9.params[j]? = some t → args[j]? = some v → Value.okWide Tryd.prog W .any base t v := hval0
  have hsz : (DataW.weightsEach Tryd.prog (Tryd.f9.params.toList ++ Rows.jsonTwiceSpec.plain.varTypes Tryd.prog) (ds ++ gs)).all (· ≤ reachBytes) = true := hsz0
  have hW' := hW
  obtain ⟨p, q, hA0, hV, rfl, hfz, hnd⟩ := hW
  have hA : DataW.TrodAll enc Tryd.prog W 0 (fun _ => true) true Tryd.f9.params.toList args.toList ds p := hA0
  rw [Tryd.params9] at hA hval hsz
  obtain ⟨v0, vs0, d0, ds0, p0, q0, hargs, rfl, rfl, h0, r0⟩ := trodAll_cons hA
  obtain ⟨v1, vs1, d1, ds1, p1, q1, rfl, rfl, rfl, h1, r1⟩ := trodAll_cons r0
  obtain ⟨v2, vs2, d2, ds2, p2, q2, rfl, rfl, rfl, h2, r2⟩ := trodAll_cons r1
  obtain ⟨rfl, rfl, rfl⟩ := trodAll_nil r2
  obtain rfl : args = #[v0, v1, v2] := by cases args; simp_all
  obtain ⟨rfl, rfl⟩ := trodVars_none hV
  obtain ⟨a0, rfl, rfl, rfl, m0⟩ := open_string Tryd.underlying9 (hval 0 9 v0 rfl rfl) h0
  obtain ⟨a1, rfl, rfl, rfl, w1⟩ := open_int Tryd.underlying3 (hval 1 3 v1 rfl rfl) h1
  obtain ⟨a2, rfl, rfl, rfl, w2⟩ := open_int Tryd.underlying3 (hval 2 3 v2 rfl rfl) h2
  have w0 : a0.size ≤ 1048576 := by
    have h := of_decide_eq_true (hcond _ rfl)
    simp only [Rows.uptoBulkAll, Rows.uptoBulk, List.append_nil] at h
    have e : a0.data.toList.length = a0.size := by simp
    omega
  clear hA0 hval0 hsz hsz0
  refine (walk a0 a1 a2 w0 w1 w2 W hT).mono fun e W' ⟨he, bel⟩ => ?_
  subst he
  exact ⟨_, rfl, _, _, _, [], _, [], hW', trodAll_mk1 (shut_bool Tryd.underlying4 _), (trodAll_cons_mk (shut_string Tryd.underlying9 m0) (trodAll_cons_mk (shut_int Tryd.underlying3 w1) (trodAll_cons_mk (shut_int Tryd.underlying3 w2) trodAll_mk0))), rfl, bel.frame _, fun h => by cases h⟩

theorem over : Rows.jsonTwiceUptoRow.holds Tryd.pinned (Rows.OpenSpec.upto Rows.jsonTwiceSpec) :=
  OpenClaim.holds_of_cond 9 Tryd.f9 rfl rfl rfl rfl rfl rfl rfl ⟨rfl, rfl, rfl, rfl, rfl⟩ rfl rfl rfl rfl rfl (by kernel_rfl) Tryd.func9 (by kernel_rfl)
    (of_decide_eq_true (by kernel_rfl)) (by unfold Func.isWrapper; first | (rw [if_pos (by decide +kernel)]; kernel_rfl) | (rw [if_neg (by decide +kernel)]; exact ⟨rfl, rfl⟩))
    (fun os started H enc _ F => by rw [OpenClaim.pre_eq_preRow]; exact lifted os started H enc F)

set_option maxRecDepth 100000 in
theorem card : Rows.JsonTwiceUptoCardSaid :=
  Claim7.holds_tied_plain_at .later [] [.data, .pinned] true Rows.jsonTwiceUptoCard.stood.harness false
    over (fun _ h => by cases h) (by kernel_rfl) (fun _ h => by cases h) jsonTwiceUpto_row_tie rfl ⟨rfl, rfl⟩ (by kernel_rfl) rfl
    (fun f fn hf hfn => by
      obtain rfl : f = 9 := Option.some.inj ((show Tryd.prog.funcNamed Rows.jsonTwiceRow.func = some 9 by kernel_rfl).symm.trans hf) |>.symm
      obtain rfl : fn = Tryd.f9 := (Option.some.inj (Tryd.func9.symm.trans hfn)).symm
      exact ⟨by kernel_rfl, fun j t ht => by
        rw [Tryd.params9] at ht
        have hm : t ∈ [9, 3] := by first | (simpa using Array.mem_of_getElem? ht) | (have hq := Array.mem_of_getElem? ht; simp at hq ⊢; omega)
        have hall : ([9, 3].all fun u => !Tryd.prog.wantsStandIn u) = true := by kernel_rfl
        exact (show Tryd.prog.wantsStandIn t = false by simpa using List.all_eq_true.1 hall t hm)⟩)
    (by kernel_rfl)

end Go.Proofs.YtmnigdcgdebgoaaDoor.jsonTwice
namespace Go.Proofs.YtmnigdcgdebgoaaDoor
/-- The statement. -/
theorem jsonTwice_proved : Rows.JsonTwiceUptoCardSaid := jsonTwice.card
end Go.Proofs.YtmnigdcgdebgoaaDoor
