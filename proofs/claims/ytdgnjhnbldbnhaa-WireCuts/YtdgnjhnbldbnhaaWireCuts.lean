/-
  For every number n without a sign, every text t and every number cut, cracknellaw03.WireCuts(n, t, cut) returns true and leaves them as they were. Conditions: none beyond the form's own (a string that is read takes at most 2^47 - 4096 bytes).
-/
import Derived.Test.YtdgnjhnbldbnhaaWireFacts
import Derived.ProofKit
import Derived.OpenShut
import Derived.ShutString
import Derived.ChangeOld
import Derived.SizedLaws
namespace Go.Proofs.Ytdgnjhnbldbnhaa.wireCuts
open Go.ChangeShapes Go.WideShapes Go.ChangeAt Go.RowKit
open Go.ChangeMaps (open_string shut_string)
set_option linter.unusedVariables false

theorem own : ownKnob Try.prog.godebug = none := by kernel_rfl

set_option maxRecDepth 100000 in
set_option maxHeartbeats 1600000 in
theorem walk (a0 : Int) (a1 : ByteArray) (a2 : Int) (w0 : (Lit.int .u64 a0).wf = true) (w1 : a1.size ≤ 140737488351232) (w2 : (Lit.int .i64 a2).wf = true) (w : World) :
    Calls Try.prog 8 #[.int .u64 a0, .string a1, .int .i64 a2] w fun e w' => e = .returned (.bool true) ∧ Below w.heap.size w w' := by
  obtain ⟨l0, u0⟩ := bounds_u64 w0
  obtain ⟨l2, u2⟩ := bounds_i64 w2
  clear w0 w2
  have ht1 := w1
  clear w1
  obtain ⟨n, rfl⟩ := Int.eq_ofNat_of_zero_le l0
  have hn : n < 18446744073709551616 := by omega
  have hz := (putB_size n).2
  have hz1 := (putB_size a1.size).2
  have hz2 : (putB a1.size ++ a1).size ≤ 140737488351242 := by rw [ByteArray.size_append]; omega
  by_cases hc : a2 < 0
  · go_enter Try.func8, Try.ntmps8
    go_wp2_with fail
    refine (put_any n _ hn).mono ?_
    rintro _ w1 ⟨rfl, hb1⟩
    go_wp2_with fail
    refine (puttext_any a1 _ ht1).mono ?_
    rintro _ w2 ⟨rfl, hb⟩
    have hb2 := chain hb1 hb
    clear hb hb1
    go_wp2_with fail
    refine (alive_any _).mono ?_
    rintro _ w1 ⟨rfl, hb⟩
    have hb1 := chain hb2 hb
    clear hb hb2
    go_wp2
    go_ret
    exact ⟨rfl, hb1⟩
  · obtain ⟨c, rfl⟩ := Int.eq_ofNat_of_zero_le (show 0 ≤ a2 by omega)
    clear hc
    have hez : ∀ s : ByteArray, s.size ≤ 140737488351242 → (s.extract 0 c).size ≤ 1000000000000000 := fun s h => by rw [ByteArray.size_extract]; omega
    have HZ1 := Lib.hid (hez (putB n) (by omega))
    have HZ2 := Lib.hid (hez (putB a1.size ++ a1) hz2)
    clear hez
    have hsz2 : (putB a1.size ++ a1).size = (putB a1.size).size + a1.size := ByteArray.size_append
    by_cases h1 : c < (putB n).size
    · have HC := Lib.hid (take_cut n c h1)
      by_cases h2 : c < (putB a1.size ++ a1).size
      · have HD := Lib.hid (tt_cut a1 c (by omega) h2)
        go_enter Try.func8, Try.ntmps8
        go_wp2_with fail
        refine (put_any n _ hn).mono ?_
        rintro _ w1 ⟨rfl, hb1⟩
        go_wp2_with fail
        refine (puttext_any a1 _ ht1).mono ?_
        rintro _ w2 ⟨rfl, hb⟩
        have hb2 := chain hb1 hb
        clear hb hb1
        go_wp2_with fail
        with_reducible refine (take_any ((putB n).extract 0 c) _ _ _ _ (by have := HZ1.out; unfold maxLen; omega) HC.out).mono ?_
        rintro _ w1 ⟨rfl, rfl⟩
        clear HC
        go_wp2_with fail
        with_reducible refine (at_tt (s := (putB a1.size ++ a1).extract 0 c) _ HZ2.out (by omega) (by omega) HD.out).mono ?_
        rintro _ w1 ⟨rfl, rfl⟩
        clear HD
        go_wp2_with fail
        refine (alive_any _).mono ?_
        rintro _ w1 ⟨rfl, hb⟩
        have hb1 := chain hb2 hb
        clear hb hb2
        go_wp2
        go_ret
        exact ⟨rfl, hb1⟩
      · go_enter Try.func8, Try.ntmps8
        go_wp2_with fail
        refine (put_any n _ hn).mono ?_
        rintro _ w1 ⟨rfl, hb1⟩
        go_wp2_with fail
        refine (puttext_any a1 _ ht1).mono ?_
        rintro _ w2 ⟨rfl, hb⟩
        have hb2 := chain hb1 hb
        clear hb hb1
        go_wp2_with fail
        with_reducible refine (take_any ((putB n).extract 0 c) _ _ _ _ (by have := HZ1.out; unfold maxLen; omega) HC.out).mono ?_
        rintro _ w1 ⟨rfl, rfl⟩
        clear HC
        go_wp2_with fail
        refine (alive_any _).mono ?_
        rintro _ w1 ⟨rfl, hb⟩
        have hb1 := chain hb2 hb
        clear hb hb2
        go_wp2
        go_ret
        exact ⟨rfl, hb1⟩
    · by_cases h2 : c < (putB a1.size ++ a1).size
      · have HD := Lib.hid (tt_cut a1 c (by omega) h2)
        go_enter Try.func8, Try.ntmps8
        go_wp2_with fail
        refine (put_any n _ hn).mono ?_
        rintro _ w1 ⟨rfl, hb1⟩
        go_wp2_with fail
        refine (puttext_any a1 _ ht1).mono ?_
        rintro _ w2 ⟨rfl, hb⟩
        have hb2 := chain hb1 hb
        clear hb hb1
        go_wp2_with fail
        with_reducible refine (at_tt (s := (putB a1.size ++ a1).extract 0 c) _ HZ2.out (by omega) (by omega) HD.out).mono ?_
        rintro _ w1 ⟨rfl, rfl⟩
        clear HD
        go_wp2_with fail
        refine (alive_any _).mono ?_
        rintro _ w1 ⟨rfl, hb⟩
        have hb1 := chain hb2 hb
        clear hb hb2
        go_wp2
        go_ret
        exact ⟨rfl, hb1⟩
      · go_enter Try.func8, Try.ntmps8
        go_wp2_with fail
        refine (put_any n _ hn).mono ?_
        rintro _ w1 ⟨rfl, hb1⟩
        go_wp2_with fail
        refine (puttext_any a1 _ ht1).mono ?_
        rintro _ w2 ⟨rfl, hb⟩
        have hb2 := chain hb1 hb
        clear hb hb1
        go_wp2_with fail
        refine (alive_any _).mono ?_
        rintro _ w1 ⟨rfl, hb⟩
        have hb1 := chain hb2 hb
        clear hb hb2
        go_wp2
        go_ret
        exact ⟨rfl, hb1⟩

set_option maxRecDepth 100000 in
theorem lifted (os : Os) (started : os.Started) (H : Type) (enc : TypeId × Value → H) :
    ReturnsInHanded {} Try.checked os 8 .any (Rows.wireCutsSpec.pre6 enc Try.prog Try.f8 Rows.wireCutsRow.domain false) (Rows.wireCutsSpec.post enc Try.prog Try.f8 false true false false) := by
  refine returnsInHanded_of_change_sized (C := Try.checked) own started (by kernel_rfl) Try.func8
    (ChangeSpec.witness6 (enc := enc) (C := Try.checked) false ⟨#[], #[.int .u64 0, .string ByteArray.empty, .int .i64 0], []⟩ 8 (by kernel_rfl) (by kernel_rfl) (by kernel_rfl) (by kernel_rfl)) ?_
  intro W base args ds gs before hval0 hW hcnd hsz0 _
  have hval : ∀ (j : Nat) t v, Try.f8.params[j]? = some t → args[j]? = some v → Value.okWide Try.prog W .any base t v := hval0
  have hsz : (DataW.weightsEach Try.prog (Try.f8.params.toList ++ Rows.wireCutsSpec.plain.varTypes Try.prog) (ds ++ gs)).all (· ≤ reachBytes) = true := hsz0
  have hW' := hW
  obtain ⟨p, q, hA0, hV, rfl, hfz, hnd⟩ := hW
  have hA : DataW.TrodAll enc Try.prog W 0 (fun _ => true) true Try.f8.params.toList args.toList ds p := hA0
  rw [Try.params8] at hA hval hsz
  obtain ⟨v0, vs0, d0, ds0, p0, q0, hargs, rfl, rfl, h0, r0⟩ := trodAll_cons hA
  obtain ⟨v1, vs1, d1, ds1, p1, q1, rfl, rfl, rfl, h1, r1⟩ := trodAll_cons r0
  obtain ⟨v2, vs2, d2, ds2, p2, q2, rfl, rfl, rfl, h2, r2⟩ := trodAll_cons r1
  obtain ⟨rfl, rfl, rfl⟩ := trodAll_nil r2
  obtain rfl : args = #[v0, v1, v2] := by cases args; simp_all
  obtain ⟨rfl, rfl⟩ := trodVars_none hV
  obtain ⟨a0, rfl, rfl, rfl, w0⟩ := open_int Try.underlying22 (hval 0 22 v0 rfl rfl) h0
  obtain ⟨a1, rfl, rfl, rfl, m1⟩ := open_string Try.underlying9 (hval 1 9 v1 rfl rfl) h1
  obtain ⟨a2, rfl, rfl, rfl, w2⟩ := open_int Try.underlying3 (hval 2 3 v2 rfl rfl) h2
  have w1 : a1.size ≤ 140737488351232 := by
    have h := sized_string hsz (j := 1) (t := 9) rfl rfl
    have e : a1.data.toList.length = a1.size := by simp
    unfold reachBytes at h
    omega
  clear hA0 hval0 hsz hsz0
  refine (walk a0 a1 a2 w0 w1 w2 W).mono fun e W' ⟨he, bel⟩ => ?_
  subst he
  exact ⟨_, rfl, _, _, _, [], _, [], hW', trodAll_mk1 (shut_bool Try.underlying4 _), (trodAll_cons_mk (shut_int Try.underlying22 w0) (trodAll_cons_mk (shut_string Try.underlying9 m1) (trodAll_cons_mk (shut_int Try.underlying3 w2) trodAll_mk0))), rfl, bel.frame _, fun h => by cases h⟩

theorem over : Rows.wireCutsRow.holds Try.pinned (OpenSpec.ofChange Rows.wireCutsSpec) :=
  OpenClaim.holds_of_wide 8 Try.f8 rfl rfl rfl rfl rfl rfl rfl ⟨rfl, rfl, rfl, rfl, rfl⟩ rfl rfl rfl rfl rfl (by kernel_rfl) Try.func8 (by kernel_rfl)
    (of_decide_eq_true (by kernel_rfl)) (by unfold Func.isWrapper; first | (rw [if_pos (by decide +kernel)]; kernel_rfl) | (rw [if_neg (by decide +kernel)]; exact ⟨rfl, rfl⟩))
    (fun os started H enc _ => lifted os started H enc)

end Go.Proofs.Ytdgnjhnbldbnhaa.wireCuts
namespace Go.Proofs.Ytdgnjhnbldbnhaa
/-- The statement. -/
theorem wireCuts_proved : Rows.WireCutsSaid := wireCuts.over
end Go.Proofs.Ytdgnjhnbldbnhaa
