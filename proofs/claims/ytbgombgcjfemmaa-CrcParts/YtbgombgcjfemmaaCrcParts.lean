/-
  For all texts l and every byte c, cracknellaw04.CrcParts(l, c) returns true and leaves them as they were. Conditions: none beyond the form's own (a string, or a slice, that is read takes at most 2^47 - 4096 bytes).
-/
import Derived.Test.YtbgombgcjfemmaaCrcAlive
import Derived.Test.YtbgombgcjfemmaaBaseDraw
import Derived.ProofKit
import Derived.OpenShut
import Derived.ShutString
import Derived.ChangeOld
import Derived.SizedLaws
namespace Go.Proofs.Ytbgombgcjfemmaa.crcParts
open Go.ChangeShapes Go.WideShapes Go.ChangeAt Go.RowKit
open Go.ChangeMaps (open_string shut_string)
set_option linter.unusedVariables false

theorem own : ownKnob Try.prog.godebug = none := by kernel_rfl

/-- What the loop holds at round k. -/
def PartsAt (l : List ByteArray) (whole i : Value) : Prop :=
  ∃ k : Nat, k ≤ l.length ∧ whole = .string (catB (l.take k)) ∧ i = .int .i64 (k : Int) ∧ (catB (l.take k)).size ≤ 200 * k ∧ (0 < k → l.length ≤ 50)

theorem parts_step (l : List ByteArray) (k : Nat) (s : ByteArray) (hk : k < l.length) (hs : s = l[k]) (h50 : l.length ≤ 50) (h200 : s.size ≤ 200) (hz : (catB (l.take k)).size ≤ 200 * k) :
    PartsAt l (.string (catB (l.take k) ++ s)) (.int .i64 ((k : Int) + 1)) := by
  have e : catB (l.take (k + 1)) = catB (l.take k) ++ s := by rw [List.take_succ_eq_append_getElem hk, cat_snoc, hs]
  exact ⟨k + 1, by omega, by rw [e], by congr 1, by rw [e, ByteArray.size_append]; omega, fun _ => h50⟩

set_option maxRecDepth 100000 in
set_option maxHeartbeats 1600000 in
theorem walk (w : World) (a0 : Value) (s0 : List ByteArray) (a1 : Int) (w0 : StrsAt w a0 s0 ∧ s0.length * 16 ≤ 140737488351232 ∧ ∀ s ∈ s0, s.size ≤ 140737488351232) (w1 : (Lit.int .u8 a1).wf = true) :
    Calls Try.prog 7 #[a0, .int .u8 a1] w fun e w' => e = .returned (.bool true) ∧ Below w.heap.size w w' := by
  obtain ⟨hst, hlen, hsz⟩ := w0
  obtain ⟨l1, u1⟩ := bounds_u8 w1
  clear w1
  obtain ⟨c0, rfl⟩ := Int.eq_ofNat_of_zero_le l1
  obtain ⟨c, hc⟩ : ∃ c : UInt8, (c0 : Int) = (c.toNat : Int) := ⟨UInt8.ofNat c0, by rw [u8_ofNat _ (by omega)]⟩
  rw [hc]
  clear hc l1 u1
  have HST := Lib.hid hst
  obtain ⟨ao, n, cap, rfl, hn, hcell⟩ : ∃ ao n cap, a0 = .slice ao n cap ∧ n = s0.length ∧ ∀ j (hj : j < s0.length), ∃ ad, ao = some ad ∧ w.cell? (ad.add j) = some (.string s0[j]) := by
    rcases hst with ⟨rfl, rfl⟩ | ⟨ad, cap, rfl, _, hcell⟩
    · exact ⟨none, 0, 0, rfl, rfl, fun j hj => by cases hj⟩
    · exact ⟨some ad, s0.length, cap, rfl, rfl, fun j hj => ⟨ad, rfl, hcell j hj⟩⟩
  have HC := Lib.hid hcell
  have HZ := Lib.hid hsz
  have n1 : n ≤ s0.length := by omega
  have n2 : s0.length ≤ n := by omega
  clear hcell hst hsz hn
  go_enter Try.func7, Try.ntmps7
  go_wp2
  go_loop [5, 11] (fun whole i => PartsAt s0 whole i) (fun _ i => n - (intOf i).toNat)
  case atStart => exact ⟨0, by omega, rfl, rfl, Nat.le_refl 0, fun h => by omega⟩
  case round =>
    obtain ⟨k, hk, rfl, rfl, hz, h50⟩ := hrel
    by_cases hlt : k < s0.length
    · obtain ⟨ad, rfl, hcl⟩ := HC.out k hlt
      obtain ⟨s, hs⟩ : ∃ s, s = s0[k] := ⟨_, rfl⟩
      rw [← hs] at hcl
      have HS := Lib.hid hs
      clear hs HC
      by_cases hbig : 50 < n
      · go_wp2_with fail
        refine (alive_any _).mono ?_
        rintro _ w1 ⟨rfl, hb1⟩
        go_wp2
        go_ret
        exact ⟨rfl, hb1⟩
      · by_cases hlong : 200 < s.size
        · go_wp2_with fail
          refine (alive_any _).mono ?_
          rintro _ w1 ⟨rfl, hb1⟩
          go_wp2
          go_ret
          exact ⟨rfl, hb1⟩
        · have HP := Lib.hid (parts_step s0 k s hlt HS.out (by omega) (by omega) hz)
          have hss : (catB (s0.take k)).size + s.size ≤ 9223372036854775807 := by omega
          go_wp2
          go_round
          case rel => exact HP.out
          case measure => simp [intOf]; omega
    · have ek : s0.take k = s0 := List.take_of_length_le (by omega)
      have n50 : s0.length ≤ 50 := by
        by_cases h0 : 0 < k
        · exact h50 h0
        · omega
      rw [ek] at hz ⊢
      clear ek h50 HC
      obtain ⟨W, hW⟩ : ∃ W, catB s0 = W := ⟨_, rfl⟩
      rw [hW] at hz ⊢
      have HW := Lib.hid hW
      clear hW
      have hcv := one_back (c.toNat : Int) c rfl w
      have hx1 := not_sum W
      have hx2 := not_step W c
      have hst := stB_lt W
      go_wp2_with fail
      refine (alive_any _).mono ?_
      rintro _ w1 ⟨rfl, hb⟩
      have hb1 : Below w.heap.size w w1 := ((Below.refl _ _).alloc (Nat.le_refl _) _).trans (hb.mono (by simp))
      clear hb hcv
      go_wp2_with fail
      refine (at_sumL (l := s0) (W := W) _ (HST.out.keep hb1) (by omega) HZ.out HW.out).mono ?_
      rintro _ w2 ⟨rfl, hb⟩
      have hb2 := chain hb1 hb
      clear hb hb1
      go_wp2_with fail
      refine (at_sum1 (s := W) _ (by omega)).mono ?_
      rintro _ w1 ⟨rfl, hb⟩
      have hb1 := chain hb2 hb
      clear hb hb2
      go_wp2_with fail
      refine (at_tailL (l := s0) (W := W) _ (HST.out.keep hb1) (by omega) HZ.out HW.out).mono ?_
      rintro _ w2 ⟨rfl, hb⟩
      have hb2 := chain hb1 hb
      clear hb hb1
      go_wp2_with fail
      refine (at_tail1 (s := W) _ (by omega)).mono ?_
      rintro _ w1 ⟨rfl, hb⟩
      have hb1 := chain hb2 hb
      clear hb hb2
      go_wp2_with fail
      refine (at_sum2 (s := W) (t := ⟨#[c]⟩) _ (by omega) (by show 1 ≤ _; omega)).mono ?_
      rintro _ w2 ⟨rfl, hb⟩
      have hb2 := chain hb1 hb
      clear hb hb1
      go_wp2_with fail
      refine (at_sum1 (s := W) _ (by omega)).mono ?_
      rintro _ w1 ⟨rfl, hb⟩
      have hb1 := chain hb2 hb
      clear hb hb2
      go_wp2_with fail
      with_reducible refine (step_any (stB W) c.toNat _ hst c.toNat_lt).mono ?_
      rintro _ w2 ⟨rfl, hb⟩
      have hb2 := chain hb1 hb
      clear hb hb1
      go_wp2_with fail
      refine (at_sum0 _).mono ?_
      rintro _ w1 ⟨rfl, hb⟩
      have hb1 := chain hb2 hb
      clear hb hb2
      go_wp2
      go_ret
      exact ⟨rfl, hb1⟩

set_option maxRecDepth 100000 in
theorem lifted (os : Os) (started : os.Started) (H : Type) (enc : TypeId × Value → H) :
    ReturnsInHanded {} Try.checked os 7 .any (Rows.crcPartsSpec.pre6 enc Try.prog Try.f7 Rows.crcPartsRow.domain false) (Rows.crcPartsSpec.post enc Try.prog Try.f7 false true false false) := by
  refine returnsInHanded_of_change_sized (C := Try.checked) own started (by kernel_rfl) Try.func7
    (ChangeSpec.witness6 (enc := enc) (C := Try.checked) false ⟨#[], #[.slice none 0 0, .int .u8 0], []⟩ 8 (by kernel_rfl) (by kernel_rfl) (by kernel_rfl) (by kernel_rfl)) ?_
  intro W base args ds gs before hval0 hW hcnd hsz0 _
  have hval : ∀ (j : Nat) t v, Try.f7.params[j]? = some t → args[j]? = some v → Value.okWide Try.prog W .any base t v := hval0
  have hsz : (DataW.weightsEach Try.prog (Try.f7.params.toList ++ Rows.crcPartsSpec.plain.varTypes Try.prog) (ds ++ gs)).all (· ≤ reachBytes) = true := hsz0
  have hW' := hW
  obtain ⟨p, q, hA0, hV, rfl, hfz, hnd⟩ := hW
  have hA : DataW.TrodAll enc Try.prog W 0 (fun _ => true) true Try.f7.params.toList args.toList ds p := hA0
  rw [Try.params7] at hA hval hsz
  obtain ⟨v0, vs0, d0, ds0, p0, q0, hargs, rfl, rfl, h0, r0⟩ := trodAll_cons hA
  obtain ⟨v1, vs1, d1, ds1, p1, q1, rfl, rfl, rfl, h1, r1⟩ := trodAll_cons r0
  obtain ⟨rfl, rfl, rfl⟩ := trodAll_nil r1
  obtain rfl : args = #[v0, v1] := by cases args; simp_all
  obtain ⟨rfl, rfl⟩ := trodVars_none hV
  have h0k := h0
  have hlt0 : ∀ x ∈ p0, x.block < W.heap.size := fun x hx => by simpa using hW'.lt x (by simp [hx])
  obtain ⟨s0, w0⟩ := strs_opened h0 (okWide_slice Try.underlying36 (hval 0 36 v0 rfl rfl)) hsz (j := 0) rfl rfl
  obtain ⟨a1, rfl, rfl, rfl, w1⟩ := open_int Try.underlying5 (hval 1 5 v1 rfl rfl) h1
  clear hA0 hval0 hsz hsz0
  refine (walk W v0 s0 a1 w0 w1).mono fun e W' ⟨he, bel⟩ => ?_
  subst he
  exact ⟨_, rfl, _, _, _, [], _, [], hW', trodAll_mk1 (shut_bool Try.underlying4 _), (trodAll_cons_mk (Below.trod Try.laidOut (by kernel_rfl) (of_decide_eq_true (by kernel_rfl)) h0k bel hlt0) (trodAll_cons_mk (shut_int Try.underlying5 w1) trodAll_mk0)), rfl, bel.frame _, fun h => by cases h⟩

theorem over : Rows.crcPartsRow.holds Try.pinned (OpenSpec.ofChange Rows.crcPartsSpec) :=
  OpenClaim.holds_of_wide 7 Try.f7 rfl rfl rfl rfl rfl rfl rfl ⟨rfl, rfl, rfl, rfl, rfl⟩ rfl rfl rfl rfl rfl (by kernel_rfl) Try.func7 (by kernel_rfl)
    (of_decide_eq_true (by kernel_rfl)) (by unfold Func.isWrapper; first | (rw [if_pos (by decide +kernel)]; kernel_rfl) | (rw [if_neg (by decide +kernel)]; exact ⟨rfl, rfl⟩))
    (fun os started H enc _ => lifted os started H enc)

end Go.Proofs.Ytbgombgcjfemmaa.crcParts
namespace Go.Proofs.Ytbgombgcjfemmaa
/-- The statement. -/
theorem crcParts_proved : Rows.CrcPartsSaid := crcParts.over
end Go.Proofs.Ytbgombgcjfemmaa
