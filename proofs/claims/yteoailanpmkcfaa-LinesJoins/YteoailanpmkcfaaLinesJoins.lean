/-
  For all texts l, cracknellaw06.LinesJoins(l) returns true and leaves them as they were. Conditions: none beyond the form's own (a string, or a slice, that is read takes at most 2^47 - 4096 bytes).
-/
import Derived.Test.YteoailanpmkcfaaLinesFacts
import Derived.ProofKit
import Derived.OpenShut
import Derived.ShutString
import Derived.ChangeOld
import Derived.SizedLaws
namespace Go.Proofs.Yteoailanpmkcfaa.linesJoins
open Go.ChangeShapes Go.WideShapes Go.ChangeAt Go.RowKit
open Go.ChangeMaps (open_string shut_string)
set_option linter.unusedVariables false

theorem own : ownKnob Try.prog.godebug = none := by kernel_rfl

/-- What the loop holds at round k. -/
def SumAt (l : List ByteArray) (n i : Value) : Prop :=
  ∃ k m : Nat, k ≤ l.length ∧ n = .int .i64 (m : Int) ∧ i = .int .i64 (k : Int) ∧ m ≤ 2000 ∧ (∀ s ∈ l.take k, s.size ≤ 2000) ∧ (0 < k → l.length ≤ 100)

theorem sum_step (l : List ByteArray) (k m : Nat) (s : ByteArray) (hk : k < l.length) (hs : s = l[k]) (h100 : l.length ≤ 100) (hm : m + s.size ≤ 2000) (hz : ∀ s ∈ l.take k, s.size ≤ 2000) :
    SumAt l (.int .i64 ((m : Int) + (s.size : Int))) (.int .i64 ((k : Int) + 1)) := by
  refine ⟨k + 1, m + s.size, by omega, by congr 1, by congr 1, hm, fun x hx => ?_, fun _ => h100⟩
  rw [List.take_succ_eq_append_getElem hk] at hx
  rcases List.mem_append.1 hx with hx | hx
  · exact hz x hx
  · rw [List.mem_singleton.1 hx, ← hs]
    omega

theorem join_or (l : List ByteArray) (hl : l.length ≤ 10000) (hs : ∀ s ∈ l, s.size ≤ 1000000) : (∃ t, joinV l = .tuple #[.string t, .bool true] ∧ ofLs (linesL t.data.toList) = l ∧ t.size ≤ 1000000000000) ∨ joinV l = .tuple #[.string ByteArray.empty, .bool false] := by
  rcases join_cases l with ⟨h1, h2⟩ | h
  · have := joinB_size l hs
    exact .inl ⟨_, h1, h2, by omega⟩
  · exact .inr h
theorem at_rjoin {v x : Value} {l : List ByteArray} (w : World) (hv : StrsAt w v l) (hl : l.length ≤ 10000) (hs : ∀ s ∈ l, s.size ≤ 1000000) (h : joinV l = x) :
    Calls Try.prog 16 #[v] w fun e w' => e = .returned x ∧ Below w.heap.size w w' := h ▸ rjoin_any v l w hv hl hs
set_option maxRecDepth 100000 in
set_option maxHeartbeats 1600000 in
theorem walk (w : World) (a0 : Value) (s0 : List ByteArray) (w0 : StrsAt w a0 s0 ∧ s0.length * 16 ≤ 140737488351232 ∧ ∀ s ∈ s0, s.size ≤ 140737488351232) :
    Calls Try.prog 4 #[a0] w fun e w' => e = .returned (.bool true) ∧ Below w.heap.size w w' := by
  obtain ⟨hst, hlen, hsz⟩ := w0
  have HST := Lib.hid hst
  obtain ⟨ao, n, cap, rfl, hn, hcell⟩ := hst.shape
  have HC := Lib.hid hcell
  have n1 : n ≤ s0.length := by omega
  have n2 : s0.length ≤ n := by omega
  clear hcell hst hsz hn
  go_enter Try.func4, Try.ntmps4
  go_wp2
  go_loop [3, 12] (fun m i => SumAt s0 m i) (fun _ i => n - (intOf i).toNat)
  case atStart => exact ⟨0, 0, by omega, rfl, rfl, by omega, fun s hs => absurd hs (by simp), fun h => by omega⟩
  case round =>
    obtain ⟨k, m, hk, rfl, rfl, hm, hz, h100⟩ := hrel
    have HZ := Lib.hid hz
    clear hz
    by_cases hlt : k < s0.length
    · obtain ⟨ad, rfl, hcl⟩ := HC.out k hlt
      obtain ⟨s, hs⟩ : ∃ s, s = s0[k] := ⟨_, rfl⟩
      rw [← hs] at hcl
      have HS := Lib.hid hs
      clear hs HC h100
      by_cases hbig : 100 < n
      · by_cases hlong : s.size ≤ 3000
        · by_cases hover : 2000 < m + s.size
          · have hmin : (s.size : Int) ≤ 3000 := by omega
            go_wp2_with fail
            refine (alive_any _).mono ?_
            rintro _ w1 ⟨rfl, hb1⟩
            go_wp2
            go_ret
            exact ⟨rfl, hb1⟩
          · have hmin : (s.size : Int) ≤ 3000 := by omega
            go_wp2_with fail
            refine (alive_any _).mono ?_
            rintro _ w1 ⟨rfl, hb1⟩
            go_wp2
            go_ret
            exact ⟨rfl, hb1⟩
        · have hmin : ¬ (s.size : Int) ≤ 3000 := by omega
          go_wp2_with fail
          refine (alive_any _).mono ?_
          rintro _ w1 ⟨rfl, hb1⟩
          go_wp2
          go_ret
          exact ⟨rfl, hb1⟩
      · by_cases hlong : s.size ≤ 3000
        · by_cases hover : 2000 < m + s.size
          · have hmin : (s.size : Int) ≤ 3000 := by omega
            go_wp2_with fail
            refine (alive_any _).mono ?_
            rintro _ w1 ⟨rfl, hb1⟩
            go_wp2
            go_ret
            exact ⟨rfl, hb1⟩
          · have hmin : (s.size : Int) ≤ 3000 := by omega
            have HP := Lib.hid (sum_step s0 k m s hlt HS.out (by omega) (by omega) HZ.out)
            go_wp2
            go_round
            case rel => first | exact HP.out | (rw [Int.min_eq_left hmin]; exact HP.out)
            case measure => simp [intOf]; omega
        · have hmin : ¬ (s.size : Int) ≤ 3000 := by omega
          go_wp2_with fail
          refine (alive_any _).mono ?_
          rintro _ w1 ⟨rfl, hb1⟩
          go_wp2
          go_ret
          exact ⟨rfl, hb1⟩
    · have ek : s0.take k = s0 := List.take_of_length_le (by omega)
      have n100 : s0.length ≤ 100 := by
        by_cases h0 : 0 < k
        · exact h100 h0
        · omega
      have l1 : s0.length ≤ 10000 := by omega
      have hz := HZ.out
      rw [ek] at hz
      have l2 : ∀ x ∈ s0, x.size ≤ 1000000 := fun x hx => by have := hz x hx; omega
      have HE := Lib.hid l2
      have hor := Lib.hid (join_or s0 l1 l2)
      clear ek h100 HC hz HZ l2
      rcases hor.out with ⟨t, hV, ht, hz⟩ | hV
      · have HV := Lib.hid hV
        have HT := Lib.hid ht
        clear hV ht hor
        go_wp2_with fail
        refine (at_join _ HST.out l1 HE.out HV.out).mono ?_
        rintro _ w1 ⟨rfl, hb1⟩
        go_wp2_with fail
        refine (at_rjoin _ (HST.out.keep hb1) l1 HE.out HV.out).mono ?_
        rintro _ w2 ⟨rfl, hb⟩
        have hb2 := chain hb1 hb
        clear hb hb1 HV
        go_wp2_with fail
        refine (alive_any _).mono ?_
        rintro _ w1 ⟨rfl, hb⟩
        have hb1 := chain hb2 hb
        clear hb hb2
        go_wp2_with fail
        refine (at_split _ hz HT.out).mono ?_
        rintro _ w2 ⟨⟨x, rfl, hx⟩, hb⟩
        have HX := Lib.hid hx
        have hb2 := chain hb1 hb
        clear hb hb1 HT hx
        go_wp2_with fail
        refine (rsame_any _ _ s0 s0 _ HX.out (HST.out.keep hb2) (by omega) (by omega)).mono ?_
        rintro _ w1 ⟨rfl, hb⟩
        have hb1 := chain hb2 hb
        rw [show decide (s0 = s0) = true by simp]
        clear hb hb2 HX HE
        go_wp2
        go_ret
        exact ⟨rfl, hb1⟩
      · have HV := Lib.hid hV
        clear hV hor
        go_wp2_with fail
        refine (at_join _ HST.out l1 HE.out HV.out).mono ?_
        rintro _ w1 ⟨rfl, hb1⟩
        go_wp2_with fail
        refine (at_rjoin _ (HST.out.keep hb1) l1 HE.out HV.out).mono ?_
        rintro _ w2 ⟨rfl, hb⟩
        have hb2 := chain hb1 hb
        clear hb hb1 HV HE
        go_wp2_with fail
        refine (alive_any _).mono ?_
        rintro _ w1 ⟨rfl, hb⟩
        have hb1 := chain hb2 hb
        clear hb hb2
        go_wp2
        go_ret
        exact ⟨rfl, hb1⟩

set_option maxRecDepth 100000 in
theorem lifted (os : Os) (started : os.Started) (H : Type) (enc : TypeId × Value → H) :
    ReturnsInHanded {} Try.checked os 4 .any (Rows.linesJoinsSpec.pre6 enc Try.prog Try.f4 Rows.linesJoinsRow.domain false) (Rows.linesJoinsSpec.post enc Try.prog Try.f4 false true false false) := by
  refine returnsInHanded_of_change_sized (C := Try.checked) own started (by kernel_rfl) Try.func4
    (ChangeSpec.witness6 (enc := enc) (C := Try.checked) false ⟨#[], #[.slice none 0 0], []⟩ 8 (by kernel_rfl) (by kernel_rfl) (by kernel_rfl) (by kernel_rfl)) ?_
  intro W base args ds gs before hval0 hW hcnd hsz0 _
  have hval : ∀ (j : Nat) t v, Try.f4.params[j]? = some t → args[j]? = some v → Value.okWide Try.prog W .any base t v := hval0
  have hsz : (DataW.weightsEach Try.prog (Try.f4.params.toList ++ Rows.linesJoinsSpec.plain.varTypes Try.prog) (ds ++ gs)).all (· ≤ reachBytes) = true := hsz0
  have hW' := hW
  obtain ⟨p, q, hA0, hV, rfl, hfz, hnd⟩ := hW
  have hA : DataW.TrodAll enc Try.prog W 0 (fun _ => true) true Try.f4.params.toList args.toList ds p := hA0
  rw [Try.params4] at hA hval hsz
  obtain ⟨v0, vs0, d0, ds0, p0, q0, hargs, rfl, rfl, h0, r0⟩ := trodAll_cons hA
  obtain ⟨rfl, rfl, rfl⟩ := trodAll_nil r0
  obtain rfl : args = #[v0] := by cases args; simp_all
  obtain ⟨rfl, rfl⟩ := trodVars_none hV
  have h0k := h0
  have hlt0 : ∀ x ∈ p0, x.block < W.heap.size := fun x hx => by simpa using hW'.lt x (by simp [hx])
  obtain ⟨s0, w0⟩ := strs_opened h0 (okWide_slice Try.underlying23 (hval 0 23 v0 rfl rfl)) hsz (j := 0) rfl rfl
  clear hA0 hval0 hsz hsz0
  refine (walk W v0 s0 w0).mono fun e W' ⟨he, bel⟩ => ?_
  subst he
  exact ⟨_, rfl, _, _, _, [], _, [], hW', trodAll_mk1 (shut_bool Try.underlying4 _), (trodAll_cons_mk (Below.trod Try.laidOut (by kernel_rfl) (of_decide_eq_true (by kernel_rfl)) h0k bel hlt0) trodAll_mk0), rfl, bel.frame _, fun h => by cases h⟩

theorem over : Rows.linesJoinsRow.holds Try.pinned (OpenSpec.ofChange Rows.linesJoinsSpec) :=
  OpenClaim.holds_of_wide 4 Try.f4 rfl rfl rfl rfl rfl rfl rfl ⟨rfl, rfl, rfl, rfl, rfl⟩ rfl rfl rfl rfl rfl (by kernel_rfl) Try.func4 (by kernel_rfl)
    (of_decide_eq_true (by kernel_rfl)) (by unfold Func.isWrapper; first | (rw [if_pos (by decide +kernel)]; kernel_rfl) | (rw [if_neg (by decide +kernel)]; exact ⟨rfl, rfl⟩))
    (fun os started H enc _ => lifted os started H enc)

end Go.Proofs.Yteoailanpmkcfaa.linesJoins
namespace Go.Proofs.Yteoailanpmkcfaa
/-- The statement. -/
theorem linesJoins_proved : Rows.LinesJoinsSaid := linesJoins.over
end Go.Proofs.Yteoailanpmkcfaa
