/-
  For every number days, cracknellaw09.CivilNext(days) returns true and leaves it as it was. Conditions: none.
-/
import Derived.Test.YtfpakabdgnnheaaDoorCivAlive
import Derived.Test.YtfpakabdgnnheaaDoorCivLaid
import Derived.Test.YtfpakabdgnnheaaDoorTie
import Derived.Test.YtfpakabdgnnheaaDoorCards
import Derived.SevenTiedAt
import Derived.LaidLaws
import Derived.Stop.Joined
import Derived.ProofKit
import Derived.OpenShut
import Derived.ShutString
import Derived.ChangeOld
import Derived.SizedLaws
namespace Go.Proofs.YtfpakabdgnnheaaDoor.civilNext
open Go.ChangeShapes Go.WideShapes Go.ChangeAt Go.RowKit
open Go.ChangeMaps (open_string shut_string)
set_option linter.unusedVariables false

theorem own : ownKnob Tryd.prog.godebug = none := by kernel_rfl

theorem next_same {n y m d : Int} (h : Tells n y m d) (hl : d < lengthOf y m) : Tells (n + 1) y m (d + 1) := by
  obtain ⟨⟨h1, h2⟩, h3⟩ := h
  unfold dayNum at h3
  exact ⟨⟨by omega, by omega⟩, by unfold dayNum; omega⟩

theorem next_month {n y m d : Int} (h : Tells n y m d) (hl : ¬ d < lengthOf y m) (hm : m < 12) : Tells (n + 1) y (m + 1) 1 := by
  obtain ⟨y1, y2, m1, m2, d1, d2⟩ := h.1.range
  obtain ⟨⟨h1, h2⟩, h3⟩ := h
  have e1 := lengthOf_in m y1 y2
  have e2 := lengthOf_in (m + 1) y1 y2
  have p := mlen_pos (leap y) (m + 1) (by omega) (by omega)
  have q := ms_succ (leap y) m m1 m2
  unfold dayNum at h3
  exact ⟨⟨by omega, by omega⟩, by unfold dayNum; omega⟩

theorem next_year {n y m d : Int} (h : Tells n y m d) (hl : ¬ d < lengthOf y m) (hm : ¬ m < 12) (hn : n + 1 ≤ 2932896) : m = 12 ∧ Tells (n + 1) (y + 1) 1 1 := by
  obtain ⟨y1, y2, m1, m2, d1, d2⟩ := h.1.range
  obtain ⟨⟨h1, h2⟩, h3⟩ := h
  have em : m = 12 := by omega
  subst em
  have e1 := lengthOf_in 12 y1 y2
  have q := ms_succ (leap y) 12 m1 m2
  have q2 : ms (leap y) (12 + 1) = long y := ms_end y
  have q3 := ys_succ y
  have q4 := ms_one (leap (y + 1))
  unfold dayNum at h3
  have hy : y + 1 ≤ 9999 := by
    rcases Int.lt_or_le 9999 (y + 1) with h | h
    · have e : y + 1 = 10000 := by omega
      rw [e, ys_last] at q3
      omega
    · exact h
  have e2 := lengthOf_in 1 (show 1 ≤ y + 1 by omega) hy
  have p := mlen_pos (leap (y + 1)) 1 (by omega) (by omega)
  exact ⟨rfl, ⟨by omega, by omega⟩, by unfold dayNum; omega⟩

set_option maxRecDepth 100000 in
set_option maxHeartbeats 1600000 in
theorem walk (a0 : Int) (w0 : (Lit.int .i64 a0).wf = true) (w : World) (hT : Tabs w) :
    Calls Tryd.prog 5 #[.int .i64 a0] w fun e w' => e = .returned (.bool true) ∧ Below w.heap.size w w' := by
  obtain ⟨l0, u0⟩ := bounds_i64 w0
  clear w0
  by_cases hbig : 1099511627776 < a0
  · go_enter Tryd.func5, Tryd.ntmps5
    go_wp2_with fail
    with_reducible refine (alive_any _ hT).mono ?_
    rintro _ w1 ⟨rfl, hb1⟩
    replace hT := hT.keep hb1
    go_wp2
    go_ret
    exact ⟨rfl, hb1⟩
  by_cases h1 : a0 < -719163
  · have N1 : Hid (a0 < -719162 ∨ 2932896 < a0) := .inl (by omega)
    have N2 : Hid (a0 + 1 < -719162 ∨ 2932896 < a0 + 1) := .inl (by omega)
    go_enter Tryd.func5, Tryd.ntmps5
    go_wp2_with fail
    with_reducible refine (date_no a0 _ N1.out l0 u0 hT).mono ?_
    rintro _ w1 ⟨rfl, hb1⟩
    replace hT := hT.keep hb1
    go_wp2_with fail
    with_reducible refine (date_no (a0 + 1) _ N2.out (by omega) (by omega) hT).mono ?_
    rintro _ w2 ⟨rfl, hb⟩
    have hb2 := chain hb1 hb
    replace hT := hT.keep hb
    clear hb hb1
    go_wp2_with fail
    with_reducible refine (alive_any _ hT).mono ?_
    rintro _ w3 ⟨rfl, hb⟩
    have hb3 := chain hb2 hb
    replace hT := hT.keep hb
    clear hb hb2
    go_wp2
    go_ret
    exact ⟨rfl, hb3⟩
  by_cases h2 : 2932896 < a0
  · have N1 : Hid (a0 < -719162 ∨ 2932896 < a0) := .inr (by omega)
    have N2 : Hid (a0 + 1 < -719162 ∨ 2932896 < a0 + 1) := .inr (by omega)
    go_enter Tryd.func5, Tryd.ntmps5
    go_wp2_with fail
    with_reducible refine (date_no a0 _ N1.out l0 u0 hT).mono ?_
    rintro _ w1 ⟨rfl, hb1⟩
    replace hT := hT.keep hb1
    go_wp2_with fail
    with_reducible refine (date_no (a0 + 1) _ N2.out (by omega) (by omega) hT).mono ?_
    rintro _ w2 ⟨rfl, hb⟩
    have hb2 := chain hb1 hb
    replace hT := hT.keep hb
    clear hb hb1
    go_wp2_with fail
    with_reducible refine (alive_any _ hT).mono ?_
    rintro _ w3 ⟨rfl, hb⟩
    have hb3 := chain hb2 hb
    replace hT := hT.keep hb
    clear hb hb2
    go_wp2
    go_ret
    exact ⟨rfl, hb3⟩
  by_cases h3 : a0 = -719163
  · subst h3
    have HT : Hid (Tells (-719162) 1 1 1) := ⟨by decide, by decide⟩
    go_enter Tryd.func5, Tryd.ntmps5
    go_wp2_with fail
    with_reducible refine (date_no (-719163) _ (by decide) (by decide) (by decide) hT).mono ?_
    rintro _ w1 ⟨rfl, hb1⟩
    replace hT := hT.keep hb1
    go_wp2_with fail
    with_reducible refine (date_yes (-719162) 1 1 1 _ HT.out hT).mono ?_
    rintro _ w2 ⟨rfl, hb⟩
    have hb2 := chain hb1 hb
    replace hT := hT.keep hb
    clear hb hb1
    go_wp2_with fail
    with_reducible refine (alive_any _ hT).mono ?_
    rintro _ w3 ⟨rfl, hb⟩
    have hb3 := chain hb2 hb
    replace hT := hT.keep hb
    clear hb hb2
    go_wp2
    go_ret
    exact ⟨rfl, hb3⟩
  by_cases h4 : a0 = 2932896
  · subst h4
    have HT : Hid (Tells 2932896 9999 12 31) := ⟨by decide, by decide⟩
    go_enter Tryd.func5, Tryd.ntmps5
    go_wp2_with fail
    with_reducible refine (date_yes 2932896 9999 12 31 _ HT.out hT).mono ?_
    rintro _ w1 ⟨rfl, hb1⟩
    replace hT := hT.keep hb1
    go_wp2_with fail
    with_reducible refine (date_no 2932897 _ (by decide) (by decide) (by decide) hT).mono ?_
    rintro _ w2 ⟨rfl, hb⟩
    have hb2 := chain hb1 hb
    replace hT := hT.keep hb
    clear hb hb1
    go_wp2_with fail
    with_reducible refine (alive_any _ hT).mono ?_
    rintro _ w3 ⟨rfl, hb⟩
    have hb3 := chain hb2 hb
    replace hT := hT.keep hb
    clear hb hb2
    go_wp2
    go_ret
    exact ⟨rfl, hb3⟩
  obtain ⟨y, m, d, ht⟩ := exists_day a0 (by omega) (by omega)
  have hrg := ht.1.range
  obtain ⟨y1, y2, m1, m2, d1, d2⟩ := hrg
  have hd31 := (mlen_range (leap y) m).2
  have HT := Lib.hid ht
  clear ht
  by_cases c1 : d < lengthOf y m
  · have HN := Lib.hid (next_same HT.out c1)
    go_enter Tryd.func5, Tryd.ntmps5
    go_wp2_with fail
    with_reducible refine (date_yes a0 y m d _ HT.out hT).mono ?_
    rintro _ w1 ⟨rfl, hb1⟩
    replace hT := hT.keep hb1
    go_wp2_with fail
    with_reducible refine (date_yes (a0 + 1) y m (d + 1) _ HN.out hT).mono ?_
    rintro _ w2 ⟨rfl, hb⟩
    have hb2 := chain hb1 hb
    replace hT := hT.keep hb
    clear hb hb1
    go_wp2_with fail
    with_reducible refine (length_any y m _ (by omega) (by omega) (by omega) (by omega) hT).mono ?_
    rintro _ w3 ⟨rfl, hb⟩
    have hb3 := chain hb2 hb
    replace hT := hT.keep hb
    clear hb hb2
    go_wp2_with fail
    with_reducible refine (alive_any _ hT).mono ?_
    rintro _ w4 ⟨rfl, hb⟩
    have hb4 := chain hb3 hb
    replace hT := hT.keep hb
    clear hb hb3
    go_wp2
    go_ret
    exact ⟨rfl, hb4⟩
  by_cases c2 : m < 12
  · have HN := Lib.hid (next_month HT.out c1 c2)
    go_enter Tryd.func5, Tryd.ntmps5
    go_wp2_with fail
    with_reducible refine (date_yes a0 y m d _ HT.out hT).mono ?_
    rintro _ w1 ⟨rfl, hb1⟩
    replace hT := hT.keep hb1
    go_wp2_with fail
    with_reducible refine (date_yes (a0 + 1) y (m + 1) 1 _ HN.out hT).mono ?_
    rintro _ w2 ⟨rfl, hb⟩
    have hb2 := chain hb1 hb
    replace hT := hT.keep hb
    clear hb hb1
    go_wp2_with fail
    with_reducible refine (length_any y m _ (by omega) (by omega) (by omega) (by omega) hT).mono ?_
    rintro _ w3 ⟨rfl, hb⟩
    have hb3 := chain hb2 hb
    replace hT := hT.keep hb
    clear hb hb2
    go_wp2_with fail
    with_reducible refine (alive_any _ hT).mono ?_
    rintro _ w4 ⟨rfl, hb⟩
    have hb4 := chain hb3 hb
    replace hT := hT.keep hb
    clear hb hb3
    go_wp2
    go_ret
    exact ⟨rfl, hb4⟩
  · obtain ⟨rfl, hn⟩ := next_year HT.out c1 c2 (by omega)
    have HN := Lib.hid hn
    clear hn
    go_enter Tryd.func5, Tryd.ntmps5
    go_wp2_with fail
    with_reducible refine (date_yes a0 y 12 d _ HT.out hT).mono ?_
    rintro _ w1 ⟨rfl, hb1⟩
    replace hT := hT.keep hb1
    go_wp2_with fail
    with_reducible refine (date_yes (a0 + 1) (y + 1) 1 1 _ HN.out hT).mono ?_
    rintro _ w2 ⟨rfl, hb⟩
    have hb2 := chain hb1 hb
    replace hT := hT.keep hb
    clear hb hb1
    go_wp2_with fail
    with_reducible refine (length_any y 12 _ (by omega) (by omega) (by omega) (by omega) hT).mono ?_
    rintro _ w3 ⟨rfl, hb⟩
    have hb3 := chain hb2 hb
    replace hT := hT.keep hb
    clear hb hb2
    go_wp2_with fail
    with_reducible refine (alive_any _ hT).mono ?_
    rintro _ w4 ⟨rfl, hb⟩
    have hb4 := chain hb3 hb
    replace hT := hT.keep hb
    clear hb hb3
    go_wp2
    go_ret
    exact ⟨rfl, hb4⟩

set_option maxRecDepth 100000 in
theorem lifted (os : Os) (started : os.Started) (H : Type) (enc : TypeId × Value → H) :
    ReturnsInHanded {} Tryd.checked os 5 .any (fun w args => (Rows.civilNextSpec.pre enc Tryd.prog Tryd.f5 [] false w args ∧ laidMetH Tryd.prog listed w) ∧ sizedMet enc Tryd.prog Tryd.f5 (OpenSpec.ofChange Rows.civilNextSpec) false w args)
      (Rows.civilNextSpec.post enc Tryd.prog Tryd.f5 false true false false) := by
  refine returnsInHanded_of_change_and (C := Tryd.checked) (X := fun w _ => laidMetH Tryd.prog listed w) (fun _ _ _ hh h => h.of_heap hh) own started (by kernel_rfl) Tryd.func5
    (ChangeSpec.witness_shaped (enc := enc) (C := Tryd.checked) (os := os) (X := fun w _ => laidMetH Tryd.prog listed w) false (laidOver (World.holding Tryd.prog os ⟨#[], #[], []⟩)) #[.int .i64 0] 8 rfl (World.shaped_of_RefB (by kernel_rfl) (by kernel_rfl)) (by kernel_rfl) (by kernel_rfl) (by kernel_rfl) (laid_over os _)) ?_
  intro W base args ds gs before hval0 hW hcnd hsz0 hL _
  have hT := tabs_listed hL
  have hval : ∀ (j : Nat) t v, Tryd.f5.params[j]? = some t → args[j]? = some v → Value.okWide Tryd.prog W .any base t v := hval0
  have hsz : (DataW.weightsEach Tryd.prog (Tryd.f5.params.toList ++ Rows.civilNextSpec.plain.varTypes Tryd.prog) (ds ++ gs)).all (· ≤ reachBytes) = true := hsz0
  have hW' := hW
  obtain ⟨p, q, hA0, hV, rfl, hfz, hnd⟩ := hW
  have hA : DataW.TrodAll enc Tryd.prog W 0 (fun _ => true) true Tryd.f5.params.toList args.toList ds p := hA0
  rw [Tryd.params5] at hA hval hsz
  obtain ⟨v0, vs0, d0, ds0, p0, q0, hargs, rfl, rfl, h0, r0⟩ := trodAll_cons hA
  obtain ⟨rfl, rfl, rfl⟩ := trodAll_nil r0
  obtain rfl : args = #[v0] := by cases args; simp_all
  obtain ⟨rfl, rfl⟩ := trodVars_none hV
  obtain ⟨a0, rfl, rfl, rfl, w0⟩ := open_int Tryd.underlying3 (hval 0 3 v0 rfl rfl) h0
  clear hA0 hval0 hsz hsz0
  refine (walk a0 w0 W hT).mono fun e W' ⟨he, bel⟩ => ?_
  subst he
  exact ⟨_, rfl, _, _, _, [], _, [], hW', trodAll_mk1 (shut_bool Tryd.underlying4 _), (trodAll_cons_mk (shut_int Tryd.underlying3 w0) trodAll_mk0), rfl, bel.frame _, fun h => by cases h⟩

theorem over : Rows.civilNextRow.holds Tryd.pinned (OpenSpec.ofChange Rows.civilNextSpec) :=
  OpenClaim.holds_of_wide 5 Tryd.f5 rfl rfl rfl rfl rfl rfl rfl ⟨rfl, rfl, rfl, rfl, rfl⟩ rfl rfl rfl rfl rfl (by kernel_rfl) Tryd.func5 (by kernel_rfl)
    (of_decide_eq_true (by kernel_rfl)) (by unfold Func.isWrapper; first | (rw [if_pos (by decide +kernel)]; kernel_rfl) | (rw [if_neg (by decide +kernel)]; exact ⟨rfl, rfl⟩))
    (fun os started H enc _ => lifted os started H enc)

set_option maxRecDepth 100000 in
theorem card : Rows.CivilNextCardSaid :=
  Claim7.holds_tied_plain_at .later [] _ true Rows.civilNextCard.stood.harness false
    over (fun _ h => by cases h) (by kernel_rfl) (fun _ h => by cases h) civilNext_row_tie rfl ⟨rfl, rfl⟩ (by kernel_rfl) rfl
    (fun f fn hf hfn => by
      obtain rfl : f = 5 := Option.some.inj ((show Tryd.prog.funcNamed Rows.civilNextRow.func = some 5 by kernel_rfl).symm.trans hf) |>.symm
      obtain rfl : fn = Tryd.f5 := (Option.some.inj (Tryd.func5.symm.trans hfn)).symm
      exact ⟨by kernel_rfl, fun j t ht => by
        rw [Tryd.params5] at ht
        have hm : t ∈ [3] := by first | (simpa using Array.mem_of_getElem? ht) | (have hq := Array.mem_of_getElem? ht; simp at hq ⊢; omega)
        have hall : ([3].all fun u => !Tryd.prog.wantsStandIn u) = true := by kernel_rfl
        exact (show Tryd.prog.wantsStandIn t = false by simpa using List.all_eq_true.1 hall t hm)⟩)
    (by kernel_rfl)

end Go.Proofs.YtfpakabdgnnheaaDoor.civilNext
namespace Go.Proofs.YtfpakabdgnnheaaDoor
/-- The statement. -/
theorem civilNext_proved : Rows.CivilNextCardSaid := civilNext.card
end Go.Proofs.YtfpakabdgnnheaaDoor
