/-
  For all texts s and d, cracknellaw11.HostParents(s, d) returns true and leaves them as they were. Conditions: none beyond the form's own (a string that is read takes at most 2^47 - 4096 bytes).
-/
import Derived.Test.YtlcnnkameflidaaDoorHosAlive
import Derived.Test.YtlcnnkameflidaaDoorLinesSame
import Derived.Test.YtlcnnkameflidaaDoorU8Laid
import Derived.Test.YtlcnnkameflidaaDoorTie
import Derived.Test.YtlcnnkameflidaaDoorCards
import Derived.SevenTiedAt
import Derived.LaidLaws
import Derived.Stop.Joined
import Derived.ProofKit
import Derived.OpenShut
import Derived.ShutString
import Derived.ChangeOld
import Derived.SizedLaws
namespace Go.Proofs.YtlcnnkameflidaaDoor.hostParents
open Go.ChangeShapes Go.WideShapes Go.ChangeAt Go.RowKit
open Go.ChangeMaps (open_string shut_string)
set_option linter.unusedVariables false

theorem own : ownKnob Tryd.prog.godebug = none := by kernel_rfl

/-- Is d among them? -/
def inB (d : ByteArray) (l : List ByteArray) : Bool := l.any fun x => decide (x = d)

theorem inB_iff (d : ByteArray) (l : List ByteArray) : inB d l = true ↔ d ∈ l := by
  unfold inB
  rw [List.any_eq_true]
  constructor
  · rintro ⟨x, hx, h⟩
    have := of_decide_eq_true h
    exact this ▸ hx
  · intro h
    exact ⟨d, h, by simp⟩

theorem parents_mem (s d : ByteArray) : matchB s.data.toList d.data.toList = inB d (ofLs (parentsL s.data.toList)) := by
  rw [match_parents, Bool.eq_iff_iff, decide_eq_true_iff, inB_iff]
  unfold ofLs
  rw [List.mem_map]
  constructor
  · intro h
    exact ⟨_, h, ofL_list d⟩
  · rintro ⟨x, hx, rfl⟩
    exact hx

theorem parents_first (s : ByteArray) : ∃ r, ofLs (parentsL s.data.toList) = s :: r := by
  unfold parentsL
  refine ⟨ofLs (if ipB s.data.toList = true then [] else tailsL s.data.toList), ?_⟩
  show ofL s.data.toList :: _ = _
  rw [ofL_list]
  rfl

theorem tails_len : ∀ l : List UInt8, (tailsL l).length ≤ l.length
  | [] => Nat.le_refl _
  | c :: t => by
    have := tails_len t
    show (if c = 46 then t :: tailsL t else tailsL t).length ≤ t.length + 1
    split
    · simp; omega
    · omega

theorem parents_len (s : ByteArray) : (ofLs (parentsL s.data.toList)).length ≤ s.size + 1 := by
  unfold ofLs parentsL
  rw [List.length_map, List.length_cons]
  have := tails_len s.data.toList
  rw [list_len] at this
  split
  · simp
  · omega

def InAt (l : List ByteArray) (d : ByteArray) (w0 : World) (gk : Nat) (b i : Value) (wr : World) : Prop :=
  ∃ k : Nat, i = .int .i64 (k : Int) ∧ k + gk = l.length + 1 ∧ 1 ≤ gk ∧ b = .bool (inB d (l.take k)) ∧ wr = w0

theorem in_step (l : List ByteArray) (d : ByteArray) (k : Nat) (h : k < l.length) : inB d (l.take (k + 1)) = (inB d (l.take k) || decide (l[k] = d)) := by
  unfold inB
  rw [List.take_succ_eq_append_getElem h, List.any_append]
  simp

set_option maxRecDepth 100000 in
set_option maxHeartbeats 1600000 in
theorem walk (a0 : ByteArray) (a1 : ByteArray) (w0 : a0.size ≤ 140737488351232) (w1 : a1.size ≤ 140737488351232) (w : World) (hT : Tabs w) :
    Calls Tryd.prog 6 #[.string a0, .string a1] w fun e w' => e = .returned (.bool true) ∧ Below w.heap.size w w' := by
  by_cases hla0 : (200 : Int) < (a0.size : Int)
  · go_enter Tryd.func6, Tryd.ntmps6
    go_wp2_with fail
    with_reducible refine (alive_any _).mono ?_
    rintro _ w1 ⟨rfl, hb1⟩
    go_wp2
    go_ret
    exact ⟨rfl, hb1⟩
  by_cases hla1 : (200 : Int) < (a1.size : Int)
  · go_enter Tryd.func6, Tryd.ntmps6
    go_wp2_with fail
    with_reducible refine (alive_any _).mono ?_
    rintro _ w1 ⟨rfl, hb1⟩
    go_wp2
    go_ret
    exact ⟨rfl, hb1⟩
  have hz0 : a0.size ≤ 100000 := by omega
  have hz1 : a1.size ≤ 100000 := by omega
  obtain ⟨L, hL⟩ : ∃ L, L = ofLs (parentsL a0.data.toList) := ⟨_, rfl⟩
  have HP := Lib.hid (parents_any a0 · hz0)
  have HR := Lib.hid (rparents_any a0 · hz0)
  have HM := Lib.hid (match_at (b := inB a1 L) · hz0 hz1 (by rw [hL]; exact parents_mem a0 a1))
  obtain ⟨r, hr⟩ := parents_first a0
  have hlen := parents_len a0
  rw [← hL] at HP HR hr hlen
  have HF := Lib.hid hr
  have hpos : 0 < L.length := by rw [hr]; simp
  have hl2 : L.length ≤ 1000000 := by omega
  clear hL hr hlen w0 w1
  go_enter Tryd.func6, Tryd.ntmps6
  go_wp2_with fail
  refine (HP.out _).mono ?_
  rintro _ w1 ⟨⟨v, rfl, hv⟩, hb1⟩
  have HV := Lib.hid hv
  obtain ⟨ao, n, cap, rfl, hn, hc⟩ := hv.shape
  subst hn
  have HC := Lib.hid hc
  clear hv hc HP
  go_wp2_with fail
  go_loopg [6, 22] (L.length + 1) (fun gk b i wr => InAt L a1 w1 gk b i wr)
  case atStart => exact ⟨0, rfl, by omega, by omega, rfl, rfl⟩
  case round =>
    obtain ⟨k, rfl, hk, hg, rfl, rfl⟩ := hrel
    by_cases hlt : k < L.length
    · obtain ⟨ad, rfl, hcl⟩ := HC.out k hlt
      have hki : (k : Int) < (L.length : Int) := by omega
      have HST := Lib.hid (in_step L a1 k hlt)
      obtain ⟨x, hx⟩ : ∃ x, x = L[k] := ⟨_, rfl⟩
      rw [← hx] at hcl HST
      clear hx HC
      have hq : (x.toList == a1.toList) = decide (x = a1) := eq_toList x a1
      generalize inB a1 (L.take k) = p at HST ⊢
      cases p
      · go_wp2
        go_roundg (gk - 1)
        case measure => omega
        case rel => exact ⟨k + 1, by go_num, by omega, by omega, by rw [HST.out]; simp, rfl⟩
      · go_wp2
        go_roundg (gk - 1)
        case measure => omega
        case rel => exact ⟨k + 1, by go_num, by omega, by omega, by rw [HST.out]; simp, rfl⟩
    · have hki : ¬ (k : Int) < (L.length : Int) := by omega
      rw [List.take_of_length_le (by omega)]
      obtain ⟨ad, rfl, hcl⟩ := HC.out 0 hpos
      have hfirst : L[0] = a0 := by simp only [HF.out, List.getElem_cons_zero]
      rw [hfirst] at hcl
      have hcl2 : wr.cell? ad = some (.string a0) := by simpa [Addr.add] using hcl
      clear hcl hfirst hlt hk HC
      go_wp2_with fail
      with_reducible refine (alive_any _).mono ?_
      rintro _ w2 ⟨rfl, hb⟩
      have hb2 := chain hb1 hb
      replace hcl2 : w2.cell? ad = some (.string a0) := by rw [hb.cell (World.block_lt_of_cell? _ _ hcl2)]; exact hcl2
      have HV2 := Lib.hid (HV.out.keep hb)
      clear hb hb1 HV
      go_wp2_with fail
      refine (HR.out _).mono ?_
      rintro _ w3 ⟨⟨u, rfl, hu⟩, hb⟩
      have hb3 := chain hb2 hb
      replace hcl2 : w3.cell? ad = some (.string a0) := by rw [hb.cell (World.block_lt_of_cell? _ _ hcl2)]; exact hcl2
      have HV := Lib.hid (HV2.out.keep hb)
      have HU := Lib.hid hu
      clear hb hb2 HV2 hu
      go_wp2_with fail
      refine (rsame_any _ _ L L _ HV.out HU.out (by omega) (by omega)).mono ?_
      rintro _ w4 ⟨rfl, hb⟩
      rw [show decide (L = L) = true by simp]
      have hb4 := chain hb3 hb
      replace hcl2 : w4.cell? ad = some (.string a0) := by rw [hb.cell (World.block_lt_of_cell? _ _ hcl2)]; exact hcl2
      clear hb hb3 HV HU
      go_wp2_with fail
      with_reducible refine (HM.out _).mono ?_
      rintro _ w5 ⟨rfl, hb⟩
      have hb5 := chain hb4 hb
      replace hcl2 : w5.cell? ad = some (.string a0) := by rw [hb.cell (World.block_lt_of_cell? _ _ hcl2)]; exact hcl2
      clear hb hb4
      go_wp2
      go_ret
      exact ⟨rfl, hb5⟩

set_option maxRecDepth 100000 in
theorem lifted (os : Os) (started : os.Started) (H : Type) (enc : TypeId × Value → H) :
    ReturnsInHanded {} Tryd.checked os 6 .any (fun w args => (Rows.hostParentsSpec.pre enc Tryd.prog Tryd.f6 [] false w args ∧ laidMetH Tryd.prog listed w) ∧ sizedMet enc Tryd.prog Tryd.f6 (OpenSpec.ofChange Rows.hostParentsSpec) false w args)
      (Rows.hostParentsSpec.post enc Tryd.prog Tryd.f6 false true false false) := by
  refine returnsInHanded_of_change_and (C := Tryd.checked) (X := fun w _ => laidMetH Tryd.prog listed w) (fun _ _ _ hh h => h.of_heap hh) own started (by kernel_rfl) Tryd.func6
    (ChangeSpec.witness_shaped (enc := enc) (C := Tryd.checked) (os := os) (X := fun w _ => laidMetH Tryd.prog listed w) false (laidOver (World.holding Tryd.prog os ⟨#[], #[], []⟩)) #[.string ByteArray.empty, .string ByteArray.empty] 8 rfl (World.shaped_of_RefB (by kernel_rfl) (by kernel_rfl)) (by kernel_rfl) (by kernel_rfl) (by kernel_rfl) (laid_over os _)) ?_
  intro W base args ds gs before hval0 hW hcnd hsz0 hL _
  have hT := tabs_listed hL
  have hval : ∀ (j : Nat) t v, Tryd.f6.params[j]? = some t → args[j]? = some v → Value.okWide Tryd.prog W .any base t v := hval0
  have hsz : (DataW.weightsEach Tryd.prog (Tryd.f6.params.toList ++ Rows.hostParentsSpec.plain.varTypes Tryd.prog) (ds ++ gs)).all (· ≤ reachBytes) = true := hsz0
  have hW' := hW
  obtain ⟨p, q, hA0, hV, rfl, hfz, hnd⟩ := hW
  have hA : DataW.TrodAll enc Tryd.prog W 0 (fun _ => true) true Tryd.f6.params.toList args.toList ds p := hA0
  rw [Tryd.params6] at hA hval hsz
  obtain ⟨v0, vs0, d0, ds0, p0, q0, hargs, rfl, rfl, h0, r0⟩ := trodAll_cons hA
  obtain ⟨v1, vs1, d1, ds1, p1, q1, rfl, rfl, rfl, h1, r1⟩ := trodAll_cons r0
  obtain ⟨rfl, rfl, rfl⟩ := trodAll_nil r1
  obtain rfl : args = #[v0, v1] := by cases args; simp_all
  obtain ⟨rfl, rfl⟩ := trodVars_none hV
  obtain ⟨a0, rfl, rfl, rfl, m0⟩ := open_string Tryd.underlying9 (hval 0 9 v0 rfl rfl) h0
  obtain ⟨a1, rfl, rfl, rfl, m1⟩ := open_string Tryd.underlying9 (hval 1 9 v1 rfl rfl) h1
  have w0 : a0.size ≤ 140737488351232 := by
    have h := sized_string hsz (j := 0) (t := 9) rfl rfl
    have e : a0.data.toList.length = a0.size := by simp
    unfold reachBytes at h
    omega
  have w1 : a1.size ≤ 140737488351232 := by
    have h := sized_string hsz (j := 1) (t := 9) rfl rfl
    have e : a1.data.toList.length = a1.size := by simp
    unfold reachBytes at h
    omega
  clear hA0 hval0 hsz hsz0
  refine (walk a0 a1 w0 w1 W hT).mono fun e W' ⟨he, bel⟩ => ?_
  subst he
  exact ⟨_, rfl, _, _, _, [], _, [], hW', trodAll_mk1 (shut_bool Tryd.underlying4 _), (trodAll_cons_mk (shut_string Tryd.underlying9 m0) (trodAll_cons_mk (shut_string Tryd.underlying9 m1) trodAll_mk0)), rfl, bel.frame _, fun h => by cases h⟩

theorem over : Rows.hostParentsRow.holds Tryd.pinned (OpenSpec.ofChange Rows.hostParentsSpec) :=
  OpenClaim.holds_of_wide 6 Tryd.f6 rfl rfl rfl rfl rfl rfl rfl ⟨rfl, rfl, rfl, rfl, rfl⟩ rfl rfl rfl rfl rfl (by kernel_rfl) Tryd.func6 (by kernel_rfl)
    (of_decide_eq_true (by kernel_rfl)) (by unfold Func.isWrapper; first | (rw [if_pos (by decide +kernel)]; kernel_rfl) | (rw [if_neg (by decide +kernel)]; exact ⟨rfl, rfl⟩))
    (fun os started H enc _ => lifted os started H enc)

set_option maxRecDepth 100000 in
theorem card : Rows.HostParentsCardSaid :=
  Claim7.holds_tied_plain_at .later [] _ true Rows.hostParentsCard.stood.harness false
    over (fun _ h => by cases h) (by kernel_rfl) (fun _ h => by cases h) hostParents_row_tie rfl ⟨rfl, rfl⟩ (by kernel_rfl) rfl
    (fun f fn hf hfn => by
      obtain rfl : f = 6 := Option.some.inj ((show Tryd.prog.funcNamed Rows.hostParentsRow.func = some 6 by kernel_rfl).symm.trans hf) |>.symm
      obtain rfl : fn = Tryd.f6 := (Option.some.inj (Tryd.func6.symm.trans hfn)).symm
      exact ⟨by kernel_rfl, fun j t ht => by
        rw [Tryd.params6] at ht
        have hm : t ∈ [9] := by first | (simpa using Array.mem_of_getElem? ht) | (have hq := Array.mem_of_getElem? ht; simp at hq ⊢; omega)
        have hall : ([9].all fun u => !Tryd.prog.wantsStandIn u) = true := by kernel_rfl
        exact (show Tryd.prog.wantsStandIn t = false by simpa using List.all_eq_true.1 hall t hm)⟩)
    (by kernel_rfl)

end Go.Proofs.YtlcnnkameflidaaDoor.hostParents
namespace Go.Proofs.YtlcnnkameflidaaDoor
/-- The statement. -/
theorem hostParents_proved : Rows.HostParentsCardSaid := hostParents.card
end Go.Proofs.YtlcnnkameflidaaDoor
