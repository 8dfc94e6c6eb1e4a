/-
  For every text s and every slice of bytes by, cracknellaw10.DateParted(s, by) returns true and leaves them as they were. Conditions: none beyond the form's own (a string or a row that is read takes at most 2^47 - 4096 bytes). The program's tables are as its own text lays them (a tied card).
-/
import Derived.Test.YtmmkokomffclmaaDoorDatQc
import Derived.Test.YtmmkokomffclmaaDoorBaseBarg
import Derived.Test.YtmmkokomffclmaaDoorDatLaid
import Derived.Test.YtmmkokomffclmaaDoorTie
import Derived.Test.YtmmkokomffclmaaDoorCards
import Derived.SevenTiedAt
import Derived.LaidLaws
import Derived.Stop.Joined
import Derived.ProofKit
import Derived.OpenShut
import Derived.ShutString
import Derived.ChangeOld
import Derived.SizedLaws
namespace Go.Proofs.YtmmkokomffclmaaDoor.dateParted
open Go.ChangeShapes Go.WideShapes Go.ChangeAt Go.RowKit
open Go.ChangeMaps (open_string shut_string)
set_option linter.unusedVariables false

theorem own : ownKnob Tryd.prog.godebug = none := by kernel_rfl

/-- Loop 1: all bytes so far part words. -/
def ByAt (l : List UInt8) (w0 : World) (gk : Nat) (c i : Value) (wr : World) : Prop :=
  ∃ k : Nat, i = .int .i64 (k : Int) ∧ k + gk = l.length + 1 ∧ 1 ≤ gk ∧ (l.take k).all partC = true ∧ wr = w0

/-- Loop 2: what is made so far. -/
def TxAt (s : ByteArray) (l : List UInt8) (w0 : World) (gk : Nat) (t k' i : Value) (wr : World) : Prop :=
  ∃ (k : Nat) (b : ByteArray), i = .int .i64 (k : Int) ∧ k + gk = s.size + 1 ∧ 1 ≤ gk ∧ t = .string b ∧ b.data.toList = l ++ partedL l (s.data.toList.take k) ∧ wr = w0

theorem parted_step (l m : List UInt8) (c : UInt8) : partedL l (m ++ [c]) = partedL l m ++ (if partC c = true then l else [c]) := by
  unfold partedL
  rw [List.flatMap_append]
  simp

theorem parted_len (l : List UInt8) (hl : l.length ≤ 10) : ∀ m : List UInt8, (partedL l m).length ≤ 10 * m.length
  | [] => Nat.zero_le _
  | c :: t => by
    have := parted_len l hl t
    show ((if partC c = true then l else [c]) ++ partedL l t).length ≤ 10 * (t.length + 1)
    rw [List.length_append]
    split
    · omega
    · simp; omega

theorem cookie_parted (l m : List UInt8) (hb : l.all partC = true) (hne : l ≠ []) : cookieL (l ++ partedL l m) = cookieL m := by
  unfold cookieL wordsL
  rw [wordsG_parts l _ hb, wordsG_parted l hb hne m []]

theorem take_all (l : List UInt8) (k : Nat) (h : k < l.length) (ha : (l.take k).all partC = true) (hc : partC l[k] = true) : (l.take (k + 1)).all partC = true := by
  rw [List.take_succ_eq_append_getElem h, List.all_append, ha]
  simp [hc]

set_option maxRecDepth 100000 in
set_option maxHeartbeats 1600000 in
theorem walk (w : World) (a0 : ByteArray) (a1 : Value) (s1 : List UInt8) (w0 : a0.size ≤ 140737488351232) (w1 : BysAt w a1 s1 ∧ s1.length ≤ 140737488351232) (hT : Tabs w) :
    Calls Tryd.prog 8 #[.string a0, a1] w fun e w' => e = .returned (.bool true) ∧ Below w.heap.size w w' := by
  obtain ⟨hby, hlen⟩ := w1
  have htx := hby.text
  obtain ⟨ao, n, cap, rfl, hn, hcell⟩ := hby.shape
  have HC := Lib.hid hcell
  clear hcell hby w0 hlen
  by_cases h500 : (500 : Int) < (a0.size : Int)
  · clear htx
    go_enter Tryd.func8, Tryd.ntmps8
    go_wp2_with fail
    with_reducible refine (alive_any _ hT).mono ?_
    rintro _ w1 ⟨rfl, hb1⟩
    go_wp2
    go_ret
    exact ⟨rfl, hb1⟩
  subst hn
  by_cases h0 : s1.length = 0
  · clear htx
    have h0b : ((s1.length : Int) == 0) = true := beq_iff_eq.2 (by omega)
    go_enter Tryd.func8, Tryd.ntmps8
    go_wp2_with fail
    with_reducible refine (alive_any _ hT).mono ?_
    rintro _ w1 ⟨rfl, hb1⟩
    go_wp2
    go_ret
    exact ⟨rfl, hb1⟩
  have h0b : ((s1.length : Int) == 0) = false := beq_eq_false_iff_ne.2 (by omega)
  by_cases h10 : (10 : Int) < (s1.length : Int)
  · clear htx
    go_enter Tryd.func8, Tryd.ntmps8
    go_wp2_with fail
    with_reducible refine (alive_any _ hT).mono ?_
    rintro _ w1 ⟨rfl, hb1⟩
    go_wp2
    go_ret
    exact ⟨rfl, hb1⟩
  have HX := Lib.hid htx
  clear htx
  go_enter Tryd.func8, Tryd.ntmps8
  go_wp2_with fail
  go_loopg [6, 29] (s1.length + 1) (fun gk c i wr => ByAt s1 w gk c i wr)
  case atStart => exact ⟨0, rfl, by omega, by omega, rfl, rfl⟩
  case round =>
    obtain ⟨k, rfl, hk, hg1, hall, rfl⟩ := hrel
    by_cases hlt : k < s1.length
    · obtain ⟨ad, rfl, hcl⟩ := HC.out k hlt
      obtain ⟨c, hc⟩ : ∃ c, c = s1[k] := ⟨_, rfl⟩
      rw [← hc] at hcl
      have HCK := Lib.hid hc
      have HAL := Lib.hid hall
      clear hc hall
      have hki : (k : Int) < (s1.length : Int) := by omega
      obtain ⟨p, hp⟩ : ∃ p, p = partC c := ⟨_, rfl⟩
      have HR := Lib.hid (rparts_any c)
      rw [← hp] at HR
      have HP := Lib.hid hp
      clear hp
      cases p
      · go_wp2_with fail
        refine (HR.out _).mono ?_
        rintro _ wz ⟨rfl, rfl⟩
        go_wp2_with fail
        with_reducible refine (alive_any _ hT).mono ?_
        rintro _ w1 ⟨rfl, hb1⟩
        go_wp2
        go_ret
        exact ⟨rfl, hb1⟩
      · go_wp2_with fail
        refine (HR.out _).mono ?_
        rintro _ wz ⟨rfl, rfl⟩
        go_wp2
        go_roundg (gk - 1)
        case measure => omega
        case rel => exact ⟨k + 1, by go_num, by omega, by omega, take_all s1 k hlt HAL.out (by rw [← HCK.out]; exact HP.out.symm), rfl⟩
    · have hki : ¬ (k : Int) < (s1.length : Int) := by omega
      rw [List.take_of_length_le (by omega)] at hall
      have HAL := Lib.hid hall
      have hne : s1 ≠ [] := fun e => h0 (by rw [e]; rfl)
      have HNE := Lib.hid hne
      clear hall hne hk hg1
      have htx := HX.out
      have hby0 : (⟨s1.toArray⟩ : ByteArray).size = s1.length := by show s1.toArray.size = _; simp
      obtain ⟨bs, hbs⟩ : ∃ bs : ByteArray, bs = ⟨s1.toArray⟩ := ⟨_, rfl⟩
      rw [← hbs] at htx hby0
      have HB := Lib.hid hbs
      clear hbs
      go_wp2_with fail
      go_loopg [7, 8, 42] (a0.size + 1) (fun gk t c i w2 => TxAt a0 s1 wr gk t c i w2)
      case atStart => exact ⟨0, bs, rfl, by omega, by omega, rfl, by rw [HB.out]; simp [partedL], rfl⟩
      case round =>
        clear hki
        obtain ⟨k, b, rfl, hk, hg1, rfl, hb, rfl⟩ := hrel
        have hbz : b.size ≤ 10 + 10 * 500 := by
          rw [← list_len, hb, List.length_append]
          have := parted_len s1 (by omega) (a0.data.toList.take k)
          have h2 : (a0.data.toList.take k).length ≤ 500 := by rw [List.length_take, list_len]; omega
          omega
        have HBD := Lib.hid hb
        clear hb
        by_cases hlt : k < a0.size
        · obtain ⟨p, hp⟩ : ∃ p, p = partC a0[k] := ⟨_, rfl⟩
          have HR := Lib.hid (rparts_any a0[k])
          rw [← hp] at HR
          have HP := Lib.hid hp
          have HST : Hid (partedL s1 (a0.data.toList.take (k + 1)) = partedL s1 (a0.data.toList.take k) ++ (if p = true then s1 else [a0[k]])) := by
            show _ = _
            have hl : k < a0.data.toList.length := by rw [list_len]; exact hlt
            rw [List.take_succ_eq_append_getElem hl, parted_step, hp]
            rfl
          have he1 : (a0.extract k (k + 1)).size = 1 := by rw [← list_len, one_list a0 k hlt]; rfl
          clear hp
          cases p
          · go_wp2_with fail
            refine (HR.out _).mono ?_
            rintro _ wz ⟨rfl, rfl⟩
            go_wp2
            go_roundg (gk - 1)
            case measure => omega
            case rel => exact ⟨k + 1, b ++ a0.extract k (k + 1), by go_num, by omega, by omega, by first | rfl | go_num, by rw [app_list, HBD.out, HST.out, one_list a0 k hlt, List.append_assoc]; rfl, rfl⟩
          · go_wp2_with fail
            refine (HR.out _).mono ?_
            rintro _ wz ⟨rfl, rfl⟩
            go_wp2
            go_roundg (gk - 1)
            case measure => omega
            case rel => exact ⟨k + 1, b ++ bs, by go_num, by omega, by omega, by first | rfl | go_num, by rw [app_list, HBD.out, HST.out, HB.out, List.append_assoc]; rfl, rfl⟩
        · have ek : a0.data.toList.take k = a0.data.toList := List.take_of_length_le (by rw [list_len]; omega)
          obtain ⟨x, y, hxy⟩ : ∃ x y, cookieL a0.data.toList = (x, y) := ⟨_, _, rfl⟩
          have hxy2 : cookieL b.data.toList = (x, y) := by
            rw [HBD.out, ek, cookie_parted s1 _ HAL.out HNE.out]
            exact hxy
          have H1 := Lib.hid hxy
          have H2 := Lib.hid hxy2
          have z1 : a0.size ≤ 1000000 := by omega
          have z2 : b.size ≤ 1000000 := by omega
          clear hxy hxy2 ek
          go_wp2_with fail
          with_reducible refine (cookie_at _ z1 H1.out hT).mono ?_
          rintro _ w1 ⟨rfl, hb1⟩
          replace hT := hT.keep hb1
          go_wp2_with fail
          with_reducible refine (cookie_at _ z2 H2.out hT).mono ?_
          rintro _ w2 ⟨rfl, hb⟩
          replace hT := hT.keep hb
          have hb2 := chain hb1 hb
          clear hb hb1
          go_wp2_with fail
          with_reducible refine (alive_any _ hT).mono ?_
          rintro _ w1 ⟨rfl, hb⟩
          have hb1 := chain hb2 hb
          clear hb hb2
          go_wp2
          go_ret
          exact ⟨rfl, hb1⟩

set_option maxRecDepth 100000 in
theorem lifted (os : Os) (started : os.Started) (H : Type) (enc : TypeId × Value → H) :
    ReturnsInHanded {} Tryd.checked os 8 .any (fun w args => (Rows.datePartedSpec.pre enc Tryd.prog Tryd.f8 [] false w args ∧ laidMetH Tryd.prog listed w) ∧ sizedMet enc Tryd.prog Tryd.f8 (OpenSpec.ofChange Rows.datePartedSpec) false w args)
      (Rows.datePartedSpec.post enc Tryd.prog Tryd.f8 false true false false) := by
  refine returnsInHanded_of_change_and (C := Tryd.checked) (X := fun w _ => laidMetH Tryd.prog listed w) (fun _ _ _ hh h => h.of_heap hh) own started (by kernel_rfl) Tryd.func8
    (ChangeSpec.witness_shaped (enc := enc) (C := Tryd.checked) (os := os) (X := fun w _ => laidMetH Tryd.prog listed w) false (laidOver (World.holding Tryd.prog os ⟨#[], #[], []⟩)) #[.string ByteArray.empty, .slice none 0 0] 8 rfl (World.shaped_of_RefB (by kernel_rfl) (by kernel_rfl)) (by kernel_rfl) (by kernel_rfl) (by kernel_rfl) (laid_over os _)) ?_
  intro W base args ds gs before hval0 hW hcnd hsz0 hL _
  have hT := tabs_listed hL
  have hval : ∀ (j : Nat) t v, Tryd.f8.params[j]? = some t → args[j]? = some v → Value.okWide Tryd.prog W .any base t v := hval0
  have hsz : (DataW.weightsEach Tryd.prog (Tryd.f8.params.toList ++ Rows.datePartedSpec.plain.varTypes Tryd.prog) (ds ++ gs)).all (· ≤ reachBytes) = true := hsz0
  have hW' := hW
  obtain ⟨p, q, hA0, hV, rfl, hfz, hnd⟩ := hW
  have hA : DataW.TrodAll enc Tryd.prog W 0 (fun _ => true) true Tryd.f8.params.toList args.toList ds p := hA0
  rw [Tryd.params8] at hA hval hsz
  obtain ⟨v0, vs0, d0, ds0, p0, q0, hargs, rfl, rfl, h0, r0⟩ := trodAll_cons hA
  obtain ⟨v1, vs1, d1, ds1, p1, q1, rfl, rfl, rfl, h1, r1⟩ := trodAll_cons r0
  obtain ⟨rfl, rfl, rfl⟩ := trodAll_nil r1
  obtain rfl : args = #[v0, v1] := by cases args; simp_all
  obtain ⟨rfl, rfl⟩ := trodVars_none hV
  obtain ⟨a0, rfl, rfl, rfl, m0⟩ := open_string Tryd.underlying9 (hval 0 9 v0 rfl rfl) h0
  have h1k := h1
  have hlt1 : ∀ x ∈ p1, x.block < W.heap.size := fun x hx => by simpa using hW'.lt x (by simp [hx])
  obtain ⟨s1, w1⟩ := bys_opened h1 (okWide_slice Tryd.underlying30 (hval 1 30 v1 rfl rfl)) hsz (j := 1) rfl rfl
  have w0 : a0.size ≤ 140737488351232 := by
    have h := sized_string hsz (j := 0) (t := 9) rfl rfl
    have e : a0.data.toList.length = a0.size := by simp
    unfold reachBytes at h
    omega
  clear hA0 hval0 hsz hsz0
  refine (walk W a0 v1 s1 w0 w1 hT).mono fun e W' ⟨he, bel⟩ => ?_
  subst he
  exact ⟨_, rfl, _, _, _, [], _, [], hW', trodAll_mk1 (shut_bool Tryd.underlying4 _), (trodAll_cons_mk (shut_string Tryd.underlying9 m0) (trodAll_cons_mk (Below.trod Tryd.laidOutY (by kernel_rfl) (of_decide_eq_true (by kernel_rfl)) h1k bel hlt1) trodAll_mk0)), rfl, bel.frame _, fun h => by cases h⟩

theorem over : Rows.datePartedRow.holds Tryd.pinned (OpenSpec.ofChange Rows.datePartedSpec) :=
  OpenClaim.holds_of_wide 8 Tryd.f8 rfl rfl rfl rfl rfl rfl rfl ⟨rfl, rfl, rfl, rfl, rfl⟩ rfl rfl rfl rfl rfl (by kernel_rfl) Tryd.func8 (by kernel_rfl)
    (of_decide_eq_true (by kernel_rfl)) (by unfold Func.isWrapper; first | (rw [if_pos (by decide +kernel)]; kernel_rfl) | (rw [if_neg (by decide +kernel)]; exact ⟨rfl, rfl⟩))
    (fun os started H enc _ => lifted os started H enc)

set_option maxRecDepth 100000 in
theorem card : Rows.DatePartedCardSaid :=
  Claim7.holds_tied_plain_at .later [] _ true Rows.datePartedCard.stood.harness false
    over (fun _ h => by cases h) (by kernel_rfl) (fun _ h => by cases h) dateParted_row_tie rfl ⟨rfl, rfl⟩ (by kernel_rfl) rfl
    (fun f fn hf hfn => by
      obtain rfl : f = 8 := Option.some.inj ((show Tryd.prog.funcNamed Rows.datePartedRow.func = some 8 by kernel_rfl).symm.trans hf) |>.symm
      obtain rfl : fn = Tryd.f8 := (Option.some.inj (Tryd.func8.symm.trans hfn)).symm
      exact ⟨by kernel_rfl, fun j t ht => by
        rw [Tryd.params8] at ht
        have hm : t ∈ [9, 30] := by first | (simpa using Array.mem_of_getElem? ht) | (have hq := Array.mem_of_getElem? ht; simp at hq ⊢; omega)
        have hall : ([9, 30].all fun u => !Tryd.prog.wantsStandIn u) = true := by kernel_rfl
        exact (show Tryd.prog.wantsStandIn t = false by simpa using List.all_eq_true.1 hall t hm)⟩)
    (by kernel_rfl)

end Go.Proofs.YtmmkokomffclmaaDoor.dateParted
namespace Go.Proofs.YtmmkokomffclmaaDoor
/-- The statement. -/
theorem dateParted_proved : Rows.DatePartedCardSaid := dateParted.card
end Go.Proofs.YtmmkokomffclmaaDoor
