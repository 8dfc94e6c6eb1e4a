/-
  For every address u, cracknellaw12.PathTexts(u) returns true and leaves it as it was. Conditions: none beyond the form's own (a string that is read takes at most 2^47 - 4096 bytes).
-/
import Derived.Test.YthempdglmhmfeaaDoorPatAlive
import Derived.Test.YthempdglmhmfeaaDoorPatBox
import Derived.Test.YthempdglmhmfeaaDoorU8Laid
import Derived.Test.YthempdglmhmfeaaDoorTie
import Derived.Test.YthempdglmhmfeaaDoorCards
import Derived.SevenTiedAt
import Derived.LaidLaws
import Derived.Stop.Joined
import Derived.ProofKit
import Derived.OpenShut
import Derived.ShutString
import Derived.ChangeOld
import Derived.SizedLaws
namespace Go.Proofs.YthempdglmhmfeaaDoor.pathTexts
open Go.ChangeShapes Go.WideShapes Go.ChangeAt Go.RowKit
open Go.ChangeMaps (open_string shut_string)
set_option linter.unusedVariables false

theorem own : ownKnob Tryd.prog.godebug = none := by kernel_rfl

theorem txt_none (s : Bool) (x y : ByteArray) (h : textA s x.data.toList y.data.toList = none) : txtV s x y = .tuple #[.string ByteArray.empty, .bool false] := by unfold txtV; rw [h]
theorem txt_some (s : Bool) (x y : ByteArray) (t : List UInt8) (h : textA s x.data.toList y.data.toList = some t) : txtV s x y = .tuple #[.string ⟨t.toArray⟩, .bool true] := by unfold txtV; rw [h]
theorem txt_back (s : Bool) (x y : ByteArray) (t : List UInt8) (h : textA s x.data.toList y.data.toList = some t) : adV (parseA (⟨t.toArray⟩ : ByteArray).data.toList) = .tuple #[urlV s x y, .int .i64 0] := by
  have e := parse_text s _ _ t h
  rw [show (⟨t.toArray⟩ : ByteArray).data.toList = t from rfl, e]
  rfl
theorem txt_len (s : Bool) (x y t : List UInt8) (h : textA s x y = some t) : t.length ≤ 8 + x.length + y.length := by
  unfold textA at h
  split at h
  · injection h with h
    rw [← h, List.length_append, List.length_append]
    have : (if s = true then httpsL else httpL).length ≤ 8 := by cases s <;> decide
    omega
  · cases h
theorem parse_nil : adV (parseA ByteArray.empty.data.toList) = .tuple #[urlV false ⟨#[]⟩ ⟨#[]⟩, .int .i64 120] := by kernel_rfl

set_option maxRecDepth 100000 in
set_option maxHeartbeats 1600000 in
theorem walk (us0 : Bool) (uh0 up0 : ByteArray) (w0 : uh0.size ≤ maxLen ∧ up0.size ≤ maxLen) (w : World) (hT : Tabs w) :
    Calls Tryd.prog 8 #[urlV us0 uh0 up0] w fun e w' => e = .returned (.bool true) ∧ Below w.heap.size w w' := by
  by_cases hluh0 : (500 : Int) < (uh0.size : Int)
  · clear w0
    go_enter Tryd.func8, Tryd.ntmps8
    go_wp2_with fail
    have hc := UrlAt.new w us0 uh0 up0 32
    have hb0 := (Below.refl w.heap.size w).alloc (Nat.le_refl _) (.cells #[.bool us0, .string uh0, .string up0] 32)
    with_reducible refine (alive_any _).mono ?_
    rintro _ w1 ⟨rfl, hb⟩
    have hb1 := chain hb0 hb
    replace hc := hc.keep hb
    clear hb hb0
    go_wp2
    go_ret
    exact ⟨rfl, hb1⟩
  by_cases hlup0 : (500 : Int) < (up0.size : Int)
  · clear w0
    go_enter Tryd.func8, Tryd.ntmps8
    go_wp2_with fail
    have hc := UrlAt.new w us0 uh0 up0 32
    have hb0 := (Below.refl w.heap.size w).alloc (Nat.le_refl _) (.cells #[.bool us0, .string uh0, .string up0] 32)
    with_reducible refine (alive_any _).mono ?_
    rintro _ w1 ⟨rfl, hb⟩
    have hb1 := chain hb0 hb
    replace hc := hc.keep hb
    clear hb hb0
    go_wp2
    go_ret
    exact ⟨rfl, hb1⟩
  have hz0 : uh0.size ≤ 1000000 := by omega
  have hz1 : up0.size ≤ 1000000 := by omega
  clear w0
  cases ht : textA us0 uh0.data.toList up0.data.toList with
  | none =>
    have HT := Lib.hid (txt_none _ _ _ ht)
    clear ht
    go_enter Tryd.func8, Tryd.ntmps8
    go_wp2_with fail
    have hc := UrlAt.new w us0 uh0 up0 32
    have hb0 := (Below.refl w.heap.size w).alloc (Nat.le_refl _) (.cells #[.bool us0, .string uh0, .string up0] 32)
    with_reducible refine (text_at _ hz0 hz1 HT.out).mono ?_
    rintro _ w1 ⟨rfl, hb⟩
    have hb1 := chain hb0 hb
    replace hc := hc.keep hb
    clear hb hb0
    obtain ⟨⟨hc0, hc1, hc2⟩, _⟩ := id hc
    go_wp2_with fail
    clear hc0 hc1 hc2
    with_reducible refine (rtext_at _ hz0 hz1 HT.out).mono ?_
    rintro _ w2 ⟨rfl, hb⟩
    have hb2 := chain hb1 hb
    replace hc := hc.keep hb
    clear hb hb1
    go_wp2_with fail
    with_reducible refine (parse_at _ (by decide) parse_nil).mono ?_
    rintro _ w3 ⟨rfl, hb⟩
    have hb3 := chain hb2 hb
    replace hc := hc.keep hb
    clear hb hb2
    go_wp2_with fail
    replace hc := hc.keep ((Below.refl _ _).alloc (Nat.le_refl _) (.cells #[.bool false, .string ⟨#[]⟩, .string ⟨#[]⟩] 28))
    have hv := UrlAt.new w3 false ⟨#[]⟩ ⟨#[]⟩ 28
    replace hb3 := hb3.alloc hb3.size (.cells #[.bool false, .string ⟨#[]⟩, .string ⟨#[]⟩] 28)
    with_reducible refine (alive_any _).mono ?_
    rintro _ w4 ⟨rfl, hb⟩
    have hb4 := chain hb3 hb
    replace hc := hc.keep hb
    replace hv := hv.keep hb
    clear hb hb3
    obtain ⟨⟨hc0, hc1, hc2⟩, _⟩ := id hc
    obtain ⟨⟨hv0, hv1, hv2⟩, _⟩ := id hv
    go_wp2
    go_ret
    exact ⟨rfl, hb4⟩
  | some t =>
    have hlen := txt_len _ _ _ _ ht
    rw [list_len, list_len] at hlen
    obtain ⟨B, hB⟩ : ∃ B : ByteArray, B = ⟨t.toArray⟩ := ⟨_, rfl⟩
    have HT := Lib.hid (txt_some _ _ _ t ht)
    have HK := Lib.hid (txt_back _ _ _ t ht)
    rw [← hB] at HT HK
    have hbz : B.size ≤ 1000000 := by rw [hB]; show t.toArray.size ≤ _; simp; omega
    clear ht hB hlen
    go_enter Tryd.func8, Tryd.ntmps8
    go_wp2_with fail
    have hc := UrlAt.new w us0 uh0 up0 32
    have hb0 := (Below.refl w.heap.size w).alloc (Nat.le_refl _) (.cells #[.bool us0, .string uh0, .string up0] 32)
    with_reducible refine (text_at _ hz0 hz1 HT.out).mono ?_
    rintro _ w1 ⟨rfl, hb⟩
    have hb1 := chain hb0 hb
    replace hc := hc.keep hb
    clear hb hb0
    obtain ⟨⟨hc0, hc1, hc2⟩, _⟩ := id hc
    go_wp2_with fail
    clear hc0 hc1 hc2
    with_reducible refine (rtext_at _ hz0 hz1 HT.out).mono ?_
    rintro _ w2 ⟨rfl, hb⟩
    have hb2 := chain hb1 hb
    replace hc := hc.keep hb
    clear hb hb1
    go_wp2_with fail
    with_reducible refine (parse_at _ hbz HK.out).mono ?_
    rintro _ w3 ⟨rfl, hb⟩
    have hb3 := chain hb2 hb
    replace hc := hc.keep hb
    clear hb hb2
    go_wp2_with fail
    replace hc := hc.keep ((Below.refl _ _).alloc (Nat.le_refl _) (.cells #[.bool us0, .string uh0, .string up0] 28))
    have hv := UrlAt.new w3 us0 uh0 up0 28
    replace hb3 := hb3.alloc hb3.size (.cells #[.bool us0, .string uh0, .string up0] 28)
    with_reducible refine (alive_any _).mono ?_
    rintro _ w4 ⟨rfl, hb⟩
    have hb4 := chain hb3 hb
    replace hc := hc.keep hb
    replace hv := hv.keep hb
    clear hb hb3
    obtain ⟨⟨hc0, hc1, hc2⟩, _⟩ := id hc
    obtain ⟨⟨hv0, hv1, hv2⟩, _⟩ := id hv
    go_wp2
    go_ret
    exact ⟨rfl, hb4⟩

set_option maxRecDepth 100000 in
theorem lifted (os : Os) (started : os.Started) (H : Type) (enc : TypeId × Value → H) :
    ReturnsInHanded {} Tryd.checked os 8 .any (fun w args => (Rows.pathTextsSpec.pre enc Tryd.prog Tryd.f8 [] false w args ∧ laidMetH Tryd.prog listed w) ∧ sizedMet enc Tryd.prog Tryd.f8 (OpenSpec.ofChange Rows.pathTextsSpec) false w args)
      (Rows.pathTextsSpec.post enc Tryd.prog Tryd.f8 false true false false) := by
  refine returnsInHanded_of_change_and (C := Tryd.checked) (X := fun w _ => laidMetH Tryd.prog listed w) (fun _ _ _ hh h => h.of_heap hh) own started (by kernel_rfl) Tryd.func8
    (ChangeSpec.witness_shaped (enc := enc) (C := Tryd.checked) (os := os) (X := fun w _ => laidMetH Tryd.prog listed w) false (laidOver (World.holding Tryd.prog os ⟨#[], #[], []⟩)) #[.agg #[.bool false, .string ByteArray.empty, .string ByteArray.empty]] 8 rfl (World.shaped_of_RefB (by kernel_rfl) (by kernel_rfl)) (by kernel_rfl) (by kernel_rfl) (by kernel_rfl) (laid_over os _)) ?_
  intro W base args ds gs before hval0 hW hcnd hsz0 hL _
  have hT := tabs_listed hL
  have hval : ∀ (j : Nat) t v, Tryd.f8.params[j]? = some t → args[j]? = some v → Value.okWide Tryd.prog W .any base t v := hval0
  have hsz : (DataW.weightsEach Tryd.prog (Tryd.f8.params.toList ++ Rows.pathTextsSpec.plain.varTypes Tryd.prog) (ds ++ gs)).all (· ≤ reachBytes) = true := hsz0
  have hW' := hW
  obtain ⟨p, q, hA0, hV, rfl, hfz, hnd⟩ := hW
  have hA : DataW.TrodAll enc Tryd.prog W 0 (fun _ => true) true Tryd.f8.params.toList args.toList ds p := hA0
  rw [Tryd.params8] at hA hval hsz
  obtain ⟨v0, vs0, d0, ds0, p0, q0, hargs, rfl, rfl, h0, r0⟩ := trodAll_cons hA
  obtain ⟨rfl, rfl, rfl⟩ := trodAll_nil r0
  obtain rfl : args = #[v0] := by cases args; simp_all
  obtain ⟨rfl, rfl⟩ := trodVars_none hV
  have h0k := h0
  have hlt0 : ∀ x ∈ p0, x.block < W.heap.size := fun x hx => by simpa using hW'.lt x (by simp [hx])
  obtain ⟨us0, uh0, up0, rfl, w0⟩ := url_opened h0 (hval 0 32 v0 rfl rfl)
  clear hA0 hval0 hsz hsz0
  refine (walk us0 uh0 up0 w0 W hT).mono fun e W' ⟨he, bel⟩ => ?_
  subst he
  exact ⟨_, rfl, _, _, _, [], _, [], hW', trodAll_mk1 (shut_bool Tryd.underlying4 _), (trodAll_cons_mk (Below.trod Tryd.laidOutU (by kernel_rfl) (of_decide_eq_true (by kernel_rfl)) h0k bel hlt0) trodAll_mk0), rfl, bel.frame _, fun h => by cases h⟩

theorem over : Rows.pathTextsRow.holds Tryd.pinned (OpenSpec.ofChange Rows.pathTextsSpec) :=
  OpenClaim.holds_of_wide 8 Tryd.f8 rfl rfl rfl rfl rfl rfl rfl ⟨rfl, rfl, rfl, rfl, rfl⟩ rfl rfl rfl rfl rfl (by kernel_rfl) Tryd.func8 (by kernel_rfl)
    (of_decide_eq_true (by kernel_rfl)) (by unfold Func.isWrapper; first | (rw [if_pos (by decide +kernel)]; kernel_rfl) | (rw [if_neg (by decide +kernel)]; exact ⟨rfl, rfl⟩))
    (fun os started H enc _ => lifted os started H enc)

set_option maxRecDepth 100000 in
theorem card : Rows.PathTextsCardSaid :=
  Claim7.holds_tied_plain_at .later [] _ true Rows.pathTextsCard.stood.harness false
    over (fun _ h => by cases h) (by kernel_rfl) (fun _ h => by cases h) pathTexts_row_tie rfl ⟨rfl, rfl⟩ (by kernel_rfl) rfl
    (fun f fn hf hfn => by
      obtain rfl : f = 8 := Option.some.inj ((show Tryd.prog.funcNamed Rows.pathTextsRow.func = some 8 by kernel_rfl).symm.trans hf) |>.symm
      obtain rfl : fn = Tryd.f8 := (Option.some.inj (Tryd.func8.symm.trans hfn)).symm
      exact ⟨by kernel_rfl, fun j t ht => by
        rw [Tryd.params8] at ht
        have hm : t ∈ [32] := by first | (simpa using Array.mem_of_getElem? ht) | (have hq := Array.mem_of_getElem? ht; simp at hq ⊢; omega)
        have hall : ([32].all fun u => !Tryd.prog.wantsStandIn u) = true := by kernel_rfl
        exact (show Tryd.prog.wantsStandIn t = false by simpa using List.all_eq_true.1 hall t hm)⟩)
    (by kernel_rfl)

end Go.Proofs.YthempdglmhmfeaaDoor.pathTexts
namespace Go.Proofs.YthempdglmhmfeaaDoor
/-- The statement. -/
theorem pathTexts_proved : Rows.PathTextsCardSaid := pathTexts.card
end Go.Proofs.YthempdglmhmfeaaDoor
