/-
  The program's json.keyed: the holders that are open, in memory.
  The program's json.holds and json.whole.
  The program's json.Right.
  The program's json.Right, of any row.
-/
import Derived.Test.YtmnigdcgdebgoaaDoorJsC
import Derived.Test.YtmnigdcgdebgoaaDoorPlainM
import Derived.Deep.Slices
namespace Go.Proofs.YtmnigdcgdebgoaaDoor
open Go.RowKit
set_option linter.unusedVariables false

/-- An array or object that is open: is it an object, its map, and the keys in it. -/
structure Hd where
  o : Bool
  M : Nat
  ks : List (List UInt8)

def hsV (hs : List Hd) : List Value := hs.flatMap fun h => [.bool h.o, .map (some h.M)]
theorem hsV_len (hs : List Hd) : (hsV hs).length = hs.length * 2 := by
  induction hs with
  | nil => rfl
  | cons x t ih =>
    show ([Value.bool x.o, Value.map (some x.M)] ++ hsV t).length = _
    rw [List.length_append, ih, List.length_cons (a := x)]
    show 2 + _ = _
    omega
theorem hsV_app (a b : List Hd) : hsV (a ++ b) = hsV a ++ hsV b := List.flatMap_append
theorem hsV_take (hs : List Hd) (d : Nat) : hsV (hs.take d) = (hsV hs).take (d * 2) := by
  by_cases h : d ≤ hs.length
  · have e : hsV hs = hsV (hs.take d) ++ hsV (hs.drop d) := by rw [← hsV_app, List.take_append_drop]
    rw [e, List.take_left' (by rw [hsV_len, List.length_take]; omega)]
  · rw [List.take_of_length_le (by omega), List.take_of_length_le (by rw [hsV_len]; omega)]

/-- The holders that are open, in the slice v. -/
structure HsAt (w : World) (base : Nat) (v : Value) (hs : List Hd) : Prop where
  row : w.ownsRow base 53 2 v hs.length (hsV hs)
  sets : ∀ h ∈ hs, SetAt w h.M h.ks ∧ base ≤ h.M ∧ some h.M ≠ v.ownBlock
  nd : (hs.map (·.M)).Nodup

theorem HsAt.nil (w : World) (base : Nat) : HsAt w base (.slice none 0 0) [] := ⟨World.ownsRow_nil w base _ 2, (fun h hh => by cases hh), List.nodup_nil⟩
theorem HsAt.shape {w : World} {base : Nat} {v : Value} {hs : List Hd} (h : HsAt w base v hs) : (v = .slice none 0 0 ∧ hs = []) ∨ ∃ g cap, v = .slice (some ⟨g, 0, none⟩) hs.length cap ∧ base ≤ g ∧ g < w.heap.size ∧ hs.length ≤ cap ∧ cap ≤ maxLen := by
  have h0 := h.row
  obtain ⟨_, ⟨rfl, hn⟩ | ⟨g, cap, cur, rfl, hb, hg, hle, hm, _⟩⟩ := h0
  · exact .inl ⟨rfl, List.length_eq_zero_iff.1 hn⟩
  · exact .inr ⟨g, cap, rfl, hb, (Array.getElem?_eq_some_iff.1 hg).1, hle, hm⟩
theorem HsAt.keep {w w' : World} {base : Nat} {v : Value} {hs : List Hd} (h : HsAt w base v hs) (hb : Below w.heap.size w w') : HsAt w' base v hs :=
  ⟨World.ownsRow.kept h.row (row := none) ⟨hb.os, hb.tape, hb.output, hb.size, fun k hk _ => hb.block k hk⟩ (by cases v.ownBlock <;> simp), fun x hx => ⟨(h.sets x hx).1.keep hb, (h.sets x hx).2⟩, h.nd⟩
/-- The first d of them. -/
theorem HsAt.take {w : World} {base : Nat} {a : Option Addr} {n cap : Nat} {hs : List Hd} (h : HsAt w base (.slice a n cap) hs) (d : Nat) (hd : d ≤ hs.length) : HsAt w base (.slice a d cap) (hs.take d) := by
  have hown : (Value.slice a d cap).ownBlock = (Value.slice a n cap).ownBlock := by cases a <;> rfl
  refine ⟨?_, fun x hx => ?_, ?_⟩
  · have hl : (hs.take d).length = d := by rw [List.length_take]; omega
    rw [hl]
    obtain ⟨hlen, ⟨hv, hn⟩ | ⟨g, cap', cur, hv, hb, hg, hle, hm, hsz, htk⟩⟩ := h.row
    · have e : d = 0 := by omega
      subst e
      cases hv
      rw [List.take_zero]
      exact World.ownsRow_nil w base _ 2
    · cases hv
      refine ⟨by rw [hsV_len, hl], .inr ⟨g, cap, cur, rfl, hb, hg, by omega, hm, hsz, ?_⟩⟩
      rw [hsV_take, ← htk, List.take_take]
      congr 1
      omega
  · rw [hown]
    exact h.sets x (List.mem_of_mem_take hx)
  · rw [List.map_take]
    exact h.nd.sublist (List.take_sublist _ _)
/-- The cells of the last one. -/
theorem HsAt.last {w : World} {base : Nat} {g m cap : Nat} {hs : List Hd} {x : Hd} (h : HsAt w base (.slice (some ⟨g, 0, none⟩) (m + 1) cap) (hs ++ [x])) (hm : hs.length = m) : w.cell? ⟨g, m * 2, none⟩ = some (.bool x.o) ∧ w.cell? ⟨g, m * 2 + 1, none⟩ = some (.map (some x.M)) := by
  have hc := World.ownsRow.cells h.row (g := g) rfl
  have e : ∀ j, (⟨g, 0, none⟩ : Addr).add j = ⟨g, j, none⟩ := fun j => by cases j <;> simp [Addr.add]
  have hl := hsV_len hs
  refine ⟨?_, ?_⟩
  · have := hc (m * 2) (.bool x.o) (by rw [hsV_app, List.getElem?_append_right (by omega), hl, hm, Nat.sub_self]; rfl)
    rw [e] at this
    exact this
  · have := hc (m * 2 + 1) (.map (some x.M)) (by rw [hsV_app, List.getElem?_append_right (by omega), hl, hm, show m * 2 + 1 - m * 2 = 1 by omega]; rfl)
    rw [e] at this
    exact this

def hdS (hs : List Hd) : St := hs.map fun h => (h.o, h.ks)

/-- What keyed tells, and leaves. -/
def KeyedTold (base : Nat) (v : Value) (hs : List Hd) (key : List UInt8) (w : World) (e : Ending) (w' : World) : Prop :=
  e = .returned (.bool (keyedU (hdS hs) key)) ∧ Below base w w' ∧ (∀ i, i < w.heap.size → (∀ x ∈ hs, x.M ≠ i) → w'.heap[i]? = w.heap[i]?) ∧ (keyedU (hdS hs) key = true → ∃ hs', HsAt w' base v hs' ∧ hdS hs' = noteU (hdS hs) key)

theorem map_grown {w w' : World} {base M : Nat} {v : Value} {hs : List Hd} (h : HsAt w base v hs) (hg : w.grownBy w' (some M)) (hM : M ∉ hs.map (·.M)) (hv : some M ≠ v.ownBlock) : HsAt w' base v hs := by
  refine ⟨World.ownsRow.kept h.row hg (.inr (fun e => hv e.symm)), fun x hx => ⟨(h.sets x hx).1.block (hg.block x.M (h.sets x hx).1.lt (fun e => hM ?_)), (h.sets x hx).2⟩, h.nd⟩
  rw [← Option.some.inj e]
  exact List.mem_map_of_mem hx

set_option maxRecDepth 100000 in
set_option maxHeartbeats 1600000 in
theorem keyed_any (key : ByteArray) (hkz : key.size ≤ 1000000) (w : World) (base : Nat) (v : Value) (hs : List Hd) (h : HsAt w base v hs) (hl : hs.length ≤ 1000) (hT : Tabs w) (hks : ∀ x ∈ hs, x.ks.length ≤ 1000000) :
    Calls Tryd.prog 26 #[v, .string key] w fun e w' => KeyedTold base v hs key.data.toList w e w' := by
  have hemp : key.toList.isEmpty = key.data.toList.isEmpty := by rw [ByteArray.toList_eq]
  have HEM := Lib.hid hemp
  clear hemp
  rcases h.shape with ⟨rfl, rfl⟩ | ⟨g, cap, rfl, hg1, hg2, hg3, hg4⟩
  · have HH := Lib.hid h
    clear h hks
    go_enter Tryd.func26, Tryd.ntmps26
    go_wp2
    go_ret
    refine ⟨?_, Below.refl _ _, fun _ _ _ => rfl, fun _ => ⟨[], HH.out, rfl⟩⟩
    rw [HEM.out]
    rfl
  · rcases List.eq_nil_or_concat hs with rfl | ⟨hs0, x, rfl⟩
    · have HH := Lib.hid h
      clear h hks
      show Calls Tryd.prog _ #[.slice (some ⟨g, 0, none⟩) 0 cap, .string key] w fun e w' => KeyedTold base (.slice (some ⟨g, 0, none⟩) 0 cap) [] key.data.toList w e w'
      go_enter Tryd.func26, Tryd.ntmps26
      go_wp2
      go_ret
      refine ⟨?_, Below.refl _ _, fun _ _ _ => rfl, fun _ => ⟨[], HH.out, rfl⟩⟩
      rw [HEM.out]
      rfl
    · rw [List.concat_eq_append] at *
      obtain ⟨m, hm⟩ : ∃ m, hs0.length = m := ⟨_, rfl⟩
      have hn : (hs0 ++ [x]).length = m + 1 := by rw [List.length_append, hm]; rfl
      rw [hn] at h hl ⊢
      obtain ⟨hc0, hc1⟩ := h.last hm
      obtain ⟨hset, hMb, hMv⟩ := h.sets x (by simp)
      have hst : hdS (hs0 ++ [x]) = hdS hs0 ++ [(x.o, x.ks)] := by simp [hdS]
      have hkd := keyedU_snoc (hdS hs0) x.o x.ks key.data.toList
      have hnt := noteU_snoc (hdS hs0) x.o x.ks key.data.toList
      rw [← hst] at hkd hnt
      have hMn : x.M ∉ hs0.map (·.M) := by
        have := h.nd
        rw [List.map_append, List.nodup_append] at this
        intro hmem
        exact this.2.2 x.M hmem x.M (by simp) rfl
      have hxk := hks x (by simp)
      have HH := Lib.hid h
      have HKD := Lib.hid hkd
      have HNT := Lib.hid hnt
      have HMN := Lib.hid hMn
      have HMV := Lib.hid hMv
      have HST := Lib.hid hst
      have HSET := Lib.hid hset
      have HT := Lib.hid hT
      clear h hkd hnt hMn hks hn hst hset hT hMv
      cases ho : x.o with
      | false =>
        rw [ho] at hc0 HKD HNT
        have HKD2 : Hid (keyedU (hdS (hs0 ++ [x])) key.data.toList = key.data.toList.isEmpty) := HKD.out
        have HNT2 : Hid (noteU (hdS (hs0 ++ [x])) key.data.toList = hdS (hs0 ++ [x])) := by
          show _ = _
          rw [HNT.out, HST.out, ho]
          rfl
        clear HKD HNT ho
        go_enter Tryd.func26, Tryd.ntmps26
        go_wp2
        go_ret
        refine ⟨?_, Below.refl _ _, fun _ _ _ => rfl, fun _ => ⟨hs0 ++ [x], HH.out, HNT2.out.symm⟩⟩
        rw [HKD2.out, ← HEM.out]
        rfl
      | true =>
        rw [ho] at hc0 HKD HNT
        have HNT2 : Hid (noteU (hdS (hs0 ++ [x])) key.data.toList = hdS (hs0 ++ [⟨true, x.M, x.ks ++ [key.data.toList]⟩])) := by
          show _ = _
          rw [HNT.out]
          simp [hdS]
        have hlk := HSET.out.lookup key (by omega)
        cases hct : x.ks.contains key.data.toList with
        | true =>
          rw [hct] at hlk HKD
          have HKD2 : Hid (keyedU (hdS (hs0 ++ [x])) key.data.toList = false) := HKD.out
          clear HKD HNT ho hct
          go_enter Tryd.func26, Tryd.ntmps26
          go_wp2
          all_goals
            go_ret
            refine ⟨by rw [HKD2.out]; rfl, Below.refl _ _, fun _ _ _ => rfl, fun h => ?_⟩
            rw [HKD2.out] at h
            cases h
        | false =>
          rw [hct] at hlk HKD
          have HKD2 : Hid (keyedU (hdS (hs0 ++ [x])) key.data.toList = validB key) := by
            show _ = _
            rw [HKD.out]
            simp [validU, validB]
          clear HKD HNT hct
          cases hvb : validB key with
          | false =>
            rw [hvb] at HKD2
            go_enter Tryd.func26, Tryd.ntmps26
            go_wp2_with (first | (go_at_call 51; refine (valid_any key _ HT.out (by omega)).mono ?_; rw [hvb]; rintro _ w1 ⟨rfl, hb1⟩))
            all_goals
              go_ret
              refine ⟨by rw [HKD2.out]; rfl, hb1.mono (by omega), fun i hi _ => hb1.block i hi, fun h => ?_⟩
              rw [HKD2.out] at h
              cases h
          | true =>
            rw [hvb] at HKD2
            go_enter Tryd.func26, Tryd.ntmps26
            go_wp2_with fail
            refine (valid_any key _ HT.out (by omega)).mono ?_
            rw [hvb]
            rintro _ w1 ⟨rfl, hb1⟩
            obtain ⟨w2, hup, hS2, hg2'⟩ := (HSET.out.keep hb1).update key (by omega) (by omega)
            have hH1 := HH.out.keep hb1
            have hnew : HsAt w2 base (.slice (some ⟨g, 0, none⟩) (m + 1) cap) (hs0 ++ [⟨true, x.M, x.ks ++ [key.data.toList]⟩]) := by
              refine ⟨?_, fun y hy => ?_, ?_⟩
              · have e := World.ownsRow.kept hH1.row hg2' (.inr (fun e => HMV.out e.symm))
                have e2 : hsV (hs0 ++ [⟨true, x.M, x.ks ++ [key.data.toList]⟩]) = hsV (hs0 ++ [x]) := by
                  rw [hsV_app, hsV_app]
                  congr 1
                  show [Value.bool true, _] = [Value.bool x.o, _]
                  rw [ho]
                rw [e2]
                rw [List.length_append] at e ⊢
                exact e
              · rcases List.mem_append.1 hy with hy | hy
                · have := hH1.sets y (List.mem_append_left _ hy)
                  refine ⟨this.1.block (hg2'.block y.M this.1.lt (fun e => HMN.out ?_)), this.2⟩
                  rw [← Option.some.inj e]
                  exact List.mem_map_of_mem hy
                · rw [List.mem_singleton.1 hy]
                  exact ⟨hS2, hMb, HMV.out⟩
              · have := hH1.nd
                rw [List.map_append] at this ⊢
                exact this
            have hbel : Below base w w2 := (hb1.mono (by omega)).grown hg2' (Nat.le_trans (by omega) hb1.size) (fun k hk => by rw [← Option.some.inj hk]; exact hMb)
            have HFR : Hid (∀ i, i < w.heap.size → (∀ y ∈ hs0 ++ [x], y.M ≠ i) → w2.heap[i]? = w.heap[i]?) := fun i hi hx =>
              (hg2'.block i (Nat.lt_of_lt_of_le hi hb1.size) (fun e => hx x (by simp) (Option.some.inj e).symm)).trans (hb1.block i hi)
            have HNEW := Lib.hid hnew
            have HBEL := Lib.hid hbel
            clear hnew hbel hH1 hS2 hg2'
            go_wp2
            go_ret
            exact ⟨by rw [HKD2.out]; rfl, HBEL.out, HFR.out, fun _ => ⟨_, HNEW.out, HNT2.out.symm⟩⟩
end Go.Proofs.YtmnigdcgdebgoaaDoor
namespace Go.Proofs.YtmnigdcgdebgoaaDoor
open Go.RowKit
set_option linter.unusedVariables false

theorem holds_any (K : Int) (b : Bool) (hb : decide (6 ≤ K ∧ K ≤ 7) = b) (w : World) : Calls Tryd.prog 27 #[.int .i64 K] w fun e w' => e = .returned (.bool b) ∧ w = w' := by
  by_cases h6 : K = 6
  · subst h6
    subst hb
    go_enter Tryd.func27, Tryd.ntmps27
    go_wp2
    go_ret
    exact ⟨rfl, rfl⟩
  · by_cases h7 : K = 7
    · subst h7
      subst hb
      go_enter Tryd.func27, Tryd.ntmps27
      go_wp2
      go_ret
      exact ⟨rfl, rfl⟩
    · have hbf : b = false := by
        rw [← hb]
        simp
        omega
      subst hbf
      clear hb
      have z6 : (K == 6) = false := by rw [beq_eq_false_iff_ne]; exact h6
      have z7 : (K == 7) = false := by rw [beq_eq_false_iff_ne]; exact h7
      go_enter Tryd.func27, Tryd.ntmps27
      go_wp2
      go_ret
      exact ⟨rfl, rfl⟩

theorem whole_no (x : It) (h : wholeU x = false) (h1 : 1 ≤ x.kind) (h7 : x.kind ≤ 7) (ht : x.kind = 5 ∨ x.text = []) (hv : validU x.text = true) (hn : x.kind = 4 ∨ x.n = 0) : 6 ≤ x.kind ∧ 64 ≤ x.depth := by
  unfold wholeU at h
  have e1 : decide (1 ≤ x.kind) = true := by simpa using h1
  have e2 : decide (x.kind ≤ 7) = true := by simpa using h7
  have e3 : (decide (x.kind = 5) || x.text.isEmpty) = true := by
    rcases ht with h | h
    · simp [h]
    · simp [h]
  have e4 : (decide (x.kind = 4) || decide (x.n = 0)) = true := by simpa using hn
  rw [e1, e2, e3, e4, hv] at h
  simp at h
  omega
theorem whole_yes (x : It) (h : wholeU x = true) : 1 ≤ x.kind ∧ x.kind ≤ 7 ∧ (x.kind = 5 ∨ x.text = []) ∧ validU x.text = true ∧ (x.kind = 4 ∨ x.n = 0) ∧ (x.kind < 6 ∨ x.depth < 64) := by
  unfold wholeU at h
  simp only [Bool.and_eq_true, Bool.or_eq_true, decide_eq_true_eq, List.isEmpty_iff] at h
  obtain ⟨⟨⟨⟨⟨h1, h2⟩, h3⟩, h4⟩, h5⟩, h6⟩ := h
  exact ⟨h1, h2, h3, h4, h5, h6⟩
theorem whole_out (x : It) (h : ¬ (1 ≤ x.kind ∧ x.kind ≤ 7)) : wholeU x = false := by
  cases hw : wholeU x with
  | false => rfl
  | true => exact absurd ⟨(whole_yes x hw).1, (whole_yes x hw).2.1⟩ h
theorem whole_text (x : It) (h : ¬ (x.kind = 5 ∨ x.text = [])) : wholeU x = false := by
  cases hw : wholeU x with
  | false => rfl
  | true => exact absurd (whole_yes x hw).2.2.1 h
theorem whole_valid (x : It) (h : validU x.text = false) : wholeU x = false := by
  cases hw : wholeU x with
  | false => rfl
  | true => rw [(whole_yes x hw).2.2.2.1] at h; cases h
theorem whole_n (x : It) (h : ¬ (x.kind = 4 ∨ x.n = 0)) : wholeU x = false := by
  cases hw : wholeU x with
  | false => rfl
  | true => exact absurd (whole_yes x hw).2.2.2.2.1 h
theorem whole_depth (x : It) (h1 : 1 ≤ x.kind) (h7 : x.kind ≤ 7) (ht : x.kind = 5 ∨ x.text = []) (hv : validU x.text = true) (hn : x.kind = 4 ∨ x.n = 0) : wholeU x = (decide (x.kind < 6) || decide (x.depth < 64)) := by
  cases hw : wholeU x with
  | true =>
    have := (whole_yes x hw).2.2.2.2.2
    simpa using this
  | false =>
    have := whole_no x hw h1 h7 ht hv hn
    simp
    omega

set_option maxRecDepth 100000 in
set_option maxHeartbeats 1600000 in
theorem whole_any (d K n : Int) (key text : ByteArray) (w : World) (hT : Tabs w) (htz : text.size ≤ 1000000) (b : Bool) (hb : wholeU ⟨d, K, key.data.toList, text.data.toList, n⟩ = b) :
    Calls Tryd.prog 25 #[itA d K key text n] w fun e w' => e = .returned (.bool b) ∧ Below w.heap.size w w' := by
  have hba := (Below.refl w.heap.size w).alloc (Nat.le_refl _) (.cells #[.int .i64 d, .int .i64 K, .string key, .string text, .int .i64 n] 41)
  have HBA := Lib.hid hba
  have HT := Lib.hid (hT.keep hba)
  clear hba hT
  unfold itA
  by_cases hK1 : K < 1
  · rw [whole_out _ (show ¬ (1 ≤ K ∧ K ≤ 7) by omega)] at hb
    subst hb
    go_enter Tryd.func25, Tryd.ntmps25
    go_wp2
    go_ret
    exact ⟨rfl, HBA.out⟩
  · by_cases hK7 : 7 < K
    · rw [whole_out _ (show ¬ (1 ≤ K ∧ K ≤ 7) by omega)] at hb
      subst hb
      go_enter Tryd.func25, Tryd.ntmps25
      go_wp2
      go_ret
      exact ⟨rfl, HBA.out⟩
    · have hK1' : 1 ≤ K := by omega
      have hK7' : K ≤ 7 := by omega
      have hte : text.toList.isEmpty = text.data.toList.isEmpty := by rw [ByteArray.toList_eq]
      by_cases ht : K = 5 ∨ text.data.toList = []
      · by_cases h5 : K = 5
        · subst h5
          cases hv : validB text with
          | false =>
            rw [whole_valid ⟨d, 5, key.data.toList, text.data.toList, n⟩ hv] at hb
            subst hb
            go_enter Tryd.func25, Tryd.ntmps25
            go_wp2_with fail
            refine (valid_any text _ HT.out (by omega)).mono ?_
            rw [hv]
            rintro _ w1 ⟨rfl, hb1⟩
            have hbb := chain HBA.out hb1
            go_wp2
            go_ret
            exact ⟨rfl, hbb⟩
          | true =>
            have HC1 : Hid ((w.alloc (.cells #[.int .i64 d, .int .i64 5, .string key, .string text, .int .i64 n] 41)).heap[w.heap.size]? = _) := heap_alloc_new w _
            by_cases hn : n = 0
            · have hbt : b = true := by
                rw [← hb, whole_depth ⟨d, 5, key.data.toList, text.data.toList, n⟩ (by show (1 : Int) ≤ 5; decide) (by show (5 : Int) ≤ 7; decide) (.inl rfl) hv (.inr hn)]
                rfl
              subst hbt
              subst hn
              clear hb
              go_enter Tryd.func25, Tryd.ntmps25
              go_wp2_with fail
              refine (valid_any text _ HT.out (by omega)).mono ?_
              rw [hv]
              rintro _ w1 ⟨rfl, hb1⟩
              have hbb := chain HBA.out hb1
              have hbox := (Box.new w (.int .i64 d) (.int .i64 5) (.string key) (.string text) (.int .i64 0)).keep hb1
              obtain ⟨b0, b1, b2, b3, b4⟩ := hbox.cells
              clear hbox hb1 HC1
              go_wp2_with fail
              refine (holds_any 5 false (by decide) _).mono ?_
              rintro _ w2 ⟨rfl, rfl⟩
              go_wp2
              go_ret
              exact ⟨rfl, hbb⟩
            · rw [whole_n _ (show ¬ ((5 : Int) = 4 ∨ n = 0) by omega)] at hb
              subst hb
              have zn : (n == 0) = false := by rw [beq_eq_false_iff_ne]; exact hn
              have zn' : (n != 0) = true := by simp [hn]
              go_enter Tryd.func25, Tryd.ntmps25
              go_wp2_with fail
              refine (valid_any text _ HT.out (by omega)).mono ?_
              rw [hv]
              rintro _ w1 ⟨rfl, hb1⟩
              have hbb := chain HBA.out hb1
              have hbox := (Box.new w (.int .i64 d) (.int .i64 5) (.string key) (.string text) (.int .i64 n)).keep hb1
              obtain ⟨b0, b1, b2, b3, b4⟩ := hbox.cells
              clear hbox hb1 HC1
              go_wp2
              go_ret
              exact ⟨rfl, hbb⟩
        · have hte' : text.data.toList = [] := ht.resolve_left h5
          have htx : text = ByteArray.empty := ba_ext (by rw [hte']; rfl)
          subst htx
          have hv : validB ByteArray.empty = true := by decide +kernel
          have z5 : (K == 5) = false := by rw [beq_eq_false_iff_ne]; exact h5
          have z5' : (K != 5) = false → False := by simp [h5]
          have z5'' : (K != 5) = true := by simp [h5]
          clear z5' ht hte hte'
          by_cases hn : K = 4 ∨ n = 0
          · have hbv := whole_depth ⟨d, K, key.data.toList, ByteArray.empty.data.toList, n⟩ hK1' hK7' (.inr rfl) hv hn
            rw [hb] at hbv
            have HBV := Lib.hid hbv
            clear hbv hb
            by_cases h4 : K = 4
            · subst h4
              have hbt : b = true := by rw [HBV.out]; rfl
              subst hbt
              go_enter Tryd.func25, Tryd.ntmps25
              go_wp2_with fail
              refine (valid_any ByteArray.empty _ HT.out (by decide)).mono ?_
              rw [hv]
              rintro _ w1 ⟨rfl, hb1⟩
              have hbb := chain HBA.out hb1
              have hbox := (Box.new w (.int .i64 d) (.int .i64 4) (.string key) (.string ByteArray.empty) (.int .i64 n)).keep hb1
              obtain ⟨b0, b1, b2, b3, b4⟩ := hbox.cells
              clear hbox hb1
              go_wp2_with fail
              refine (holds_any 4 false (by decide) _).mono ?_
              rintro _ w2 ⟨rfl, rfl⟩
              go_wp2
              go_ret
              exact ⟨rfl, hbb⟩
            · have hn0 : n = 0 := hn.resolve_left h4
              subst hn0
              have z4 : (K == 4) = false := by rw [beq_eq_false_iff_ne]; exact h4
              have z4' : (K != 4) = true := by simp [h4]
              clear hn
              by_cases h6 : 6 ≤ K
              · have hbt : b = decide (d < 64) := by
                  rw [HBV.out]
                  have : decide (K < 6) = false := by simpa using h6
                  show (decide (K < 6) || decide (d < 64)) = _
                  rw [this]
                  rfl
                subst hbt
                go_enter Tryd.func25, Tryd.ntmps25
                go_wp2_with fail
                refine (valid_any ByteArray.empty _ HT.out (by decide)).mono ?_
                rw [hv]
                rintro _ w1 ⟨rfl, hb1⟩
                have hbb := chain HBA.out hb1
                have hbox := (Box.new w (.int .i64 d) (.int .i64 K) (.string key) (.string ByteArray.empty) (.int .i64 0)).keep hb1
                obtain ⟨b0, b1, b2, b3, b4⟩ := hbox.cells
                clear hbox hb1
                go_wp2_with fail
                refine (holds_any K true (by simpa using ⟨h6, hK7'⟩) _).mono ?_
                rintro _ w2 ⟨rfl, rfl⟩
                go_wp2
                go_ret
                exact ⟨rfl, hbb⟩
              · have hbt : b = true := by
                  rw [HBV.out]
                  have : decide (K < 6) = true := by simp; omega
                  show (decide (K < 6) || decide (d < 64)) = _
                  rw [this]
                  rfl
                subst hbt
                go_enter Tryd.func25, Tryd.ntmps25
                go_wp2_with fail
                refine (valid_any ByteArray.empty _ HT.out (by decide)).mono ?_
                rw [hv]
                rintro _ w1 ⟨rfl, hb1⟩
                have hbb := chain HBA.out hb1
                have hbox := (Box.new w (.int .i64 d) (.int .i64 K) (.string key) (.string ByteArray.empty) (.int .i64 0)).keep hb1
                obtain ⟨b0, b1, b2, b3, b4⟩ := hbox.cells
                clear hbox hb1
                go_wp2_with fail
                refine (holds_any K false (by simp; omega) _).mono ?_
                rintro _ w2 ⟨rfl, rfl⟩
                go_wp2
                go_ret
                exact ⟨rfl, hbb⟩
          · rw [whole_n _ hn] at hb
            subst hb
            have h4 : ¬ K = 4 := fun h => hn (.inl h)
            have h0 : ¬ n = 0 := fun h => hn (.inr h)
            have z4 : (K == 4) = false := by rw [beq_eq_false_iff_ne]; exact h4
            have z4' : (K != 4) = true := by simp [h4]
            have zn : (n == 0) = false := by rw [beq_eq_false_iff_ne]; exact h0
            have zn' : (n != 0) = true := by simp [h0]
            clear hn
            go_enter Tryd.func25, Tryd.ntmps25
            go_wp2_with fail
            refine (valid_any ByteArray.empty _ HT.out (by decide)).mono ?_
            rw [hv]
            rintro _ w1 ⟨rfl, hb1⟩
            have hbb := chain HBA.out hb1
            have hbox := (Box.new w (.int .i64 d) (.int .i64 K) (.string key) (.string ByteArray.empty) (.int .i64 n)).keep hb1
            obtain ⟨b0, b1, b2, b3, b4⟩ := hbox.cells
            clear hbox hb1
            go_wp2
            go_ret
            exact ⟨rfl, hbb⟩
      · have hb2 : b = false := by rw [← hb, whole_text _ ht]
        subst hb2
        clear hb
        have h5 : ¬ K = 5 := fun h => ht (.inl h)
        have z5 : (K == 5) = false := by rw [beq_eq_false_iff_ne]; exact h5
        have z5' : (K != 5) = true := by simp [h5]
        have he : text.toList.isEmpty = false := by
          rw [hte]
          cases h : text.data.toList with
          | nil => exact absurd (.inr h) ht
          | cons c t => rfl
        have hl : text.toList ≠ [] := fun h => by rw [h] at he; cases he
        clear ht hte
        go_enter Tryd.func25, Tryd.ntmps25
        go_wp2
        go_ret
        exact ⟨rfl, HBA.out⟩
end Go.Proofs.YtmnigdcgdebgoaaDoor
namespace Go.Proofs.YtmnigdcgdebgoaaDoor
open Go.RowKit
set_option linter.unusedVariables false

/-- How great a row may be. -/
def Small (l : List It) : Prop := l.length ≤ 100000 ∧ ∀ x ∈ l, x.key.length ≤ 1000000 ∧ x.text.length ≤ 1000000 ∧ -9223372036854775808 ≤ x.n ∧ x.n ≤ 9223372036854775807

def RightAt (l : List It) (w : World) (A : Bool) (n : Nat) (v3 v8 : Value) (wr : World) : Prop :=
  ∃ (i : Nat) (hs : List Hd), v8 = .int .i64 (i : Int) ∧ i + n = l.length ∧ HsAt wr w.heap.size v3 hs ∧ hs.length ≤ 64 ∧ (∀ x ∈ hs, x.ks.length ≤ i) ∧ Below w.heap.size w wr ∧ runU i (hdS hs) (l.drop i) = A

theorem add_at (p : Addr) (j : Nat) (hj : 0 < j) : p.add j = ⟨p.block, p.off + j, none⟩ := by
  unfold Addr.add
  rw [if_neg (by omega)]
theorem its_cells {w : World} {ad : Addr} {l : List It} (h : ∀ j u, (itsV l)[j]? = some u → w.cell? (ad.add j) = some u) (i : Nat) (hi : i < l.length) (key text : ByteArray) (hk : key = bytesOf l[i].key) (ht : text = bytesOf l[i].text) :
    w.cell? (ad.add (i * 5)) = some (.int .i64 l[i].depth) ∧ w.cell? ⟨(ad.add (i * 5)).block, (ad.add (i * 5)).off + 1, none⟩ = some (.int .i64 l[i].kind) ∧ w.cell? ⟨(ad.add (i * 5)).block, (ad.add (i * 5)).off + 2, none⟩ = some (.string key) ∧ w.cell? ⟨(ad.add (i * 5)).block, (ad.add (i * 5)).off + 3, none⟩ = some (.string text) ∧ w.cell? ⟨(ad.add (i * 5)).block, (ad.add (i * 5)).off + 4, none⟩ = some (.int .i64 l[i].n) := by
  subst hk ht
  refine ⟨?_, ?_, ?_, ?_, ?_⟩
  · exact h (i * 5 + 0) _ ((itsV_get l i hi 0 (by omega)).trans rfl)
  · rw [← add_at _ 1 (by omega), Go.Deep.add_add]; exact h (i * 5 + 1) _ ((itsV_get l i hi 1 (by omega)).trans rfl)
  · rw [← add_at _ 2 (by omega), Go.Deep.add_add]; exact h (i * 5 + 2) _ ((itsV_get l i hi 2 (by omega)).trans rfl)
  · rw [← add_at _ 3 (by omega), Go.Deep.add_add]; exact h (i * 5 + 3) _ ((itsV_get l i hi 3 (by omega)).trans rfl)
  · rw [← add_at _ 4 (by omega), Go.Deep.add_add]; exact h (i * 5 + 4) _ ((itsV_get l i hi 4 (by omega)).trans rfl)

theorem Tryd.infoHd : (Tryd.prog.info? 53).map (fun i => (i.zero, i.size, i.bytes)) = some (some (.agg #[.bool false, .map none]), 2, 16) := by kernel_rfl

theorem push_holder {w : World} {base : Nat} {v : Value} {hs : List Hd} (h : HsAt w base v hs) (hbase : base ≤ w.heap.size) (hl : hs.length ≤ 1000) (o : Bool) :
    ∃ v' w', (Builtin.append_ #[47, 47] 47 #[v, .slice (some ⟨w.heap.size + 1, 0, none⟩) 1 1]).run Tryd.prog ((w.alloc (.map #[] 0)).alloc (.cells #[.bool o, .map (some w.heap.size)] 53)) = .ok v' w' ∧ HsAt w' base v' (hs ++ [⟨o, w.heap.size, []⟩]) ∧ Below base w w' := by
  obtain ⟨i0, hi, hz0, hz1, hz2⟩ := info_parts Tryd.infoHd
  have hb1 := ((Below.refl w.heap.size w).alloc (Nat.le_refl _) (.map #[] 0)).alloc (by simp) (.cells #[.bool o, .map (some w.heap.size)] 53)
  have h1 := h.keep hb1
  obtain ⟨v', w', hr, hown, hg, _, hat⟩ := run_append_own_at (P := Tryd.prog) ((w.alloc (.map #[] 0)).alloc (.cells #[.bool o, .map (some w.heap.size)] 53)) base 47 47 53 i0 _ 2 16 Tryd.underlying47 hi hz0 hz1 hz2 rfl (by decide) v hs.length (hsV hs) h1.row ⟨w.heap.size + 1, 0, none⟩ 1 1 [.bool o, .map (some w.heap.size)] (by rfl) (by
      intro j u hj
      have e2 : (⟨w.heap.size + 1, 0, none⟩ : Addr).add j = ⟨w.heap.size + 1, j, none⟩ := by cases j <;> simp [Addr.add]
      have e := cell_of_row ((w.alloc (.map #[] 0)).alloc (.cells #[.bool o, .map (some w.heap.size)] 53)) (w.alloc (.map #[] 0)).heap.size j #[.bool o, .map (some w.heap.size)] 53 (0, 0) (heap_alloc_new _ _)
      rw [show (w.alloc (.map #[] 0)).heap.size = w.heap.size + 1 by simp] at e
      rw [e2, e]
      simpa using hj) (by
      intro u hu
      simp only [List.mem_cons, List.not_mem_nil, or_false] at hu
      rcases hu with rfl | rfl <;> rfl) (by unfold maxLen; omega) (by omega) (by simp; omega)
  have hlt : ∀ k, v.ownBlock = some k → k < w.heap.size := fun k hk => (World.ownsRow.lt h.row k hk).2
  refine ⟨v', w', hr, ⟨?_, fun x hx => ?_, ?_⟩, ?_⟩
  · show w'.ownsRow base 53 2 v' (hs ++ [(⟨o, w.heap.size, []⟩ : Hd)]).length (hsV (hs ++ [⟨o, w.heap.size, []⟩]))
    rw [List.length_append, hsV_app]
    exact hown
  · have hown' : ∀ M, M < w.heap.size + 1 → some M ≠ v.ownBlock → some M ≠ v'.ownBlock := fun M hM hne e => by
      rcases hat with e1 | e1
      · exact hne (e.trans e1)
      · rw [e1] at e
        have := Option.some.inj e
        simp at this
        omega
    rcases List.mem_append.1 hx with hx | hx
    · obtain ⟨s1, s2, s3⟩ := h1.sets x hx
      have s4 := (h.sets x hx).1.lt
      exact ⟨s1.block (hg.block x.M s1.lt s3), s2, hown' _ (by omega) s3⟩
    · rw [List.mem_singleton.1 hx]
      have hne : some w.heap.size ≠ v.ownBlock := fun e => by have := hlt _ e.symm; omega
      have s1 := (SetAt.new w).keep ((Below.refl _ _).alloc (Nat.le_refl _) (.cells #[.bool o, .map (some w.heap.size)] 53))
      exact ⟨s1.block (hg.block _ s1.lt hne), hbase, hown' _ (by show w.heap.size < w.heap.size + 1; omega) hne⟩
  · rw [List.map_append, List.nodup_append]
    refine ⟨h.nd, by simp, fun a ha b hb e => ?_⟩
    obtain ⟨x, hx, rfl⟩ := List.mem_map.1 ha
    have s4 := (h.sets x hx).1.lt
    simp at hb
    omega
  · exact (hb1.mono hbase).grown hg (by simp; omega) (fun k hk => (World.ownsRow.lt h.row k hk).1)

theorem hdS_len (hs : List Hd) : (hdS hs).length = hs.length := by simp [hdS]
theorem hdS_take (hs : List Hd) (d : Nat) : (hdS hs).take d = hdS (hs.take d) := by simp [hdS, List.map_take]
theorem note_ks {hs hs' : List Hd} {key : List UInt8} {i : Nat} (h : hdS hs' = noteU (hdS hs) key) (hk : ∀ x ∈ hs, x.ks.length ≤ i) : ∀ x ∈ hs', x.ks.length ≤ i + 1 := by
  have hall : ∀ p ∈ noteU (hdS hs) key, p.2.length ≤ i + 1 := by
    have h0 : ∀ p ∈ hdS hs, p.2.length ≤ i := fun p hp => by
      unfold hdS at hp
      obtain ⟨x, hx, rfl⟩ := List.mem_map.1 hp
      exact hk x hx
    intro p hp
    unfold noteU at hp
    split at hp
    · rename_i ks hl
      rcases List.mem_append.1 hp with hp | hp
      · have := h0 p ((List.dropLast_subset _) hp)
        omega
      · rw [List.mem_singleton.1 hp]
        have := h0 (true, ks) (List.mem_of_getLast? hl)
        show (ks ++ [key]).length ≤ i + 1
        rw [List.length_append]
        show ks.length + 1 ≤ i + 1
        have h3 : ks.length ≤ i := this
        omega
    · have := h0 p hp
      omega
  intro x hx
  have := hall (x.o, x.ks) (by rw [← h]; unfold hdS; exact List.mem_map.2 ⟨x, hx, rfl⟩)
  exact this

/-- What a round does. -/
theorem run_step (i : Nat) (st : St) (l : List It) (hi : i < l.length) : runU i st (l.drop i) = match stepU i st l[i] with | some st' => runU (i + 1) st' (l.drop (i + 1)) | none => false := by
  rw [List.drop_eq_getElem_cons hi]
  rfl
theorem step_none (i : Nat) (st : St) (x : It) (h : ¬ (((if i = 0 then 0 else 1 : Int) ≤ x.depth ∧ x.depth ≤ (st.length : Int)) ∧ wholeU x = true)) : stepU i st x = none := by
  unfold stepU
  rw [if_neg h]
theorem min_one (i : Nat) : min (i : Int) 1 = if i = 0 then 0 else 1 := by
  split <;> omega

set_option maxRecDepth 100000 in
set_option maxHeartbeats 3200000 in
theorem right_some (l : List It) (ad : Addr) (cap : Nat) (w : World) (hT : Tabs w) (hc : ∀ j u, (itsV l)[j]? = some u → w.cell? (ad.add j) = some u) (hcap : l.length ≤ cap) (hsm : Small l) (h0 : l ≠ []) (A : Bool) (hA : runU 0 [] l = A) :
    Calls Tryd.prog 14 #[.slice (some ad) l.length cap] w fun e w' => e = .returned (.bool A) ∧ Below w.heap.size w w' := by
  obtain ⟨n, hn⟩ : ∃ n, l.length = n := ⟨_, rfl⟩
  have hn0 : 0 < n := by
    rw [← hn]
    exact List.length_pos_iff.2 h0
  have hnz : n ≤ 100000 := by rw [← hn]; exact hsm.1
  rw [hn]
  have HST : Hid (RightAt l w A n (.slice none 0 0) (.int .i64 0) w) := ⟨0, [], rfl, by omega, HsAt.nil w _, Nat.zero_le _, (fun x hx => by cases hx), Below.refl _ _, hA⟩
  have HC := Lib.hid hc
  have HN := Lib.hid hn
  have HSM := Lib.hid hsm
  have HT := Lib.hid hT
  rw [hn] at hcap
  clear hA hc hn hsm h0 hT
  go_enter Tryd.func14, Tryd.ntmps14
  go_wp2
  go_loopg [3, 8] n (fun n v3 v8 wr => RightAt l w A n v3 v8 wr)
  case atStart => exact HST.out
  case round =>
    obtain ⟨i, hs, rfl, hin, hH, hhl, hhk, hbe, hrun⟩ := hrel
    rw [HN.out] at hin
    by_cases hi : i < n
    · have hi' : i < l.length := by rw [HN.out]; exact hi
      rw [run_step i _ l hi'] at hrun
      have HRUN := Lib.hid hrun
      have HH := Lib.hid hH
      have HHK := Lib.hid hhk
      have HBE := Lib.hid hbe
      clear hrun hH hhk hbe
      obtain ⟨d, K, key, text, N, hx, hkz, htz⟩ : ∃ (d K : Int) (key text : ByteArray) (N : Int), l[i] = ⟨d, K, key.data.toList, text.data.toList, N⟩ ∧ key.size ≤ 1000000 ∧ text.size ≤ 1000000 := by
        have h1 := (HSM.out.2 l[i] (List.getElem_mem hi'))
        refine ⟨l[i].depth, l[i].kind, bytesOf l[i].key, bytesOf l[i].text, l[i].n, by rw [list_bytesOf, list_bytesOf], ?_, ?_⟩
        · rw [← list_len, list_bytesOf]; exact h1.1
        · rw [← list_len, list_bytesOf]; exact h1.2.1
      have hcw : ∀ j u, (itsV l)[j]? = some u → wr.cell? (ad.add j) = some u := fun j u hj => by
        have h4 := HC.out j u hj
        rw [HBE.out.cell (World.block_lt_of_cell? w _ h4)]
        exact h4
      have hcl := its_cells hcw i hi' key text (by rw [hx, bytesOf_list]) (by rw [hx, bytesOf_list])
      rw [hx] at hcl HRUN
      obtain ⟨q0, q1, q2, q3, q4⟩ := hcl
      have HX := Lib.hid hx
      clear hx hcw
      have q0' : wr.cell? (ad.add (i * 5)) = some (.int .i64 d) := q0
      have hba := (Below.refl wr.heap.size wr).alloc (Nat.le_refl _) (.cells #[.int .i64 d, .int .i64 K, .string key, .string text, .int .i64 N] 41)
      have HBA := Lib.hid hba
      clear hba
      have HTB := Lib.hid ((HT.out.keep HBE.out).keep HBA.out)
      by_cases hlow : d < min (i : Int) 1
      · have HA2 : Hid (A = false) := by
          show _ = _
          rw [← HRUN.out, step_none]
          intro h
          rw [min_one] at hlow
          have h1 : (if i = 0 then 0 else 1 : Int) ≤ d := h.1.1
          omega
        clear HRUN
        go_wp2
        go_ret
        rw [HA2.out]
        exact ⟨rfl, chain HBE.out HBA.out⟩
      · have hd0 : 0 ≤ d := by
          rw [min_one] at hlow
          split at hlow <;> omega
        rcases HH.out.shape with ⟨rfl, rfl⟩ | ⟨g, cp, rfl, hg1, hg2, hg3, hg4⟩
        · skip
          by_cases hhi : (0 : Int) < d
          · have HA2 : Hid (A = false) := by
              show _ = _
              rw [← HRUN.out, step_none]
              intro h
              have h1 : d ≤ ((hdS ([] : List Hd)).length : Int) := h.1.2
              rw [hdS_len] at h1
              simp at h1; omega
            clear HRUN
            go_wp2
            go_ret
            rw [HA2.out]
            exact ⟨rfl, chain HBE.out HBA.out⟩
          · have hd00 : d = 0 := by omega
            subst hd00
            cases hwh : wholeU ⟨(0 : Int), K, key.data.toList, text.data.toList, N⟩ with
            | false =>
              have HA2 : Hid (A = false) := by
                show _ = _
                rw [← HRUN.out, step_none]
                rw [hwh]
                intro h
                cases h.2
              clear HRUN
              go_wp2_with fail
              refine (whole_any (0 : Int) K N key text _ HTB.out htz false hwh).mono ?_
              rintro _ w1 ⟨rfl, hb1⟩
              have hbb := chain (chain HBE.out HBA.out) hb1
              clear hb1
              go_wp2
              go_ret
              rw [HA2.out]
              exact ⟨rfl, hbb⟩
            | true =>
              have hwy := whole_yes _ hwh
              have hK6 : K < 6 ∨ (0 : Int) < 64 := hwy.2.2.2.2.2
              have hK1 : 1 ≤ K := hwy.1
              have hK7 : K ≤ 7 := hwy.2.1
              have hst : stepU i (hdS ([] : List Hd)) ⟨(0 : Int), K, key.data.toList, text.data.toList, N⟩ = if keyedU (hdS (([] : List Hd).take 0)) key.data.toList = true then some (if 6 ≤ K then noteU (hdS (([] : List Hd).take 0)) key.data.toList ++ [(decide (K = 7), [])] else noteU (hdS (([] : List Hd).take 0)) key.data.toList) else none := by
                unfold stepU
                rw [if_pos ⟨⟨by rw [min_one] at hlow; show (if i = 0 then 0 else 1 : Int) ≤ (0 : Int); omega, by rw [hdS_len]; show (0 : Int) ≤ _; omega⟩, hwh⟩]
                show (if keyedU ((hdS ([] : List Hd)).take 0) key.data.toList = true then some (if 6 ≤ K then noteU ((hdS ([] : List Hd)).take 0) key.data.toList ++ [(decide (K = 7), [])] else noteU ((hdS ([] : List Hd)).take 0) key.data.toList) else none) = _
                rw [hdS_take]
              have HSTP := Lib.hid hst
              have HHT := Lib.hid (HH.out.take 0 (Nat.le_refl _))
              clear hst hwy
              go_wp2_with fail
              refine (whole_any (0 : Int) K N key text _ HTB.out htz true hwh).mono ?_
              rintro _ w1 ⟨rfl, hb1⟩
              have hbb1 := chain (chain HBE.out HBA.out) hb1
              have HT1 := Lib.hid (HTB.out.keep hb1)
              have HBX1 := Lib.hid ((Box.new wr (.int .i64 (0 : Int)) (.int .i64 K) (.string key) (.string text) (.int .i64 N)).keep hb1)
              have HHT1 := Lib.hid ((HHT.out.keep HBA.out).keep hb1)
              have HKL : Hid (∀ x ∈ ([] : List Hd).take 0, x.ks.length ≤ 1000000) := fun x hx => by
                have := HHK.out x (List.mem_of_mem_take hx)
                omega
              have hlen1 : (([] : List Hd).take 0).length ≤ 1000 := by rw [List.length_take]; omega
              obtain ⟨e0, e1, e2, e3, e4⟩ := HBX1.out.cells
              clear hb1
              go_wp2_with fail
              with_reducible refine (keyed_any key hkz _ w.heap.size _ (([] : List Hd).take 0) HHT1.out hlen1 HT1.out HKL.out).mono ?_
              rintro _ w2 ⟨rfl, hb2, hfr2, h2⟩
              have hbb2 := hbb1.trans hb2
              have HB2 := Lib.hid hbb2
              have hbx2 : Box w2 wr.heap.size (.int .i64 (0 : Int)) (.int .i64 K) (.string key) (.string text) (.int .i64 N) := ⟨(hfr2 _ HBX1.out.lt (fun x hx e => by have h3 := ((HHT.out.sets x hx).1).lt; omega)).trans HBX1.out.at_⟩
              obtain ⟨d0, d1, d2, d3, d4⟩ := hbx2.cells
              clear hb2 hfr2 hbb1 hbb2 e0 e1 e2 e3 e4 hbx2
              cases hkd : keyedU (hdS (([] : List Hd).take 0)) key.data.toList with
              | false =>
                have HA2 : Hid (A = false) := by
                  show _ = _
                  rw [← HRUN.out, HSTP.out, hkd]
                  rfl
                rw [hkd] at h2
                clear h2 HRUN
                go_wp2
                go_ret
                rw [HA2.out]
                exact ⟨rfl, HB2.out⟩
              | true =>
                rw [hkd] at h2
                obtain ⟨hs', hH', hst'⟩ := h2 rfl
                have HH2 := Lib.hid hH'
                have HST2 := Lib.hid hst'
                have hlen' : hs'.length = 0 := by
                  have e := congrArg List.length hst'
                  rw [noteU_len, hdS_len, hdS_len, List.length_take] at e
                  omega
                have HKL2 : Hid (∀ x ∈ hs', x.ks.length ≤ i + 1) := note_ks hst' (fun x hx => HHK.out x (List.mem_of_mem_take hx))
                clear h2 hH' hst'
                by_cases h6 : 6 ≤ K
                · obtain ⟨v', w3, hrn, hH3, hb3⟩ := push_holder HH2.out HB2.out.size (by omega) (K == 7)
                  have HRN := Lib.hid hrn
                  have hA2 : runU (i + 1) (hdS (hs' ++ [⟨K == 7, w2.heap.size, []⟩])) (l.drop (i + 1)) = A := by
                    rw [← HRUN.out, HSTP.out, hkd, if_pos rfl, if_pos h6, ← HST2.out]
                    congr 1
                    rw [show decide (K = 7) = (K == 7) from rfl]
                    simp [hdS]
                  have HA2 := Lib.hid hA2
                  have HH3 := Lib.hid hH3
                  have HB3 := Lib.hid (HB2.out.trans hb3)
                  have HKL3 : Hid (∀ x ∈ hs' ++ [⟨K == 7, w2.heap.size, []⟩], x.ks.length ≤ i + 1) := fun x hx => by
                    rcases List.mem_append.1 hx with hx | hx
                    · exact HKL2.out x hx
                    · rw [List.mem_singleton.1 hx]
                      exact Nat.zero_le _
                  have hmm := @run_makeMap Tryd.prog
                  clear hrn hA2 hH3 hb3 HRUN HSTP
                  go_wp2_with fail
                  refine (holds_any K true (by simpa using ⟨h6, hK7⟩) _).mono ?_
                  rintro _ w4 ⟨rfl, rfl⟩
                  go_wp2_with (first | (at_builtin; refine wpList_append_run (by rfl) _ _ 47 (by rfl) (by rfl) (by rfl) HRN.out ?_))
                  go_roundg (gk - 1)
                  case measure => omega
                  case rel => exact ⟨i + 1, hs' ++ [⟨K == 7, w2.heap.size, []⟩], by go_num, by rw [HN.out]; omega, HH3.out, by rw [List.length_append]; show hs'.length + 1 ≤ 64; omega, HKL3.out, HB3.out, HA2.out⟩
                · have hA2 : runU (i + 1) (hdS hs') (l.drop (i + 1)) = A := by
                    rw [← HRUN.out, HSTP.out, hkd, if_pos rfl, if_neg h6, ← HST2.out]
                  have HA2 := Lib.hid hA2
                  clear hA2 HRUN HSTP
                  go_wp2_with fail
                  refine (holds_any K false (by simp; omega) _).mono ?_
                  rintro _ w4 ⟨rfl, rfl⟩
                  go_wp2
                  go_roundg (gk - 1)
                  case measure => omega
                  case rel => exact ⟨i + 1, hs', by go_num, by rw [HN.out]; omega, HH2.out, by omega, HKL2.out, HB2.out, HA2.out⟩
        · obtain ⟨m, hm⟩ : ∃ m, hs.length = m := ⟨_, rfl⟩
          have HM := Lib.hid hm
          rw [hm] at HH hhl hg3 ⊢
          clear hm
          by_cases hhi : (m : Int) < d
          · have HA2 : Hid (A = false) := by
              show _ = _
              rw [← HRUN.out, step_none]
              intro h
              have h1 : d ≤ ((hdS hs).length : Int) := h.1.2
              rw [hdS_len] at h1
              rw [HM.out] at h1; omega
            clear HRUN
            go_wp2
            go_ret
            rw [HA2.out]
            exact ⟨rfl, chain HBE.out HBA.out⟩
          · obtain ⟨dn, rfl⟩ : ∃ dn : Nat, d = (dn : Int) := ⟨d.toNat, by omega⟩
            have hdn : dn ≤ hs.length := by rw [HM.out]; omega
            cases hwh : wholeU ⟨(dn : Int), K, key.data.toList, text.data.toList, N⟩ with
            | false =>
              have HA2 : Hid (A = false) := by
                show _ = _
                rw [← HRUN.out, step_none]
                rw [hwh]
                intro h
                cases h.2
              clear HRUN
              go_wp2_with fail
              refine (whole_any (dn : Int) K N key text _ HTB.out htz false hwh).mono ?_
              rintro _ w1 ⟨rfl, hb1⟩
              have hbb := chain (chain HBE.out HBA.out) hb1
              clear hb1
              go_wp2
              go_ret
              rw [HA2.out]
              exact ⟨rfl, hbb⟩
            | true =>
              have hwy := whole_yes _ hwh
              have hK6 : K < 6 ∨ (dn : Int) < 64 := hwy.2.2.2.2.2
              have hK1 : 1 ≤ K := hwy.1
              have hK7 : K ≤ 7 := hwy.2.1
              have hst : stepU i (hdS hs) ⟨(dn : Int), K, key.data.toList, text.data.toList, N⟩ = if keyedU (hdS (hs.take dn)) key.data.toList = true then some (if 6 ≤ K then noteU (hdS (hs.take dn)) key.data.toList ++ [(decide (K = 7), [])] else noteU (hdS (hs.take dn)) key.data.toList) else none := by
                unfold stepU
                rw [if_pos ⟨⟨by rw [min_one] at hlow; show (if i = 0 then 0 else 1 : Int) ≤ (dn : Int); omega, by rw [hdS_len]; show (dn : Int) ≤ _; omega⟩, hwh⟩]
                show (if keyedU ((hdS hs).take dn) key.data.toList = true then some (if 6 ≤ K then noteU ((hdS hs).take dn) key.data.toList ++ [(decide (K = 7), [])] else noteU ((hdS hs).take dn) key.data.toList) else none) = _
                rw [hdS_take]
              have HSTP := Lib.hid hst
              have HHT := Lib.hid (HH.out.take dn hdn)
              clear hst hwy
              go_wp2_with fail
              refine (whole_any (dn : Int) K N key text _ HTB.out htz true hwh).mono ?_
              rintro _ w1 ⟨rfl, hb1⟩
              have hbb1 := chain (chain HBE.out HBA.out) hb1
              have HT1 := Lib.hid (HTB.out.keep hb1)
              have HBX1 := Lib.hid ((Box.new wr (.int .i64 (dn : Int)) (.int .i64 K) (.string key) (.string text) (.int .i64 N)).keep hb1)
              have HHT1 := Lib.hid ((HHT.out.keep HBA.out).keep hb1)
              have HKL : Hid (∀ x ∈ hs.take dn, x.ks.length ≤ 1000000) := fun x hx => by
                have := HHK.out x (List.mem_of_mem_take hx)
                omega
              have hlen1 : (hs.take dn).length ≤ 1000 := by rw [List.length_take]; omega
              obtain ⟨e0, e1, e2, e3, e4⟩ := HBX1.out.cells
              clear hb1
              go_wp2_with fail
              with_reducible refine (keyed_any key hkz _ w.heap.size _ (hs.take dn) HHT1.out hlen1 HT1.out HKL.out).mono ?_
              rintro _ w2 ⟨rfl, hb2, hfr2, h2⟩
              have hbb2 := hbb1.trans hb2
              have HB2 := Lib.hid hbb2
              have hbx2 : Box w2 wr.heap.size (.int .i64 (dn : Int)) (.int .i64 K) (.string key) (.string text) (.int .i64 N) := ⟨(hfr2 _ HBX1.out.lt (fun x hx e => by have h3 := ((HHT.out.sets x hx).1).lt; omega)).trans HBX1.out.at_⟩
              obtain ⟨d0, d1, d2, d3, d4⟩ := hbx2.cells
              clear hb2 hfr2 hbb1 hbb2 e0 e1 e2 e3 e4 hbx2
              cases hkd : keyedU (hdS (hs.take dn)) key.data.toList with
              | false =>
                have HA2 : Hid (A = false) := by
                  show _ = _
                  rw [← HRUN.out, HSTP.out, hkd]
                  rfl
                rw [hkd] at h2
                clear h2 HRUN
                go_wp2
                go_ret
                rw [HA2.out]
                exact ⟨rfl, HB2.out⟩
              | true =>
                rw [hkd] at h2
                obtain ⟨hs', hH', hst'⟩ := h2 rfl
                have HH2 := Lib.hid hH'
                have HST2 := Lib.hid hst'
                have hlen' : hs'.length = dn := by
                  have e := congrArg List.length hst'
                  rw [noteU_len, hdS_len, hdS_len, List.length_take] at e
                  omega
                have HKL2 : Hid (∀ x ∈ hs', x.ks.length ≤ i + 1) := note_ks hst' (fun x hx => HHK.out x (List.mem_of_mem_take hx))
                clear h2 hH' hst'
                by_cases h6 : 6 ≤ K
                · obtain ⟨v', w3, hrn, hH3, hb3⟩ := push_holder HH2.out HB2.out.size (by omega) (K == 7)
                  have HRN := Lib.hid hrn
                  have hA2 : runU (i + 1) (hdS (hs' ++ [⟨K == 7, w2.heap.size, []⟩])) (l.drop (i + 1)) = A := by
                    rw [← HRUN.out, HSTP.out, hkd, if_pos rfl, if_pos h6, ← HST2.out]
                    congr 1
                    rw [show decide (K = 7) = (K == 7) from rfl]
                    simp [hdS]
                  have HA2 := Lib.hid hA2
                  have HH3 := Lib.hid hH3
                  have HB3 := Lib.hid (HB2.out.trans hb3)
                  have HKL3 : Hid (∀ x ∈ hs' ++ [⟨K == 7, w2.heap.size, []⟩], x.ks.length ≤ i + 1) := fun x hx => by
                    rcases List.mem_append.1 hx with hx | hx
                    · exact HKL2.out x hx
                    · rw [List.mem_singleton.1 hx]
                      exact Nat.zero_le _
                  have hmm := @run_makeMap Tryd.prog
                  clear hrn hA2 hH3 hb3 HRUN HSTP
                  go_wp2_with fail
                  refine (holds_any K true (by simpa using ⟨h6, hK7⟩) _).mono ?_
                  rintro _ w4 ⟨rfl, rfl⟩
                  go_wp2_with (first | (at_builtin; refine wpList_append_run (by rfl) _ _ 47 (by rfl) (by rfl) (by rfl) HRN.out ?_))
                  go_roundg (gk - 1)
                  case measure => omega
                  case rel => exact ⟨i + 1, hs' ++ [⟨K == 7, w2.heap.size, []⟩], by go_num, by rw [HN.out]; omega, HH3.out, by rw [List.length_append]; show hs'.length + 1 ≤ 64; omega, HKL3.out, HB3.out, HA2.out⟩
                · have hA2 : runU (i + 1) (hdS hs') (l.drop (i + 1)) = A := by
                    rw [← HRUN.out, HSTP.out, hkd, if_pos rfl, if_neg h6, ← HST2.out]
                  have HA2 := Lib.hid hA2
                  clear hA2 HRUN HSTP
                  go_wp2_with fail
                  refine (holds_any K false (by simp; omega) _).mono ?_
                  rintro _ w4 ⟨rfl, rfl⟩
                  go_wp2
                  go_roundg (gk - 1)
                  case measure => omega
                  case rel => exact ⟨i + 1, hs', by go_num, by rw [HN.out]; omega, HH2.out, by omega, HKL2.out, HB2.out, HA2.out⟩
    · have hie : i = n := by omega
      have HA2 : Hid (A = true) := by
        show _ = _
        rw [← hrun, List.drop_eq_nil_of_le (by rw [HN.out]; omega)]
        rfl
      have hn1 : (0 : Int) < (n : Int) := by omega
      clear hrun hH hhk
      go_wp2
      go_ret
      rw [HA2.out]
      exact ⟨by first | rfl | simp, hbe⟩
end Go.Proofs.YtmnigdcgdebgoaaDoor
namespace Go.Proofs.YtmnigdcgdebgoaaDoor
open Go.RowKit
set_option linter.unusedVariables false

def SameW (w : World) (n : Nat) (v8 : Value) (wr : World) : Prop := v8 = .int .i64 0 ∧ w = wr

set_option maxRecDepth 100000 in
theorem right_none (ao : Option Addr) (cap : Nat) (w : World) : Calls Tryd.prog 14 #[.slice ao 0 cap] w fun e w' => e = .returned (.bool false) ∧ Below w.heap.size w w' := by
  have HST : Hid (SameW w 0 (.int .i64 0) w) := ⟨rfl, rfl⟩
  go_enter Tryd.func14, Tryd.ntmps14
  go_wp2
  go_loopg [8] 0 (fun n v8 wr => SameW w n v8 wr)
  case atStart => exact HST.out
  case round =>
    obtain ⟨rfl, rfl⟩ := hrel
    clear HST
    go_wp2
    go_ret
    exact ⟨rfl, Below.refl _ _⟩

theorem jright_any (v : Value) (l : List It) (w : World) (hT : Tabs w) (h : ItsAt w v l) (hsm : Small l) :
    Calls Tryd.prog 14 #[v] w fun e w' => e = .returned (.bool (rightU l)) ∧ Below w.heap.size w w' := by
  by_cases h0 : l = []
  · subst h0
    rcases h with ⟨rfl, _⟩ | ⟨ad, cap, rfl, _, _⟩
    · exact right_none none 0 w
    · exact right_none (some ad) cap w
  · rcases h with ⟨_, h⟩ | ⟨ad, cap, rfl, h1, h2⟩
    · exact absurd h h0
    · have e : rightU l = runU 0 [] l := by
        unfold rightU
        cases l with
        | nil => exact absurd rfl h0
        | cons x t => rfl
      rw [e]
      exact right_some l ad cap w hT h2 h1 hsm h0 _ rfl
end Go.Proofs.YtmnigdcgdebgoaaDoor
