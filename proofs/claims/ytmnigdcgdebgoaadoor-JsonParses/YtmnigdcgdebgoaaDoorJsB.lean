/-
  The program's reader of json: hold, over either way to read a member.
-/
import Derived.Test.YtmnigdcgdebgoaaDoorJsA
namespace Go.Proofs.YtmnigdcgdebgoaaDoor
open Go.RowKit
set_option linter.unusedVariables false

/-- An array or object, behind its opening sign. -/
def holdF (R : List UInt8 → Option Int) (f d : Nat) (o : Bool) (key t : List UInt8) : Nat × List It × List UInt8 :=
  if 64 ≤ d then (81, [], []) else if signF (shutO o) t then (0, [⟨d, kindO o, key, [], 0⟩], signR (shutO o) t)
  else okThen (listF R f (d + 1) o [] t) fun m r => (0, [⟨d, kindO o, key, [], 0⟩] ++ m, r)

theorem list_err (R : List UInt8 → Option Int) (g d : Nat) (o : Bool) (ks : List (List UInt8)) (l : List UInt8) (E : Nat) (k : List UInt8) (its : List It) (r : List UInt8) (h : memF R g d o ks l = (E, k, its, r)) (hE : E ≠ 0) : listF R (g + 1) d o ks l = (E, [], []) := by
  rw [list_mem, h, if_neg hE]
theorem list_shut (R : List UInt8 → Option Int) (g d : Nat) (o : Bool) (ks : List (List UInt8)) (l : List UInt8) (k : List UInt8) (its : List It) (r : List UInt8) (h : memF R g d o ks l = (0, k, its, r)) (hs : signF (shutO o) r = true) : listF R (g + 1) d o ks l = (0, its, signR (shutO o) r) := by
  rw [list_mem, h, if_pos rfl]
  unfold signR
  rw [if_pos hs]
  unfold signF at hs
  cases hk : skipL r with
  | nil => rw [hk] at hs; cases hs
  | cons c t =>
    rw [hk] at hs
    have e : c = shutO o := by simpa using hs
    simp only [e, if_true]
    rfl
theorem list_more (R : List UInt8 → Option Int) (g d : Nat) (o : Bool) (ks : List (List UInt8)) (l : List UInt8) (k : List UInt8) (its : List It) (r : List UInt8) (h : memF R g d o ks l = (0, k, its, r)) (hs : signF (shutO o) r = false) (hc : signF 44 (skipL r) = true) :
    listF R (g + 1) d o ks l = okThen (listF R g d o (ks ++ [k]) (signR 44 (skipL r))) fun m r4 => (0, its ++ m, r4) := by
  rw [list_mem, h, if_pos rfl]
  unfold signR
  rw [if_pos hc]
  unfold signF at hs hc
  rw [skip_two] at hc ⊢
  cases hk : skipL r with
  | nil => rw [hk] at hc; cases hc
  | cons c t =>
    rw [hk] at hs hc
    have e : c = 44 := by simpa using hc
    have n : ¬ c = shutO o := by simpa using hs
    simp only
    rw [if_neg n, if_pos (by rw [e]; rfl)]
    rfl
theorem list_bad (R : List UInt8 → Option Int) (g d : Nat) (o : Bool) (ks : List (List UInt8)) (l : List UInt8) (k : List UInt8) (its : List It) (r : List UInt8) (h : memF R g d o ks l = (0, k, its, r)) (hs : signF (shutO o) r = false) (hc : signF 44 (skipL r) = false) :
    listF R (g + 1) d o ks l = (80, [], []) := by
  rw [list_mem, h, if_pos rfl]
  unfold signF at hs hc
  rw [skip_two] at hc
  cases hk : skipL r with
  | nil => rfl
  | cons c t =>
    rw [hk] at hs hc
    have e : ¬ c = 44 := by simpa using hc
    have n : ¬ c = shutO o := by simpa using hs
    simp only
    rw [if_neg n, if_neg (show ¬ c.toNat = 44 from fun h => e (UInt8.toNat.inj h))]
theorem okThen_two (p : Nat × List It × List UInt8) (acc its : List It) : okThen (okThen p fun m r => (0, its ++ m, r)) (fun m r => (0, acc ++ m, r)) = okThen p fun m r => (0, (acc ++ its) ++ m, r) := by
  unfold okThen
  by_cases h : p.1 = 0
  · rw [if_pos h, if_pos h]
    simp
  · rw [if_neg h, if_neg h]
    simp only
    rw [if_neg h]
theorem signR_len (c : UInt8) (r : List UInt8) : (signR c r).length ≤ r.length := by
  unfold signR
  have := skip_len r
  split
  · rw [List.length_tail]; omega
  · exact this
theorem signR_no (c : UInt8) (r : List UInt8) (h : signF c r = false) : signR c r = skipL r := by
  unfold signR
  rw [if_neg (by rw [h]; decide)]
theorem signR_lt (c : UInt8) (r : List UInt8) (h : signF c r = true) : (signR c r).length + 1 ≤ r.length := by
  unfold signR
  rw [if_pos h]
  have hl := skip_len r
  unfold signF at h
  cases hk : skipL r with
  | nil => rw [hk] at h; cases h
  | cons c t =>
    rw [hk, List.length_cons] at hl
    exact hl
theorem mem_count (R : List UInt8 → Option Int) (f d : Nat) (o : Bool) (ks : List (List UInt8)) (l k : List UInt8) (its : List It) (r : List UInt8) (h : memF R f d o ks l = (0, k, its, r)) : 1 ≤ its.length ∧ its.length + r.length ≤ l.length := by
  cases o with
  | false =>
    rw [mem_arr] at h
    have h1 : valueF R f d [] l = (0, its, r) := by
      have := congrArg Prod.fst h
      have h2 := congrArg (fun x => x.2.2.1) h
      have h3 := congrArg (fun x => x.2.2.2) h
      exact Prod.ext this (Prod.ext h2 h3)
    exact (value_count R f).1 d [] l its r h1
  | true =>
    by_cases hk : (keyF ks l).1 = 0
    · obtain ⟨k2, r2, hk2⟩ : ∃ k r2, keyF ks l = (0, k, r2) := ⟨_, _, Prod.ext hk rfl⟩
      rw [mem_obj R f d ks l k2 r2 hk2] at h
      have h1 : valueF R f d k2 r2 = (0, its, r) := by
        have := congrArg Prod.fst h
        have h2 := congrArg (fun x => x.2.2.1) h
        have h3 := congrArg (fun x => x.2.2.2) h
        exact Prod.ext this (Prod.ext h2 h3)
      have e1 := key_len ks l k2 r2 hk2
      have e2 := (value_count R f).1 d k2 r2 its r h1
      omega
    · rw [mem_obj_no R f d ks l hk] at h
      exact absurd (congrArg Prod.fst h) hk

/-- What hold holds at the head of its loop. -/
def HoldAt (C : Nat → Prop) (I : World → Value → List (List UInt8) → Prop) (X : Nat) (s : ByteArray) (l : List It) (f0 d : Nat) (o : Bool) (key : ByteArray) (v0 : Value) (w : World) (FA : Nat × List It × List UInt8) (n : Nat) (wr : World) : Prop :=
  ∃ f k v ks acc, k ≤ s.size ∧ s.size - k = n ∧ ks.length ≤ k ∧ (l ++ acc).length ≤ k ∧ 2 * (s.size - k) + 3 ≤ f ∧ f ≤ f0 ∧ okThen (listF readD f (d + 1) o ks (restB s k)) (fun m r => (0, acc ++ m, r)) = FA ∧ Rd wr X s k v (l ++ acc) ∧ I wr v ks ∧ Tabs wr ∧ Kp C w wr v0 v ∧
    Box wr w.heap.size (.int .i64 (d : Int)) (.int .i64 (kindO o)) (.string key) (.string ByteArray.empty) (.int .i64 0) ∧ some w.heap.size ≠ v.ownBlock

theorem list_skip (R : List UInt8 → Option Int) (f d : Nat) (o : Bool) (ks : List (List UInt8)) (l : List UInt8) : listF R f d o ks (skipL l) = listF R f d o ks l := by
  cases f with
  | zero => rw [listF, listF]
  | succ f =>
    rw [listF, listF]
    cases o with
    | false =>
      simp only [Bool.false_eq_true, if_false, okThen_ok]
      rw [value_skip]
    | true =>
      have e : keyF ks (skipL l) = keyF ks l := by
        unfold keyF
        rw [skip_two]
      simp only [if_true, e]
theorem kindO_int (o : Bool) : kindO o = 6 ∨ kindO o = 7 := by cases o <;> decide

set_option maxRecDepth 100000 in
set_option maxHeartbeats 3200000 in
theorem rhold_arr {f : Nat} {w : World} {X : Nat} {C : Nat → Prop} {I : World → Value → List (List UInt8) → Prop} {s : ByteArray} {k : Nat} {v : Value} {l : List It} (h : Rd w X s k v l) (hi0 : I w v []) (hT : Tabs w) (hTX : TabX X) (hk : k < s.size) (hs : s.size ≤ 1000000) (hl : l.length ≤ k) (d : Nat) (hd : d ≤ 64) (key : ByteArray) (hf : 2 * (s.size - k) + 1 ≤ f)
    (hI : ∀ w w' v v' ks, I w v ks → Kp (· = X) w w' v v' → I w' v' ks) (hCX : C X) (hCle : ∀ i, C i → X ≤ i) (hCB : ∀ i, w.heap.size ≤ i → ¬ C i)
    (HM : d < 64 → ∀ g, g < f → ∀ w k v l ks, Rd w X s k v l → I w v ks → Tabs w → k ≤ s.size → l.length ≤ k → ks.length ≤ k → 2 * (s.size - k) + 2 ≤ g → Calls Tryd.prog 40 #[.pointer (some ⟨X, 0, none⟩), itA ((d : Int) + 1) 0 ByteArray.empty ByteArray.empty 0] w fun e w' => MemTold C I X s v l ks w (memF readD g (d + 1) false ks (restB s k)) e w') :
    Calls Tryd.prog 89 #[.pointer (some ⟨X, 0, none⟩), itA d 6 key ByteArray.empty 0, .func (.func 40) #[.pointer (some ⟨X, 0, none⟩)] #[]] w fun e w' => Tells C X s v l w (holdF readD f d false key.data.toList (restB s (k + 1))) e w' := by
  obtain ⟨FA, hFA⟩ : ∃ A, holdF readD f d false key.data.toList (restB s (k + 1)) = A := ⟨_, rfl⟩
  rw [hFA]
  have HFA := Lib.hid hFA
  have HMM := Lib.hid HM
  have HII := Lib.hid hI
  have HCL := Lib.hid hCle
  have hap := h.apart
  have HAP := Lib.hid hap
  have hne := hap.1
  have hne' : ¬ X = w.heap.size := fun h => hne h.symm
  have hCB1 := hCB w.heap.size (Nat.le_refl _)
  have HCB1 := Lib.hid hCB1
  have hKa := Kp.alloc (· = X) w v (.cells #[.int .i64 (d : Int), .int .i64 6, .string key, .string ByteArray.empty, .int .i64 0] 41)
  have HD := Lib.hid h
  have HI0 := Lib.hid hi0
  have HT := Lib.hid hT
  have HKA : Hid (Kp C w _ v v) := hKa.mono (fun i _ h => h ▸ hCX)
  have hlt := h.lt
  have hc1 := h.c1
  have hf1 := h.f1
  clear hFA HM hI hCle hap hCB hCB1 hKa h hi0 hT
  unfold itA
  by_cases h64 : d = 64
  · have hA2 : FA = (81, [], []) := by
      rw [← HFA.out]
      unfold holdF
      rw [if_pos (by omega)]
    have HA2 := Lib.hid hA2
    clear hA2
    subst h64
    go_enter Tryd.func89, Tryd.ntmps89
    go_wp2
    go_ret
    rw [HA2.out]
    exact ⟨rfl, v, HKA.out, fun h => by cases h⟩
  · have zd : ((d : Int) == 64) = false := by rw [beq_eq_false_iff_ne]; omega
    have zd2 : ¬ (d : Int) = 64 := by omega
    have HA2 : Hid (FA = if signF (shutO false) (restB s (k + 1)) then (0, [⟨d, 6, key.data.toList, [], 0⟩], signR (shutO false) (restB s (k + 1))) else okThen (listF readD f (d + 1) false [] (restB s (k + 1))) fun m r => (0, [⟨d, 6, key.data.toList, [], 0⟩] ++ m, r)) := by
      show _ = _
      rw [← HFA.out]
      unfold holdF
      rw [if_neg (by omega)]
      rfl
    clear HFA h64
    go_enter Tryd.func89, Tryd.ntmps89
    go_wp2_with fail
    obtain ⟨W, hW⟩ : ∃ W, (w.setCell ⟨X, 1, none⟩ (.int .i64 ((k : Int) + 1))).alloc (.cells #[.int .i64 (d : Int), .int .i64 6, .string key, .string ByteArray.empty, .int .i64 0] 41) = W := ⟨_, rfl⟩
    rw [hW]
    have hkx : Kp (· = X) w W v v := by rw [← hW]; exact (Kp.setCell (C := (· = X)) _ v ⟨X, 1, none⟩ _ rfl).trans (Kp.alloc _ _ _ _)
    have hD1 : Rd W X s (k + 1) v l := by rw [← hW]; exact (HD.out.move (k + 1) _ (by omega)).alloc _
    have hB1 : Box W w.heap.size (.int .i64 (d : Int)) (.int .i64 6) (.string key) (.string ByteArray.empty) (.int .i64 0) := by
      have e := Box.new (w.setCell ⟨X, 1, none⟩ (.int .i64 ((k : Int) + 1))) (.int .i64 (d : Int)) (.int .i64 6) (.string key) (.string ByteArray.empty) (.int .i64 0)
      rw [hW, show (w.setCell ⟨X, 1, none⟩ (.int .i64 ((k : Int) + 1))).heap.size = w.heap.size by simp] at e
      exact e
    have HT1 := Lib.hid (HT.out.kp hTX HD.out hkx (fun i hi => Nat.le_of_eq hi.symm))
    have HI1 := Lib.hid (HII.out _ _ _ _ _ HI0.out hkx)
    have HK1 : Hid (Kp C w W v v) := hkx.mono (fun i _ h => h ▸ hCX)
    have HD1 := Lib.hid hD1
    have HB1 := Lib.hid hB1
    clear hW hkx hD1 hB1 HD HT HI0 HKA hc1 hf1
    have c2 := HD1.out.c2
    obtain ⟨b0, b1, b2, b3, b4⟩ := HB1.out.cells
    have f2 := HD1.out.f2
    have hlw := HD1.out.lt
    have hlb := HB1.out.lt
    obtain ⟨ao, m, c, w3, hrun, hc3, hf3, hrd3, hkp3, hg3⟩ := push_new HD1.out (d : Int) 6 0 key ByteArray.empty (by omega)
    have HRUN := Lib.hid hrun
    have HD3 := Lib.hid hrd3
    have HT3 := Lib.hid (HT1.out.kp hTX HD1.out hkp3 (fun i hi => Nat.le_of_eq hi.symm))
    have HI3 := Lib.hid (HII.out _ _ _ _ _ HI1.out hkp3)
    have HB3 := Lib.hid (HB1.out.kp hkp3 hne HAP.out.2)
    have HO3 := Lib.hid (own_new hkp3 hlb HAP.out.2)
    have HK3 : Hid (Kp C w _ v _) := HK1.out.trans (hkp3.mono (fun i _ h => h ▸ hCX))
    clear hrun hrd3 hkp3 hg3
    go_region_law (refine step_append_run (by rfl) _ _ 25 (by rfl) (by rfl) (by rfl) HRUN.out ?_)
    all_goals
      obtain ⟨W4, hW4⟩ : ∃ W4, w3.setCell ⟨X, 2, none⟩ (.slice ao m c) = W4 := ⟨_, rfl⟩
      obtain ⟨v3, hv3⟩ : ∃ v3, Value.slice ao m c = v3 := ⟨_, rfl⟩
      rw [hW4]
      rw [hW4, hv3] at HD3 HI3 HK3
      rw [hW4] at HT3 HB3
      rw [hv3] at HO3
      clear hW4 hv3 hc3 hf3 HRUN c2 b0 b1 b2 b3 b4 f2 hlw hlb HD1 HB1 HT1 HI1 HK1
      obtain ⟨b0, b1, b2, b3, b4⟩ := HB3.out.cells
      go_wp2_with fail
      refine (end_any false _).mono ?_
      rintro _ w4 ⟨rfl, rfl⟩
      cases hsg : signF (shutO false) (restB s (k + 1)) with
      | true =>
        have HA3 : Hid (FA = (0, [⟨d, 6, key.data.toList, [], 0⟩], signR (shutO false) (restB s (k + 1)))) := by
          show _ = _
          rw [HA2.out, hsg, if_pos rfl]
        clear HA2
        go_wp2_with fail
        refine (sign_any HD3.out (by omega) hs (shutO false) ⟨#[shutO false]⟩ rfl true hsg).mono ?_
        rintro _ w5 ⟨rfl, j, hj, hrj, hd5, hk5⟩
        have HK5 : Hid (Kp C w w5 v v3) := HK3.out.trans (hk5.mono (fun i _ h => h ▸ hCX))
        have HRJ := Lib.hid hrj
        have HD5 := Lib.hid hd5
        clear hrj hd5 hk5
        go_wp2
        go_ret
        rw [HA3.out]
        exact ⟨rfl, v3, HK5.out, fun _ => ⟨j, hj, HRJ.out, HD5.out⟩⟩
      | false =>
        have HA3 : Hid (okThen (listF readD f (d + 1) false [] (restB s (k + 1))) (fun m r => (0, [⟨d, 6, key.data.toList, [], 0⟩] ++ m, r)) = FA) := by
          show _ = _
          rw [HA2.out, hsg, if_neg (by decide)]
        clear HA2
        go_wp2_with fail
        refine (sign_any HD3.out (by omega) hs (shutO false) ⟨#[shutO false]⟩ rfl false hsg).mono ?_
        rintro _ w5 ⟨rfl, j, hj, hrj, hd5, hk5⟩
        rw [signR_no _ _ hsg] at hrj
        have hjk : s.size - j ≤ s.size - (k + 1) := by
          have e := skip_len (restB s (k + 1))
          rw [← hrj, restB_len, restB_len] at e
          exact e
        have hK5 : Kp C w w5 v v3 := HK3.out.trans (hk5.mono (fun i _ h => h ▸ hCX))
        have hA4 : okThen (listF readD f (d + 1) false [] (restB s j)) (fun m r => (0, [⟨d, 6, key.data.toList, [], 0⟩] ++ m, r)) = FA := by
          rw [hrj, list_skip]
          exact HA3.out
        have HST : Hid (HoldAt C I X s l f d false key v w FA (s.size - j) w5) :=
          ⟨f, j, v3, [], [⟨d, 6, key.data.toList, [], 0⟩], hj, rfl, Nat.zero_le _, by rw [List.length_append]; show l.length + 1 ≤ j; omega, by omega, Nat.le_refl _, hA4, hd5, HII.out _ _ _ _ _ HI3.out hk5, HT3.out.kp hTX HD3.out hk5 (fun i hi => Nat.le_of_eq hi.symm), hK5, HB3.out.kp hk5 hne HO3.out, HO3.out⟩
        clear hrj hd5 hk5 hjk hK5 hA4 hsg HA3 HD3 HI3 HT3 HB3 HO3 HK3 b0 b1 b2 b3 b4
        go_wp2
        go_loopg [] (s.size - j) (fun n wr => HoldAt C I X s l f d false key v w FA n wr)
        case atStart => exact HST.out
        case round =>
          obtain ⟨g0, p, v4, ks, acc, hp, hpn, hks, hla, hg0, hgf, hfa, hD4, hI4, hT4, hK4, hB4, hO4⟩ := hrel
          obtain ⟨g, rfl⟩ : ∃ g, g0 = g + 1 := ⟨g0 - 1, by omega⟩
          have hmem := HMM.out (by omega) g (by omega) wr p v4 (l ++ acc) ks hD4 hI4 hT4 hp hla hks (by omega)
          obtain ⟨E, ky, its, r, hq⟩ : ∃ E ky its r, memF readD g (d + 1) false ks (restB s p) = (E, ky, its, r) := ⟨_, _, _, _, rfl⟩
          rw [hq] at hmem
          have HMEM := Lib.hid hmem
          have HFA := Lib.hid hfa
          have HQ := Lib.hid hq
          have HD4 := Lib.hid hD4
          have HT4 := Lib.hid hT4
          have HK4 := Lib.hid hK4
          have HB4 := Lib.hid hB4
          have HO4 := Lib.hid hO4
          clear hmem hfa hq hD4 hI4 hT4 hK4 hB4 hO4 HST
          obtain ⟨b0, b1, b2, b3, b4⟩ := HB4.out.cells
          unfold itA at HMEM
          by_cases hE : E = 0
          · subst hE
            have hcnt := mem_count _ _ _ _ _ _ _ _ _ HQ.out
            rw [restB_len] at hcnt
            go_wp2_with fail
            refine HMEM.out.mono ?_
            rintro _ w6 ⟨rfl, v6, hK6, h6⟩
            obtain ⟨k6, hk6, hr6, hD6, hI6⟩ := h6 (by first | rfl | trivial)
            have hr6z : s.size - k6 = r.length := by rw [← restB_len]; exact congrArg List.length hr6
            have HR6 := Lib.hid hr6
            have HD6 := Lib.hid hD6
            have HI6 := Lib.hid hI6
            have HT6 := Lib.hid (HT4.out.kp hTX HD4.out hK6 HCL.out)
            have HB6 := Lib.hid (HB4.out.kp hK6 HCB1.out HO4.out)
            have HO6 := Lib.hid (own_new hK6 HB4.out.lt HO4.out)
            have HK6 := Lib.hid (HK4.out.trans hK6)
            clear h6 hr6 hD6 hI6 hK6 HMEM HD4 HT4 HK4 HB4 HO4 b0 b1 b2 b3 b4
            obtain ⟨b0, b1, b2, b3, b4⟩ := HB6.out.cells
            go_wp2_with fail
            refine (end_any false _).mono ?_
            rintro _ w7 ⟨rfl, rfl⟩
            cases hsg : signF (shutO false) r with
            | true =>
              have HA3 : Hid (FA = (0, acc ++ its, signR (shutO false) r)) := by
                show _ = _
                rw [← HFA.out, list_shut _ _ _ _ _ _ _ _ _ HQ.out hsg, okThen_ok]
              go_wp2_with fail
              refine (sign_any HD6.out hk6 hs (shutO false) ⟨#[shutO false]⟩ rfl true (by rw [HR6.out]; exact hsg)).mono ?_
              rintro _ w8 ⟨rfl, j8, hj8, hrj8, hd8, hk8⟩
              rw [HR6.out] at hrj8
              have HK8 : Hid (Kp C w w8 v v6) := HK6.out.trans (hk8.mono (fun i _ h => h ▸ hCX))
              have HRJ8 := Lib.hid hrj8
              have HD8 : Hid (Rd w8 X s j8 v6 (l ++ (acc ++ its))) := by rw [← List.append_assoc]; exact hd8
              clear hrj8 hd8 hk8
              go_wp2
              go_ret
              rw [HA3.out]
              exact ⟨rfl, v6, HK8.out, fun _ => ⟨j8, hj8, HRJ8.out, HD8.out⟩⟩
            | false =>
              go_wp2_with fail
              refine (sign_any HD6.out hk6 hs (shutO false) ⟨#[shutO false]⟩ rfl false (by rw [HR6.out]; exact hsg)).mono ?_
              rintro _ w8 ⟨rfl, j8, hj8, hrj8, hd8, hk8⟩
              rw [HR6.out, signR_no _ _ hsg] at hrj8
              have hz8 : s.size - j8 ≤ s.size - k6 := by
                have e := skip_len r
                rw [← hrj8, restB_len] at e
                omega
              have HK8 : Hid (Kp C w w8 v v6) := HK6.out.trans (hk8.mono (fun i _ h => h ▸ hCX))
              have HRJ8 := Lib.hid hrj8
              have HD8 := Lib.hid hd8
              have HI8 := Lib.hid (HII.out _ _ _ _ _ HI6.out hk8)
              have HT8 := Lib.hid (HT6.out.kp hTX HD6.out hk8 (fun i hi => Nat.le_of_eq hi.symm))
              have HB8 := Lib.hid (HB6.out.kp hk8 hne HO6.out)
              clear hrj8 hd8 hk8 HD6 HI6 HT6 HB6 HK6 b0 b1 b2 b3 b4
              cases hsc : signF 44 (skipL r) with
              | true =>
                have HA3 : Hid (okThen (listF readD g (d + 1) false (ks ++ [ky]) (signR 44 (skipL r))) (fun m r => (0, (acc ++ its) ++ m, r)) = FA) := by
                  show _ = _
                  rw [← HFA.out, list_more _ _ _ _ _ _ _ _ _ HQ.out hsg hsc, okThen_two]
                have hlt9 := signR_lt 44 (skipL r) hsc
                go_wp2_with fail
                refine (sign_any HD8.out hj8 hs 44 ⟨#[44]⟩ rfl true (by rw [HRJ8.out]; exact hsc)).mono ?_
                rintro _ w9 ⟨rfl, j9, hj9, hrj9, hd9, hk9⟩
                rw [HRJ8.out] at hrj9
                have hz9 : s.size - j9 + 1 ≤ s.size - j8 := by
                  rw [← hrj9, restB_len, ← HRJ8.out, restB_len] at hlt9
                  exact hlt9
                have HK9 : Hid (Kp C w w9 v v6) := HK8.out.trans (hk9.mono (fun i _ h => h ▸ hCX))
                have HA4 : Hid (okThen (listF readD g (d + 1) false (ks ++ [ky]) (restB s j9)) (fun m r => (0, (acc ++ its) ++ m, r)) = FA) := by
                  show _ = _
                  rw [hrj9]
                  exact HA3.out
                have HD9 : Hid (Rd w9 X s j9 v6 (l ++ (acc ++ its))) := by rw [← List.append_assoc]; exact hd9
                have HI9 := Lib.hid (HII.out _ _ _ _ _ HI8.out hk9)
                have HT9 := Lib.hid (HT8.out.kp hTX HD8.out hk9 (fun i hi => Nat.le_of_eq hi.symm))
                have HB9 := Lib.hid (HB8.out.kp hk9 hne HO6.out)
                have hlen9 : (l ++ (acc ++ its)).length ≤ j9 := by
                  rw [List.length_append] at hla
                  rw [List.length_append, List.length_append]
                  omega
                have hks9 : (ks ++ [ky]).length ≤ j9 := by
                  rw [List.length_append]
                  show ks.length + 1 ≤ j9
                  omega
                clear hrj9 hd9 hk9 HD8 HI8 HT8 HB8 HK8 HA3 hsc hsg hlt9
                go_wp2
                go_roundg (s.size - j9)
                case measure => omega
                case rel => exact ⟨g, j9, v6, ks ++ [ky], acc ++ its, hj9, rfl, hks9, hlen9, by omega, by omega, HA4.out, HD9.out, HI9.out, HT9.out, HK9.out, HB9.out, HO6.out⟩
              | false =>
                have HA3 : Hid (FA = (80, [], [])) := by
                  show _ = _
                  rw [← HFA.out, list_bad _ _ _ _ _ _ _ _ _ HQ.out hsg hsc]
                  rfl
                go_wp2_with fail
                refine (sign_any HD8.out hj8 hs 44 ⟨#[44]⟩ rfl false (by rw [HRJ8.out]; exact hsc)).mono ?_
                rintro _ w9 ⟨rfl, j9, hj9, hrj9, hd9, hk9⟩
                have HK9 : Hid (Kp C w w9 v v6) := HK8.out.trans (hk9.mono (fun i _ h => h ▸ hCX))
                clear hrj9 hd9 hk9
                go_wp2
                go_ret
                rw [HA3.out]
                exact ⟨rfl, v6, HK9.out, fun h => by cases h⟩
          · have z1 : ((E : Int) == 0) = false := by rw [beq_eq_false_iff_ne]; omega
            have z2 : ((E : Int) != 0) = true := by simp; omega
            have z3 : ¬ (E : Int) = 0 := by omega
            have HA3 : Hid (FA = (E, [], [])) := by
              show _ = _
              rw [← HFA.out, list_err _ _ _ _ _ _ _ _ _ _ HQ.out hE]
              unfold okThen
              rw [if_neg hE]
            go_wp2_with fail
            refine HMEM.out.mono ?_
            rintro _ w6 ⟨rfl, v6, hK6, h6⟩
            have HK6 := Lib.hid (HK4.out.trans hK6)
            clear h6 hK6 HMEM
            go_wp2
            go_ret
            rw [HA3.out]
            exact ⟨rfl, v6, HK6.out, fun h => absurd h hE⟩

set_option maxRecDepth 100000 in
set_option maxHeartbeats 3200000 in
theorem rhold_obj {f : Nat} {w : World} {X B1 B2 : Nat} {C : Nat → Prop} {I : World → Value → List (List UInt8) → Prop} {s : ByteArray} {k : Nat} {v : Value} {l : List It} (h : Rd w X s k v l) (hi0 : I w v []) (hT : Tabs w) (hTX : TabX X) (hk : k < s.size) (hs : s.size ≤ 1000000) (hl : l.length ≤ k) (d : Nat) (hd : d ≤ 64) (key : ByteArray) (hf : 2 * (s.size - k) + 1 ≤ f)
    (hI : ∀ w w' v v' ks, I w v ks → Kp (· = X) w w' v v' → I w' v' ks) (hCX : C X) (hCle : ∀ i, C i → X ≤ i) (hCB : ∀ i, w.heap.size ≤ i → ¬ C i)
    (HM : d < 64 → ∀ g, g < f → ∀ w k v l ks, Rd w X s k v l → I w v ks → Tabs w → k ≤ s.size → l.length ≤ k → ks.length ≤ k → 2 * (s.size - k) + 2 ≤ g → Calls Tryd.prog 90 #[itA ((d : Int) + 1) 0 ByteArray.empty ByteArray.empty 0, .pointer (some ⟨B1, 0, none⟩), .pointer (some ⟨B2, 0, none⟩)] w fun e w' => MemTold C I X s v l ks w (memF readD g (d + 1) true ks (restB s k)) e w') :
    Calls Tryd.prog 89 #[.pointer (some ⟨X, 0, none⟩), itA d 7 key ByteArray.empty 0, .func (.func 90) #[] #[.pointer (some ⟨B1, 0, none⟩), .pointer (some ⟨B2, 0, none⟩)]] w fun e w' => Tells C X s v l w (holdF readD f d true key.data.toList (restB s (k + 1))) e w' := by
  obtain ⟨FA, hFA⟩ : ∃ A, holdF readD f d true key.data.toList (restB s (k + 1)) = A := ⟨_, rfl⟩
  rw [hFA]
  have HFA := Lib.hid hFA
  have HMM := Lib.hid HM
  have HII := Lib.hid hI
  have HCL := Lib.hid hCle
  have hap := h.apart
  have HAP := Lib.hid hap
  have hne := hap.1
  have hne' : ¬ X = w.heap.size := fun h => hne h.symm
  have hCB1 := hCB w.heap.size (Nat.le_refl _)
  have HCB1 := Lib.hid hCB1
  have hKa := Kp.alloc (· = X) w v (.cells #[.int .i64 (d : Int), .int .i64 7, .string key, .string ByteArray.empty, .int .i64 0] 41)
  have HD := Lib.hid h
  have HI0 := Lib.hid hi0
  have HT := Lib.hid hT
  have HKA : Hid (Kp C w _ v v) := hKa.mono (fun i _ h => h ▸ hCX)
  have hlt := h.lt
  have hc1 := h.c1
  have hf1 := h.f1
  clear hFA HM hI hCle hap hCB hCB1 hKa h hi0 hT
  unfold itA
  by_cases h64 : d = 64
  · have hA2 : FA = (81, [], []) := by
      rw [← HFA.out]
      unfold holdF
      rw [if_pos (by omega)]
    have HA2 := Lib.hid hA2
    clear hA2
    subst h64
    go_enter Tryd.func89, Tryd.ntmps89
    go_wp2
    go_ret
    rw [HA2.out]
    exact ⟨rfl, v, HKA.out, fun h => by cases h⟩
  · have zd : ((d : Int) == 64) = false := by rw [beq_eq_false_iff_ne]; omega
    have zd2 : ¬ (d : Int) = 64 := by omega
    have HA2 : Hid (FA = if signF (shutO true) (restB s (k + 1)) then (0, [⟨d, 7, key.data.toList, [], 0⟩], signR (shutO true) (restB s (k + 1))) else okThen (listF readD f (d + 1) true [] (restB s (k + 1))) fun m r => (0, [⟨d, 7, key.data.toList, [], 0⟩] ++ m, r)) := by
      show _ = _
      rw [← HFA.out]
      unfold holdF
      rw [if_neg (by omega)]
      rfl
    clear HFA h64
    go_enter Tryd.func89, Tryd.ntmps89
    go_wp2_with fail
    obtain ⟨W, hW⟩ : ∃ W, (w.setCell ⟨X, 1, none⟩ (.int .i64 ((k : Int) + 1))).alloc (.cells #[.int .i64 (d : Int), .int .i64 7, .string key, .string ByteArray.empty, .int .i64 0] 41) = W := ⟨_, rfl⟩
    rw [hW]
    have hkx : Kp (· = X) w W v v := by rw [← hW]; exact (Kp.setCell (C := (· = X)) _ v ⟨X, 1, none⟩ _ rfl).trans (Kp.alloc _ _ _ _)
    have hD1 : Rd W X s (k + 1) v l := by rw [← hW]; exact (HD.out.move (k + 1) _ (by omega)).alloc _
    have hB1 : Box W w.heap.size (.int .i64 (d : Int)) (.int .i64 7) (.string key) (.string ByteArray.empty) (.int .i64 0) := by
      have e := Box.new (w.setCell ⟨X, 1, none⟩ (.int .i64 ((k : Int) + 1))) (.int .i64 (d : Int)) (.int .i64 7) (.string key) (.string ByteArray.empty) (.int .i64 0)
      rw [hW, show (w.setCell ⟨X, 1, none⟩ (.int .i64 ((k : Int) + 1))).heap.size = w.heap.size by simp] at e
      exact e
    have HT1 := Lib.hid (HT.out.kp hTX HD.out hkx (fun i hi => Nat.le_of_eq hi.symm))
    have HI1 := Lib.hid (HII.out _ _ _ _ _ HI0.out hkx)
    have HK1 : Hid (Kp C w W v v) := hkx.mono (fun i _ h => h ▸ hCX)
    have HD1 := Lib.hid hD1
    have HB1 := Lib.hid hB1
    clear hW hkx hD1 hB1 HD HT HI0 HKA hc1 hf1
    have c2 := HD1.out.c2
    obtain ⟨b0, b1, b2, b3, b4⟩ := HB1.out.cells
    have f2 := HD1.out.f2
    have hlw := HD1.out.lt
    have hlb := HB1.out.lt
    obtain ⟨ao, m, c, w3, hrun, hc3, hf3, hrd3, hkp3, hg3⟩ := push_new HD1.out (d : Int) 7 0 key ByteArray.empty (by omega)
    have HRUN := Lib.hid hrun
    have HD3 := Lib.hid hrd3
    have HT3 := Lib.hid (HT1.out.kp hTX HD1.out hkp3 (fun i hi => Nat.le_of_eq hi.symm))
    have HI3 := Lib.hid (HII.out _ _ _ _ _ HI1.out hkp3)
    have HB3 := Lib.hid (HB1.out.kp hkp3 hne HAP.out.2)
    have HO3 := Lib.hid (own_new hkp3 hlb HAP.out.2)
    have HK3 : Hid (Kp C w _ v _) := HK1.out.trans (hkp3.mono (fun i _ h => h ▸ hCX))
    clear hrun hrd3 hkp3 hg3
    go_region_law (refine step_append_run (by rfl) _ _ 25 (by rfl) (by rfl) (by rfl) HRUN.out ?_)
    all_goals
      obtain ⟨W4, hW4⟩ : ∃ W4, w3.setCell ⟨X, 2, none⟩ (.slice ao m c) = W4 := ⟨_, rfl⟩
      obtain ⟨v3, hv3⟩ : ∃ v3, Value.slice ao m c = v3 := ⟨_, rfl⟩
      rw [hW4]
      rw [hW4, hv3] at HD3 HI3 HK3
      rw [hW4] at HT3 HB3
      rw [hv3] at HO3
      clear hW4 hv3 hc3 hf3 HRUN c2 b0 b1 b2 b3 b4 f2 hlw hlb HD1 HB1 HT1 HI1 HK1
      obtain ⟨b0, b1, b2, b3, b4⟩ := HB3.out.cells
      go_wp2_with fail
      refine (end_any true _).mono ?_
      rintro _ w4 ⟨rfl, rfl⟩
      cases hsg : signF (shutO true) (restB s (k + 1)) with
      | true =>
        have HA3 : Hid (FA = (0, [⟨d, 7, key.data.toList, [], 0⟩], signR (shutO true) (restB s (k + 1)))) := by
          show _ = _
          rw [HA2.out, hsg, if_pos rfl]
        clear HA2
        go_wp2_with fail
        refine (sign_any HD3.out (by omega) hs (shutO true) ⟨#[shutO true]⟩ rfl true hsg).mono ?_
        rintro _ w5 ⟨rfl, j, hj, hrj, hd5, hk5⟩
        have HK5 : Hid (Kp C w w5 v v3) := HK3.out.trans (hk5.mono (fun i _ h => h ▸ hCX))
        have HRJ := Lib.hid hrj
        have HD5 := Lib.hid hd5
        clear hrj hd5 hk5
        go_wp2
        go_ret
        rw [HA3.out]
        exact ⟨rfl, v3, HK5.out, fun _ => ⟨j, hj, HRJ.out, HD5.out⟩⟩
      | false =>
        have HA3 : Hid (okThen (listF readD f (d + 1) true [] (restB s (k + 1))) (fun m r => (0, [⟨d, 7, key.data.toList, [], 0⟩] ++ m, r)) = FA) := by
          show _ = _
          rw [HA2.out, hsg, if_neg (by decide)]
        clear HA2
        go_wp2_with fail
        refine (sign_any HD3.out (by omega) hs (shutO true) ⟨#[shutO true]⟩ rfl false hsg).mono ?_
        rintro _ w5 ⟨rfl, j, hj, hrj, hd5, hk5⟩
        rw [signR_no _ _ hsg] at hrj
        have hjk : s.size - j ≤ s.size - (k + 1) := by
          have e := skip_len (restB s (k + 1))
          rw [← hrj, restB_len, restB_len] at e
          exact e
        have hK5 : Kp C w w5 v v3 := HK3.out.trans (hk5.mono (fun i _ h => h ▸ hCX))
        have hA4 : okThen (listF readD f (d + 1) true [] (restB s j)) (fun m r => (0, [⟨d, 7, key.data.toList, [], 0⟩] ++ m, r)) = FA := by
          rw [hrj, list_skip]
          exact HA3.out
        have HST : Hid (HoldAt C I X s l f d true key v w FA (s.size - j) w5) :=
          ⟨f, j, v3, [], [⟨d, 7, key.data.toList, [], 0⟩], hj, rfl, Nat.zero_le _, by rw [List.length_append]; show l.length + 1 ≤ j; omega, by omega, Nat.le_refl _, hA4, hd5, HII.out _ _ _ _ _ HI3.out hk5, HT3.out.kp hTX HD3.out hk5 (fun i hi => Nat.le_of_eq hi.symm), hK5, HB3.out.kp hk5 hne HO3.out, HO3.out⟩
        clear hrj hd5 hk5 hjk hK5 hA4 hsg HA3 HD3 HI3 HT3 HB3 HO3 HK3 b0 b1 b2 b3 b4
        go_wp2
        go_loopg [] (s.size - j) (fun n wr => HoldAt C I X s l f d true key v w FA n wr)
        case atStart => exact HST.out
        case round =>
          obtain ⟨g0, p, v4, ks, acc, hp, hpn, hks, hla, hg0, hgf, hfa, hD4, hI4, hT4, hK4, hB4, hO4⟩ := hrel
          obtain ⟨g, rfl⟩ : ∃ g, g0 = g + 1 := ⟨g0 - 1, by omega⟩
          have hmem := HMM.out (by omega) g (by omega) wr p v4 (l ++ acc) ks hD4 hI4 hT4 hp hla hks (by omega)
          obtain ⟨E, ky, its, r, hq⟩ : ∃ E ky its r, memF readD g (d + 1) true ks (restB s p) = (E, ky, its, r) := ⟨_, _, _, _, rfl⟩
          rw [hq] at hmem
          have HMEM := Lib.hid hmem
          have HFA := Lib.hid hfa
          have HQ := Lib.hid hq
          have HD4 := Lib.hid hD4
          have HT4 := Lib.hid hT4
          have HK4 := Lib.hid hK4
          have HB4 := Lib.hid hB4
          have HO4 := Lib.hid hO4
          clear hmem hfa hq hD4 hI4 hT4 hK4 hB4 hO4 HST
          obtain ⟨b0, b1, b2, b3, b4⟩ := HB4.out.cells
          unfold itA at HMEM
          by_cases hE : E = 0
          · subst hE
            have hcnt := mem_count _ _ _ _ _ _ _ _ _ HQ.out
            rw [restB_len] at hcnt
            go_wp2_with fail
            refine HMEM.out.mono ?_
            rintro _ w6 ⟨rfl, v6, hK6, h6⟩
            obtain ⟨k6, hk6, hr6, hD6, hI6⟩ := h6 (by first | rfl | trivial)
            have hr6z : s.size - k6 = r.length := by rw [← restB_len]; exact congrArg List.length hr6
            have HR6 := Lib.hid hr6
            have HD6 := Lib.hid hD6
            have HI6 := Lib.hid hI6
            have HT6 := Lib.hid (HT4.out.kp hTX HD4.out hK6 HCL.out)
            have HB6 := Lib.hid (HB4.out.kp hK6 HCB1.out HO4.out)
            have HO6 := Lib.hid (own_new hK6 HB4.out.lt HO4.out)
            have HK6 := Lib.hid (HK4.out.trans hK6)
            clear h6 hr6 hD6 hI6 hK6 HMEM HD4 HT4 HK4 HB4 HO4 b0 b1 b2 b3 b4
            obtain ⟨b0, b1, b2, b3, b4⟩ := HB6.out.cells
            go_wp2_with fail
            refine (end_any true _).mono ?_
            rintro _ w7 ⟨rfl, rfl⟩
            cases hsg : signF (shutO true) r with
            | true =>
              have HA3 : Hid (FA = (0, acc ++ its, signR (shutO true) r)) := by
                show _ = _
                rw [← HFA.out, list_shut _ _ _ _ _ _ _ _ _ HQ.out hsg, okThen_ok]
              go_wp2_with fail
              refine (sign_any HD6.out hk6 hs (shutO true) ⟨#[shutO true]⟩ rfl true (by rw [HR6.out]; exact hsg)).mono ?_
              rintro _ w8 ⟨rfl, j8, hj8, hrj8, hd8, hk8⟩
              rw [HR6.out] at hrj8
              have HK8 : Hid (Kp C w w8 v v6) := HK6.out.trans (hk8.mono (fun i _ h => h ▸ hCX))
              have HRJ8 := Lib.hid hrj8
              have HD8 : Hid (Rd w8 X s j8 v6 (l ++ (acc ++ its))) := by rw [← List.append_assoc]; exact hd8
              clear hrj8 hd8 hk8
              go_wp2
              go_ret
              rw [HA3.out]
              exact ⟨rfl, v6, HK8.out, fun _ => ⟨j8, hj8, HRJ8.out, HD8.out⟩⟩
            | false =>
              go_wp2_with fail
              refine (sign_any HD6.out hk6 hs (shutO true) ⟨#[shutO true]⟩ rfl false (by rw [HR6.out]; exact hsg)).mono ?_
              rintro _ w8 ⟨rfl, j8, hj8, hrj8, hd8, hk8⟩
              rw [HR6.out, signR_no _ _ hsg] at hrj8
              have hz8 : s.size - j8 ≤ s.size - k6 := by
                have e := skip_len r
                rw [← hrj8, restB_len] at e
                omega
              have HK8 : Hid (Kp C w w8 v v6) := HK6.out.trans (hk8.mono (fun i _ h => h ▸ hCX))
              have HRJ8 := Lib.hid hrj8
              have HD8 := Lib.hid hd8
              have HI8 := Lib.hid (HII.out _ _ _ _ _ HI6.out hk8)
              have HT8 := Lib.hid (HT6.out.kp hTX HD6.out hk8 (fun i hi => Nat.le_of_eq hi.symm))
              have HB8 := Lib.hid (HB6.out.kp hk8 hne HO6.out)
              clear hrj8 hd8 hk8 HD6 HI6 HT6 HB6 HK6 b0 b1 b2 b3 b4
              cases hsc : signF 44 (skipL r) with
              | true =>
                have HA3 : Hid (okThen (listF readD g (d + 1) true (ks ++ [ky]) (signR 44 (skipL r))) (fun m r => (0, (acc ++ its) ++ m, r)) = FA) := by
                  show _ = _
                  rw [← HFA.out, list_more _ _ _ _ _ _ _ _ _ HQ.out hsg hsc, okThen_two]
                have hlt9 := signR_lt 44 (skipL r) hsc
                go_wp2_with fail
                refine (sign_any HD8.out hj8 hs 44 ⟨#[44]⟩ rfl true (by rw [HRJ8.out]; exact hsc)).mono ?_
                rintro _ w9 ⟨rfl, j9, hj9, hrj9, hd9, hk9⟩
                rw [HRJ8.out] at hrj9
                have hz9 : s.size - j9 + 1 ≤ s.size - j8 := by
                  rw [← hrj9, restB_len, ← HRJ8.out, restB_len] at hlt9
                  exact hlt9
                have HK9 : Hid (Kp C w w9 v v6) := HK8.out.trans (hk9.mono (fun i _ h => h ▸ hCX))
                have HA4 : Hid (okThen (listF readD g (d + 1) true (ks ++ [ky]) (restB s j9)) (fun m r => (0, (acc ++ its) ++ m, r)) = FA) := by
                  show _ = _
                  rw [hrj9]
                  exact HA3.out
                have HD9 : Hid (Rd w9 X s j9 v6 (l ++ (acc ++ its))) := by rw [← List.append_assoc]; exact hd9
                have HI9 := Lib.hid (HII.out _ _ _ _ _ HI8.out hk9)
                have HT9 := Lib.hid (HT8.out.kp hTX HD8.out hk9 (fun i hi => Nat.le_of_eq hi.symm))
                have HB9 := Lib.hid (HB8.out.kp hk9 hne HO6.out)
                have hlen9 : (l ++ (acc ++ its)).length ≤ j9 := by
                  rw [List.length_append] at hla
                  rw [List.length_append, List.length_append]
                  omega
                have hks9 : (ks ++ [ky]).length ≤ j9 := by
                  rw [List.length_append]
                  show ks.length + 1 ≤ j9
                  omega
                clear hrj9 hd9 hk9 HD8 HI8 HT8 HB8 HK8 HA3 hsc hsg hlt9
                go_wp2
                go_roundg (s.size - j9)
                case measure => omega
                case rel => exact ⟨g, j9, v6, ks ++ [ky], acc ++ its, hj9, rfl, hks9, hlen9, by omega, by omega, HA4.out, HD9.out, HI9.out, HT9.out, HK9.out, HB9.out, HO6.out⟩
              | false =>
                have HA3 : Hid (FA = (80, [], [])) := by
                  show _ = _
                  rw [← HFA.out, list_bad _ _ _ _ _ _ _ _ _ HQ.out hsg hsc]
                  rfl
                go_wp2_with fail
                refine (sign_any HD8.out hj8 hs 44 ⟨#[44]⟩ rfl false (by rw [HRJ8.out]; exact hsc)).mono ?_
                rintro _ w9 ⟨rfl, j9, hj9, hrj9, hd9, hk9⟩
                have HK9 : Hid (Kp C w w9 v v6) := HK8.out.trans (hk9.mono (fun i _ h => h ▸ hCX))
                clear hrj9 hd9 hk9
                go_wp2
                go_ret
                rw [HA3.out]
                exact ⟨rfl, v6, HK9.out, fun h => by cases h⟩
          · have z1 : ((E : Int) == 0) = false := by rw [beq_eq_false_iff_ne]; omega
            have z2 : ((E : Int) != 0) = true := by simp; omega
            have z3 : ¬ (E : Int) = 0 := by omega
            have HA3 : Hid (FA = (E, [], [])) := by
              show _ = _
              rw [← HFA.out, list_err _ _ _ _ _ _ _ _ _ _ HQ.out hE]
              unfold okThen
              rw [if_neg hE]
            go_wp2_with fail
            refine HMEM.out.mono ?_
            rintro _ w6 ⟨rfl, v6, hK6, h6⟩
            have HK6 := Lib.hid (HK4.out.trans hK6)
            clear h6 hK6 HMEM
            go_wp2
            go_ret
            rw [HA3.out]
            exact ⟨rfl, v6, HK6.out, fun h => absurd h hE⟩
end Go.Proofs.YtmnigdcgdebgoaaDoor
