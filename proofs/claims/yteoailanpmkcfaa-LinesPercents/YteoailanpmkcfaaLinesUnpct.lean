/-
  The document's own Unpercent (package cracknelref06): its contract.
-/
import Derived.Test.YteoailanpmkcfaaLinesUnesc
import Derived.Test.YteoailanpmkcfaaLinesRows
namespace Go.Proofs.Yteoailanpmkcfaa
open Go.RowKit
set_option linter.unusedVariables false

/-- What Unpercent holds at place k: a is had. -/
def UnpAt (s : ByteArray) (g : Nat) (w0 : World) (out i : Value) (wr : World) : Prop :=
  ∃ (a : List UInt8) (k : Nat), k ≤ s.size ∧ i = .int .i64 (k : Int) ∧ a.length ≤ k ∧ unpctL s.data.toList = (unpctL (s.data.toList.drop k)).map (a ++ ·) ∧ RowB wr g out a ∧ Below g w0 wr ∧ g ≤ wr.heap.size

theorem unp_step (l a : List UInt8) (c : UInt8) (k n : Nat) (hs : stepP (l.drop k) = some (c, n)) (h : unpctL l = (unpctL (l.drop k)).map (a ++ ·)) : unpctL l = (unpctL (l.drop (k + n))).map ((a ++ [c]) ++ ·) := by
  rw [h, unpctL_some _ c n hs, List.drop_drop, Option.map_map]
  congr 1
  funext x
  simp
theorem unp_stop (l a : List UInt8) (k : Nat) (hk : k < l.length) (hs : stepP (l.drop k) = none) (h : unpctL l = (unpctL (l.drop k)).map (a ++ ·)) : unpctL l = none := by
  rw [h, unpctL_none _ _ hs]
  · rfl
  · intro e
    have := congrArg List.length e
    rw [List.length_drop] at this
    simp at this
    omega
theorem unp_end (l a : List UInt8) (k : Nat) (hk : l.length ≤ k) (h : unpctL l = (unpctL (l.drop k)).map (a ++ ·)) : unpctL l = some a := by
  rw [h, List.drop_eq_nil_of_le hk]
  show some (a ++ []) = _
  rw [List.append_nil]

theorem stepP_safe (s : ByteArray) (k : Nat) (hk : k < s.size) (h : safeN s[k].toNat = true) : stepP (s.data.toList.drop k) = some (s[k], 1) := by
  rw [drop_cons s k hk]
  simp only [stepP]
  rw [if_pos h]
theorem stepP_not37 (s : ByteArray) (k : Nat) (hk : k < s.size) (h : safeN s[k].toNat = false) (h37 : s[k] ≠ 37) : stepP (s.data.toList.drop k) = none := by
  rw [drop_cons s k hk]
  simp only [stepP]
  rw [if_neg (by simp [h]), if_neg]
  intro e
  exact h37 (UInt8.toNat.inj e)
theorem stepP_short (s : ByteArray) (k : Nat) (hk : k < s.size) (h : safeN s[k].toNat = false) (hl : s.size < k + 3) : stepP (s.data.toList.drop k) = none := by
  have hlen := list_len s
  rw [drop_cons s k hk]
  simp only [stepP]
  rw [if_neg (by simp [h])]
  split
  · split
    · rename_i x y r e
      have := congrArg List.length e
      rw [List.length_drop] at this
      simp at this
      omega
    · rfl
  · rfl
theorem stepP_long (s : ByteArray) (k : Nat) (hk : k + 2 < s.size) (h37 : s[k] = 37) :
    stepP (s.data.toList.drop k) = match hexV s[k + 1].toNat, hexV s[k + 2].toNat with
        | some a, some b => if safeN (16 * a + b) then none else some (UInt8.ofNat (16 * a + b), 3)
        | _, _ => none := by
  rw [drop_cons s k (by omega), drop_cons s (k + 1) (by omega), drop_cons s (k + 1 + 1) (by omega), h37]
  simp only [stepP]
  rw [show safeN (37 : UInt8).toNat = false from safe37, if_neg (by simp), if_pos (by rfl)]
  rfl

theorem at_rsafe (n : Nat) (C : Int) (b : Bool) (w : World) (hC : C = (n : Int)) (hb : safeN n = b) :
    Calls Try.prog 44 #[.int .u8 C] w fun e w' => e = .returned (.bool b) ∧ w = w' := by
  subst hb
  exact rsafe_any n C w hC
theorem at_rvalue_yes (n a : Nat) (C A : Int) (w : World) (hC : C = (n : Int)) (hn : n < 256) (h : hexV n = some a) (hA : A = (a : Int)) :
    Calls Try.prog 45 #[.int .u8 C] w fun e w' => e = .returned (.tuple #[.int .u8 A, .bool true]) ∧ w = w' := by
  have := rvalue_any n C w hC hn
  rw [h] at this
  subst hA
  exact this
theorem at_rvalue_no (n : Nat) (C : Int) (w : World) (hC : C = (n : Int)) (hn : n < 256) (h : hexV n = none) :
    Calls Try.prog 45 #[.int .u8 C] w fun e w' => e = .returned (.tuple #[.int .u8 0, .bool false]) ∧ w = w' := by
  have := rvalue_any n C w hC hn
  rw [h] at this
  exact this

set_option maxRecDepth 100000 in
set_option maxHeartbeats 1600000 in
theorem runpercent_any (s : ByteArray) (w : World) (hs : s.size ≤ 1000000000000) :
    Calls Try.prog 26 #[.string s] w fun e w' => e = .returned (readV (unpctL s.data.toList)) ∧ Below w.heap.size w w' := by
  have hlen := list_len s
  have HLE := Lib.hid hlen
  clear hlen
  go_enter Try.func26, Try.ntmps26
  go_wp2
  go_loopw [4, 5] (fun out i wr => UnpAt s w.heap.size w out i wr) (fun _ i _ => s.size - (intOf i).toNat)
  case atStart => exact ⟨[], 0, by omega, rfl, by simp, by simp, RowB.nil _ _, Below.refl _ _, Nat.le_refl _⟩
  case round =>
    obtain ⟨a, k, hk, rfl, hal, hinv, hrow, hbe, hsz⟩ := hrel
    have HI := Lib.hid hinv
    have HR := Lib.hid hrow
    clear hinv hrow
    by_cases hlt : k < s.size
    · cases hsf : safeN s[k].toNat with
      | true =>
        have HN := Lib.hid (unp_step _ _ _ _ _ (stepP_safe s k hlt hsf) HI.out)
        have HS := Lib.hid hsf
        clear hsf HI
        go_wp2_with fail
        refine (at_rsafe _ _ true _ rfl HS.out).mono ?_
        rintro _ w1 ⟨rfl, rfl⟩
        clear HS
        go_wp2_with (at_builtin; refine wpList_push rfl _ _ rfl HR.out (c := s[k]) rfl rfl rfl (by omega) hsz ?_; intro v' w2 hrow' hB' hsz')
        have hbe2 := hB' _ _ hbe (Nat.le_refl _)
        have HR2 := Lib.hid hrow'
        clear hB' hrow' HR
        go_wp2
        go_roundw
        case rel => exact ⟨_, k + 1, by omega, by go_num, by rw [List.length_append]; simp; omega, HN.out, HR2.out, hbe2, hsz'⟩
        case measure => simp [intOf]; omega
      | false =>
        have HS := Lib.hid hsf
        have HNO : Hid (stepP (s.data.toList.drop k) = none → readV (unpctL s.data.toList) = .tuple #[.string ByteArray.empty, .bool false]) := by
          show _ → _
          intro h
          rw [unp_stop _ a k (by rw [HLE.out]; exact hlt) h HI.out]
          rfl
        by_cases h37 : s[k] = 37
        · have hi := u8_is h37 37 rfl
          by_cases hl3 : k + 2 < s.size
          · have HST := Lib.hid (stepP_long s k hl3 h37)
            clear hsf h37
            have b1 := s[k + 1].toNat_lt
            have b2 := s[k + 2].toNat_lt
            have q1 : k + 1 < s.size := by omega
            have q3 : ¬ (s.size : Int) - (k : Int) < 3 := by omega
            cases hh : hexV s[k + 1].toNat with
            | none =>
              have HE := Lib.hid (HNO.out (by rw [HST.out, hh]))
              have HH := Lib.hid hh
              clear HST HNO hh HI HR
              cases hw : hexV s[k + 2].toNat with
              | none =>
                have HW := Lib.hid hw
                clear hw
                go_wp2_with fail
                refine (at_rsafe 37 _ false _ rfl safe37).mono ?_
                rintro _ w1 ⟨rfl, rfl⟩
                clear HS
                go_wp2_with fail
                refine (at_rvalue_no _ _ _ rfl b1 HH.out).mono ?_
                rintro _ w1 ⟨rfl, rfl⟩
                go_wp2_with fail
                refine (at_rvalue_no _ _ _ rfl b2 HW.out).mono ?_
                rintro _ w1 ⟨rfl, rfl⟩
                clear b1 b2
                go_wp2
                go_ret2
                rw [HE.out]
                exact ⟨rfl, hbe⟩
              | some y =>
                have HW := Lib.hid hw
                clear hw
                obtain ⟨B, hB⟩ : ∃ B : Int, B = (y : Int) := ⟨_, rfl⟩
                have HB := Lib.hid hB
                clear hB
                go_wp2_with fail
                refine (at_rsafe 37 _ false _ rfl safe37).mono ?_
                rintro _ w1 ⟨rfl, rfl⟩
                clear HS
                go_wp2_with fail
                refine (at_rvalue_no _ _ _ rfl b1 HH.out).mono ?_
                rintro _ w1 ⟨rfl, rfl⟩
                go_wp2_with fail
                refine (at_rvalue_yes _ y _ B _ rfl b2 HW.out HB.out).mono ?_
                rintro _ w1 ⟨rfl, rfl⟩
                clear b1 b2
                go_wp2
                go_ret2
                rw [HE.out]
                exact ⟨rfl, hbe⟩
            | some x =>
              have HH := Lib.hid hh
              obtain ⟨A, hA⟩ : ∃ A : Int, A = (x : Int) := ⟨_, rfl⟩
              have hx := (hexN_hexV _ _ hh).1
              cases hw : hexV s[k + 2].toNat with
              | none =>
                have HE := Lib.hid (HNO.out (by rw [HST.out, hh, hw]))
                have HW := Lib.hid hw
                have HA := Lib.hid hA
                clear hw hh hA hx HST HNO HI HR
                go_wp2_with fail
                refine (at_rsafe 37 _ false _ rfl safe37).mono ?_
                rintro _ w1 ⟨rfl, rfl⟩
                clear HS
                go_wp2_with fail
                refine (at_rvalue_yes _ x _ A _ rfl b1 HH.out HA.out).mono ?_
                rintro _ w1 ⟨rfl, rfl⟩
                go_wp2_with fail
                refine (at_rvalue_no _ _ _ rfl b2 HW.out).mono ?_
                rintro _ w1 ⟨rfl, rfl⟩
                clear b1 b2
                go_wp2
                go_ret2
                rw [HE.out]
                exact ⟨rfl, hbe⟩
              | some y =>
                have HW := Lib.hid hw
                obtain ⟨B, hB⟩ : ∃ B : Int, B = (y : Int) := ⟨_, rfl⟩
                have hy := (hexN_hexV _ _ hw).1
                have a1 : 0 ≤ A := by omega
                have a2 : A ≤ 15 := by omega
                have c1 : 0 ≤ B := by omega
                have c2 : B ≤ 15 := by omega
                have HAB : Hid (16 * A + B = ((16 * x + y : Nat) : Int)) := by show _ = _; omega
                have HA := Lib.hid hA
                have HB := Lib.hid hB
                cases hq : safeN (16 * x + y) with
                | true =>
                  have HE := Lib.hid (HNO.out (by rw [HST.out, hh, hw]; simp only; rw [if_pos hq]))
                  have HQ := Lib.hid hq
                  clear hw hh hA hB hx hy hq HST HNO HI HR
                  go_wp2_with fail
                  refine (at_rsafe 37 _ false _ rfl safe37).mono ?_
                  rintro _ w1 ⟨rfl, rfl⟩
                  clear HS
                  go_wp2_with fail
                  refine (at_rvalue_yes _ x _ A _ rfl b1 HH.out HA.out).mono ?_
                  rintro _ w1 ⟨rfl, rfl⟩
                  go_wp2_with fail
                  refine (at_rvalue_yes _ y _ B _ rfl b2 HW.out HB.out).mono ?_
                  rintro _ w1 ⟨rfl, rfl⟩
                  clear b1 b2
                  go_wp2_with fail
                  refine (at_rsafe _ _ true _ HAB.out HQ.out).mono ?_
                  rintro _ w1 ⟨rfl, rfl⟩
                  go_wp2
                  go_ret2
                  rw [HE.out]
                  exact ⟨rfl, hbe⟩
                | false =>
                  have HN := Lib.hid (unp_step _ a (UInt8.ofNat (16 * x + y)) k 3 (by rw [HST.out, hh, hw]; simp only; rw [if_neg (by simp [hq])]) HI.out)
                  have HQ := Lib.hid hq
                  have HP : Hid (16 * A + B = ((UInt8.ofNat (16 * x + y)).toNat : Int)) := by
                    show _ = _
                    rw [u8p _ (by omega)]
                    exact HAB.out
                  clear hw hh hA hB hx hy hq HST HNO HI
                  go_wp2_with fail
                  refine (at_rsafe 37 _ false _ rfl safe37).mono ?_
                  rintro _ w1 ⟨rfl, rfl⟩
                  clear HS
                  go_wp2_with fail
                  refine (at_rvalue_yes _ x _ A _ rfl b1 HH.out HA.out).mono ?_
                  rintro _ w1 ⟨rfl, rfl⟩
                  go_wp2_with fail
                  refine (at_rvalue_yes _ y _ B _ rfl b2 HW.out HB.out).mono ?_
                  rintro _ w1 ⟨rfl, rfl⟩
                  clear b1 b2
                  go_wp2_with fail
                  refine (at_rsafe _ _ false _ HAB.out HQ.out).mono ?_
                  rintro _ w1 ⟨rfl, rfl⟩
                  go_wp2_with (at_builtin; refine wpList_push rfl _ _ rfl HR.out HP.out rfl rfl (by omega) hsz ?_; intro v' w2 hrow' hB' hsz')
                  have hbe2 := hB' _ _ hbe (Nat.le_refl _)
                  have HR2 := Lib.hid hrow'
                  clear hB' hrow' HR
                  go_wp2
                  go_roundw
                  case rel => exact ⟨_, k + 3, by omega, by go_num, by rw [List.length_append]; simp; omega, HN.out, HR2.out, hbe2, hsz'⟩
                  case measure => simp [intOf]; omega
          · have HE := Lib.hid (HNO.out (stepP_short s k hlt hsf (by omega)))
            have q3 : (s.size : Int) - (k : Int) < 3 := by omega
            clear HNO hsf h37 HI HR
            go_wp2_with fail
            refine (at_rsafe 37 _ false _ rfl safe37).mono ?_
            rintro _ w1 ⟨rfl, rfl⟩
            clear HS
            go_wp2
            go_ret2
            rw [HE.out]
            exact ⟨rfl, hbe⟩
        · have hi := u8_isnt h37 37 rfl
          have HE := Lib.hid (HNO.out (stepP_not37 s k hlt hsf h37))
          clear HNO hsf h37 HI HR
          go_wp2_with fail
          refine (at_rsafe _ _ false _ rfl HS.out).mono ?_
          rintro _ w1 ⟨rfl, rfl⟩
          clear HS
          go_wp2
          go_ret2
          rw [HE.out]
          exact ⟨rfl, hbe⟩
    · have HE : Hid (readV (unpctL s.data.toList) = .tuple #[.string ⟨a.toArray⟩, .bool true]) := by
        show _ = _
        rw [unp_end _ a k (by rw [HLE.out]; omega) HI.out]
        rfl
      have hcv := HR.out.back
      clear HI HR
      go_wp2
      go_ret2
      rw [HE.out]
      exact ⟨rfl, hbe⟩
end Go.Proofs.Yteoailanpmkcfaa
