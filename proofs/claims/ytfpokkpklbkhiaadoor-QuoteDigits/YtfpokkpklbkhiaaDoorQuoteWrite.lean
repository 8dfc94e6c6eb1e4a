/-
  The document's own Write (package cracknelref07): a contract.
-/
import Derived.Test.YtfpokkpklbkhiaaDoorQuoteRef
import Derived.Test.YtfpokkpklbkhiaaDoorQuoteEsc
import Derived.Test.YtfpokkpklbkhiaaDoorBasePush
import Derived.Test.YtfpokkpklbkhiaaDoorUtfRvalid
namespace Go.Proofs.YtfpokkpklbkhiaaDoor
open Go.RowKit
set_option linter.unusedVariables false

/-- What Write answers. -/
def quoteV (s : ByteArray) : Value := if validB s = true then .tuple #[.string ⟨(quoteL s.data.toList).toArray⟩, .bool true] else .tuple #[.string ByteArray.empty, .bool false]

/-- What Write holds at place k. -/
def WritesAt (s : ByteArray) (g : Nat) (w0 : World) (out i : Value) (wr : World) : Prop :=
  ∃ k : Nat, k ≤ s.size ∧ i = .int .i64 (k : Int) ∧ RowB wr g out (34 :: innerL (s.data.toList.take k)) ∧ Below g w0 wr ∧ g ≤ wr.heap.size

theorem innerL_snoc (l : List UInt8) (c : UInt8) : innerL (l ++ [c]) = innerL l ++ pieceL c := by
  unfold innerL
  rw [List.flatMap_append]
  simp
theorem pieceL_len (c : UInt8) : (pieceL c).length ≤ 6 := by
  unfold pieceL
  repeat' split
  all_goals simp
theorem innerL_len (l : List UInt8) : (innerL l).length ≤ 6 * l.length := by
  induction l with
  | nil => simp [innerL]
  | cons c t ih =>
    have := pieceL_len c
    show (pieceL c ++ innerL t).length ≤ 6 * (t.length + 1)
    rw [List.length_append]
    omega

theorem shortN_lt (n : Nat) : shortN n < 256 := by
  rcases shortN_cases n with ⟨_, h⟩ | ⟨_, h⟩ | ⟨_, h⟩ | ⟨_, h⟩ | ⟨_, h⟩ | ⟨_, h⟩ | ⟨_, h⟩ | ⟨_, _, _, _, _, _, _, h⟩ <;> omega
theorem signQ_lt (n : Nat) (h : n < 16) : signQ n < 256 := by
  unfold signQ
  split <;> omega

theorem at_sign (n : Nat) (C i : Int) (w : World) (hC : C = (n : Int)) (hn : n < 16) (hi : (signQ n : Int) = i) :
    Calls Tryd.prog 23 #[.int .u8 C] w fun e w' => e = .returned (.int .u8 i) ∧ w = w' := by
  subst hi
  exact rsignq_any n C w hC hn

set_option maxRecDepth 100000 in
set_option maxHeartbeats 1600000 in
theorem rwrite_any (s : ByteArray) (w : World) (hs : s.size ≤ 1000000000000) :
    Calls Tryd.prog 11 #[.string s] w fun e w' => e = .returned (quoteV s) ∧ Below w.heap.size w w' := by
  cases hv : validB s with
  | false =>
    have HE : Hid (quoteV s = .tuple #[.string ByteArray.empty, .bool false]) := by show _ = _; unfold quoteV; rw [hv]; rfl
    have HV := Lib.hid hv
    clear hv
    go_enter Tryd.func11, Tryd.ntmps11
    go_wp2_with fail
    refine (rvalid_any s _ hs).mono ?_
    rintro _ w1 ⟨rfl, hb1⟩
    rw [HV.out]
    go_wp2
    go_ret2
    rw [HE.out]
    exact ⟨rfl, hb1⟩
  | true =>
    have HE : Hid (quoteV s = .tuple #[.string ⟨(quoteL s.data.toList).toArray⟩, .bool true]) := by show _ = _; unfold quoteV; rw [hv]; rfl
    have HV := Lib.hid hv
    have HL := Lib.hid (list_len s)
    clear hv
    go_enter Tryd.func11, Tryd.ntmps11
    go_wp2_with fail
    refine (rvalid_any s _ hs).mono ?_
    rintro _ w1 ⟨rfl, hb1⟩
    rw [HV.out]
    have hz1 := hb1.size
    go_wp2
    go_loopw [4, 5] (fun out i wr => WritesAt s w1.heap.size w1 out i wr) (fun _ i _ => s.size - (intOf i).toNat)
    case atStart => exact ⟨0, by omega, rfl, RowB.made w1 [34] _ rfl (by decide), (Below.refl _ _).alloc (Nat.le_refl _) _, by simp⟩
    case round =>
      obtain ⟨k, hk, rfl, hrow, hbe, hge⟩ := hrel
      have HR := Lib.hid hrow
      have hil := innerL_len (s.data.toList.take k)
      have hil2 : (s.data.toList.take k).length ≤ k := List.length_take_le _ _
      have hlen : (34 :: innerL (s.data.toList.take k)).length ≤ 6 * k + 1 := by rw [List.length_cons]; omega
      have HLN := Lib.hid hlen
      clear hrow hil hil2 hlen
      by_cases hlt : k < s.size
      · have HN : Hid ((34 :: innerL (s.data.toList.take k)) ++ pieceL s[k] = 34 :: innerL (s.data.toList.take (k + 1))) := by
          show _ = _
          rw [take_snoc s k hlt, innerL_snoc]
          rfl
        have c8 := s[k].toNat_lt
        obtain ⟨q, hq⟩ : ∃ q : Int, (shortN s[k].toNat : Int) = q := ⟨_, rfl⟩
        have q0 : 0 ≤ q := by omega
        by_cases hsh : shortN s[k].toNat ≠ 0
        · have hp : pieceL s[k] = [92, UInt8.ofNat (shortN s[k].toNat)] := by unfold pieceL; rw [if_pos hsh]
          have z1 : ¬ q = 0 := by omega
          have z2 : (q != 0) = true := by rw [bne_iff_ne]; exact z1
          have HCS : Hid (#[Value.int .u8 92, .int .u8 q] = (u8s [92, UInt8.ofNat (shortN s[k].toNat)]).toArray) := by
            show _ = _
            have := shortN_lt s[k].toNat
            have e : (((UInt8.ofNat (shortN s[k].toNat)).toNat : Nat) : Int) = q := by rw [u8n _ this]; exact hq
            simp only [u8s, List.map_cons, List.map_nil]
            rw [e]
            rfl
          rw [hp] at HN
          have HQ := Lib.hid hq
          clear hsh hp hq
          go_wp2_with fail
          refine (at_short s[k].toNat _ q _ rfl HQ.out).mono ?_
          rintro _ w2 ⟨rfl, rfl⟩
          go_wp2_with fail
          refine (at_short s[k].toNat _ q _ rfl HQ.out).mono ?_
          rintro _ w2 ⟨rfl, rfl⟩
          go_wp2_with (at_builtin; refine wpList_pushN rfl _ _ rfl HR.out [92, UInt8.ofNat (shortN s[k].toNat)] HCS.out rfl rfl rfl (by have := HLN.out; simp only [List.length_cons, List.length_nil] at this ⊢; omega) hge ?_; intro v' w2 hrow' hB' hsz')
          have hbe2 := hB' _ _ hbe (Nat.le_refl _)
          rw [HN.out] at hrow'
          have HR2 := Lib.hid hrow'
          clear hB' hrow' HR
          go_wp2
          go_roundw
          case rel => exact ⟨k + 1, by omega, by go_num, HR2.out, hbe2, hsz'⟩
          case measure => simp [intOf]; omega
        · have z0 : q = 0 := by omega
          by_cases h32 : s[k].toNat < 32
          · have hp : pieceL s[k] = [92, 117, 48, 48, UInt8.ofNat (signQ (s[k].toNat / 16)), UInt8.ofNat (signQ (s[k].toNat % 16))] := by unfold pieceL; rw [if_neg hsh, if_pos h32]
            have d1 : (s[k].toNat : Int) < 32 := by omega
            obtain ⟨a, ha⟩ : ∃ a, s[k].toNat / 16 = a := ⟨_, rfl⟩
            obtain ⟨b, hb⟩ : ∃ b, s[k].toNat % 16 = b := ⟨_, rfl⟩
            have a16 : a < 16 := by omega
            have b16 : b < 16 := by omega
            have r1 : ((s[k].toNat : Int) / 16) = (a : Int) := by omega
            have r2 : ((s[k].toNat : Int) % 16) = (b : Int) := by omega
            obtain ⟨x, hx⟩ : ∃ x : Int, (signQ a : Int) = x := ⟨_, rfl⟩
            obtain ⟨y, hy⟩ : ∃ y : Int, (signQ b : Int) = y := ⟨_, rfl⟩
            rw [ha, hb] at hp
            have HCS : Hid (#[Value.int .u8 92, .int .u8 117, .int .u8 48, .int .u8 48, .int .u8 x, .int .u8 y] = (u8s [92, 117, 48, 48, UInt8.ofNat (signQ a), UInt8.ofNat (signQ b)]).toArray) := by
              show _ = _
              have e1 : (((UInt8.ofNat (signQ a)).toNat : Nat) : Int) = x := by rw [u8n _ (signQ_lt a a16)]; exact hx
              have e2 : (((UInt8.ofNat (signQ b)).toNat : Nat) : Int) = y := by rw [u8n _ (signQ_lt b b16)]; exact hy
              simp only [u8s, List.map_cons, List.map_nil]
              rw [e1, e2]
              rfl
            rw [hp] at HN
            have HQ : Hid ((shortN s[k].toNat : Int) = 0) := by show _ = _; omega
            have HX := Lib.hid hx
            have HY := Lib.hid hy
            clear hsh hp hq h32 ha hb hx hy z0 q0
            go_wp2_with fail
            refine (at_short s[k].toNat _ 0 _ rfl HQ.out).mono ?_
            rintro _ w2 ⟨rfl, rfl⟩
            go_wp2_with fail
            refine (at_sign a _ x _ rfl a16 HX.out).mono ?_
            rintro _ w2 ⟨rfl, rfl⟩
            go_wp2_with fail
            refine (at_sign b _ y _ rfl b16 HY.out).mono ?_
            rintro _ w2 ⟨rfl, rfl⟩
            go_wp2_with (at_builtin; refine wpList_pushN rfl _ _ rfl HR.out [92, 117, 48, 48, UInt8.ofNat (signQ a), UInt8.ofNat (signQ b)] HCS.out rfl rfl rfl (by have := HLN.out; simp only [List.length_cons, List.length_nil] at this ⊢; omega) hge ?_; intro v' w2 hrow' hB' hsz')
            have hbe2 := hB' _ _ hbe (Nat.le_refl _)
            rw [HN.out] at hrow'
            have HR2 := Lib.hid hrow'
            clear hB' hrow' HR
            go_wp2
            go_roundw
            case rel => exact ⟨k + 1, by omega, by go_num, HR2.out, hbe2, hsz'⟩
            case measure => simp [intOf]; omega
          · have hp : pieceL s[k] = [s[k]] := by unfold pieceL; rw [if_neg hsh, if_neg h32]
            have d1 : ¬ (s[k].toNat : Int) < 32 := by omega
            rw [hp] at HN
            have HQ : Hid ((shortN s[k].toNat : Int) = 0) := by show _ = _; omega
            clear hsh hp hq h32 z0 q0
            go_wp2_with fail
            refine (at_short s[k].toNat _ 0 _ rfl HQ.out).mono ?_
            rintro _ w2 ⟨rfl, rfl⟩
            go_wp2_with (at_builtin; refine wpList_push rfl _ _ rfl HR.out (c := s[k]) rfl rfl rfl (by have := HLN.out; omega) hge ?_; intro v' w2 hrow' hB' hsz')
            have hbe2 := hB' _ _ hbe (Nat.le_refl _)
            rw [HN.out] at hrow'
            have HR2 := Lib.hid hrow'
            clear hB' hrow' HR
            go_wp2
            go_roundw
            case rel => exact ⟨k + 1, by omega, by go_num, HR2.out, hbe2, hsz'⟩
            case measure => simp [intOf]; omega
      · have e : s.data.toList.take k = s.data.toList := List.take_of_length_le (by rw [HL.out]; omega)
        have HF : Hid ((34 :: innerL (s.data.toList.take k)) ++ [34] = quoteL s.data.toList) := by show _ = _; rw [e]; rfl
        clear e
        go_wp2_with (at_builtin; refine wpList_push rfl _ _ rfl HR.out (c := 34) rfl rfl rfl (by have := HLN.out; omega) hge ?_; intro v' w2 hrow' hB' hsz'; rw [HF.out] at hrow'; have hcv := hrow'.back)
        have hbe2 := hB' _ _ hbe (Nat.le_refl _)
        clear hB' hrow' HR
        go_wp2
        go_ret2
        rw [HE.out]
        exact ⟨rfl, chain hb1 hbe2⟩
end Go.Proofs.YtfpokkpklbkhiaaDoor
