/-
  The document's own Read (package cracknelref07): a contract.
-/
import Derived.Test.YtfpokkpklbkhiaaDoorQuotePiece
namespace Go.Proofs.YtfpokkpklbkhiaaDoor
open Go.RowKit
set_option linter.unusedVariables false

/-- What Read holds: out is had, at bytes are read. -/
def ReadsAt (s : ByteArray) (g : Nat) (w0 : World) (out at_ : Value) (wr : World) : Prop :=
  ∃ (o : List UInt8) (k : Nat), out = .string ⟨o.toArray⟩ ∧ at_ = .int .i64 (k : Int) ∧ 1 ≤ k ∧ k ≤ s.size ∧ o.length ≤ 4 * k ∧ readQ s.data.toList = readR (s.data.toList.drop k) o k ∧ Below g w0 wr

theorem bytes_size (l : List UInt8) : (⟨l.toArray⟩ : ByteArray).size = l.length := by
  show l.toArray.size = _
  rw [List.size_toArray]
theorem bytes_app (a b : List UInt8) : (⟨a.toArray⟩ : ByteArray) ++ ⟨b.toArray⟩ = ⟨(a ++ b).toArray⟩ := by
  apply ba_ext
  rw [app_list]

theorem head_drop (s : ByteArray) (k : Nat) (h : k < s.size) : (s.data.toList.drop k).head? = some s[k] := by
  rw [drop_cons s k h]
  rfl
theorem head_end (s : ByteArray) (k : Nat) (h : ¬ k < s.size) : (s.data.toList.drop k).head? = none := by
  rw [List.drop_eq_nil_of_le (by rw [list_len]; omega)]
  rfl

set_option maxRecDepth 100000 in
set_option maxHeartbeats 1600000 in
theorem rread_any (s : ByteArray) (w : World) (hs : s.size ≤ 150000000000000) :
    Calls Tryd.prog 13 #[.string s] w fun e w' => e = .returned (pieceW (readQ s.data.toList)) ∧ Below w.heap.size w w' := by
  by_cases h0 : 0 < s.size
  · have d0 : ((s.size : Int) == 0) = false := by rw [beq_eq_false_iff_ne]; omega
    have d9 : ¬ (s.size : Int) = 0 := by omega
    have d8 : ¬ s.size = 0 := by omega
    have hh : s.data.toList.head? = some s[0] := by
      have := head_drop s 0 h0
      rw [List.drop_zero] at this
      exact this
    by_cases h34 : s[0].toNat = 34
    · have d1 : (s[0].toNat : Int) = 34 := by omega
      have e34 : s[0] = 34 := UInt8.toNat.inj h34
      have HQ : Hid (readQ s.data.toList = readR (s.data.toList.drop 1) [] 1) := by
        show _ = _
        unfold readQ
        rw [hh, e34, if_pos rfl, List.drop_one]
      clear hh h34 e34
      go_enter Tryd.func13, Tryd.ntmps13
      go_wp2
      go_loopw [5, 6] (fun out k wr => ReadsAt s w.heap.size w out k wr) (fun _ k _ => s.size - (intOf k).toNat)
      case atStart => exact ⟨[], 1, rfl, rfl, by omega, by omega, by simp, HQ.out, Below.refl _ _⟩
      case round =>
        obtain ⟨o, k, rfl, rfl, q1, q2, q3, q4, hbe⟩ := hrel
        have H4 := Lib.hid q4
        have hos := bytes_size o
        clear q4 HQ d1
        by_cases hend : ∃ h : k < s.size, (s[k]'h).toNat = 34
        · obtain ⟨hk, he⟩ := hend
          have HE : Hid (readQ s.data.toList = (0, o, k + 1)) := by
            show _ = _
            rw [H4.out, readR_end]
            rw [head_drop s k hk]
            congr 1
            exact UInt8.toNat.inj he
          have z1 : (s[k].toNat : Int) = 34 := by omega
          have z2 : ¬ (s.size : Int) ≤ (k : Int) := by omega
          clear H4 he hos
          go_wp2
          go_ret3
          refine ⟨ret_piece ?_, hbe⟩
          rw [HE.out]
          show Value.tuple #[.string ⟨o.toArray⟩, .int .i64 ((k + 1 : Nat) : Int), .int .i64 ((0 : Nat) : Int)] = _
          rfl
        · have hne : (s.data.toList.drop k).head? ≠ some 34 := by
            by_cases hk : k < s.size
            · rw [head_drop s k hk]
              intro e
              have e2 := Option.some.inj e
              exact hend ⟨hk, by rw [e2]; rfl⟩
            · rw [head_end s k hk]
              simp
          obtain ⟨e, bs, n, hp⟩ : ∃ e bs n, pieceQ (s.data.toList.drop k) = (e, bs, n) := ⟨_, _, _, rfl⟩
          have HP : Hid (pieceW (pieceQ (s.data.toList.drop k)) = .tuple #[.string ⟨bs.toArray⟩, .int .i64 (n : Int), .int .i64 (e : Int)]) := by show _ = _; rw [hp]; rfl
          have hstep : e = 0 → readQ s.data.toList = readR (s.data.toList.drop (k + n)) (o ++ bs) (k + n) ∧ 1 ≤ n ∧ k + n ≤ s.size ∧ bs.length ≤ 4 ∧ k < s.size := by
            intro he
            subst he
            have h0' : (pieceQ (s.data.toList.drop k)).1 = 0 := by rw [hp]
            obtain ⟨⟨r, hr, hb⟩, p2, p3, _⟩ := pieceQ_yes _ h0'
            rw [hp] at hb p2 p3
            rw [List.length_drop, list_len] at p3
            have hst := readR_step _ o k hne h0'
            rw [hp] at hst
            simp only at hst hb p2 p3
            refine ⟨by rw [H4.out, hst, List.drop_drop], p2, by omega, by rw [hb]; exact (putU_len r).2, by omega⟩
          have herr : e ≠ 0 → readQ s.data.toList = (e, [], 0) := by
            intro he
            rw [H4.out, readR_err _ o k hne (by rw [hp]; exact he), hp]
          have HST := Lib.hid hstep
          have HER := Lib.hid herr
          clear hstep herr hp hne H4
          by_cases he : e = 0
          · obtain ⟨g1, g2, g3, g4, g5⟩ := HST.out he
            have G1 := Lib.hid g1
            have z1 : ¬ (s[k].toNat : Int) = 34 := fun h => hend ⟨g5, by omega⟩
            have z2 : ((s[k].toNat : Int) != 34) = true := by rw [bne_iff_ne]; exact z1
            have z3 : ¬ (s.size : Int) ≤ (k : Int) := by omega
            have hbs := bytes_size bs
            have HA := Lib.hid (bytes_app o bs)
            have y1 : (⟨o.toArray⟩ : ByteArray).size + (⟨bs.toArray⟩ : ByteArray).size ≤ 9223372036854775807 := by rw [hos, hbs]; omega
            obtain ⟨O, hO⟩ : ∃ O : ByteArray, (⟨o.toArray⟩ : ByteArray) = O := ⟨_, rfl⟩
            obtain ⟨T, hT⟩ : ∃ T : ByteArray, (⟨bs.toArray⟩ : ByteArray) = T := ⟨_, rfl⟩
            rw [hO, hT] at y1 HA
            rw [hT] at HP
            rw [hO]
            subst he
            clear hend g1 hos hbs HST HER hO hT
            go_wp2_with fail
            refine (rpiece_any s k _ _ rfl hs q2).mono ?_
            rintro _ w1 ⟨rfl, hb1⟩
            rw [HP.out]
            have hbe1 := hbe.trans (hb1.mono hbe.size)
            clear hb1 hbe
            go_wp2
            go_roundw
            case rel => exact ⟨o ++ bs, k + n, by rw [HA.out], by go_num, by omega, g3, by rw [List.length_append]; omega, G1.out, hbe1⟩
            case measure => simp [intOf]; omega
          · have HE := Lib.hid (HER.out he)
            have z4 : ¬ (e : Int) = 0 := by omega
            have z5 : ((e : Int) == 0) = false := by rw [beq_eq_false_iff_ne]; exact z4
            have z6 : ((e : Int) != 0) = true := by rw [bne_iff_ne]; exact z4
            clear HST HER hos
            by_cases hk : k < s.size
            · have z1 : ¬ (s[k].toNat : Int) = 34 := fun h => hend ⟨hk, by omega⟩
              have z2 : ((s[k].toNat : Int) != 34) = true := by rw [bne_iff_ne]; exact z1
              have z3 : ¬ (s.size : Int) ≤ (k : Int) := by omega
              clear hend
              go_wp2_with fail
              refine (rpiece_any s k _ _ rfl hs q2).mono ?_
              rintro _ w1 ⟨rfl, hb1⟩
              rw [HP.out]
              have hbe1 := hbe.trans (hb1.mono hbe.size)
              go_wp2
              go_ret3
              exact ⟨ret_piece (by rw [HE.out]; rfl), hbe1⟩
            · have z3 : (s.size : Int) ≤ (k : Int) := by omega
              clear hend
              go_wp2_with fail
              refine (rpiece_any s k _ _ rfl hs q2).mono ?_
              rintro _ w1 ⟨rfl, hb1⟩
              rw [HP.out]
              have hbe1 := hbe.trans (hb1.mono hbe.size)
              go_wp2
              go_ret3
              exact ⟨ret_piece (by rw [HE.out]; rfl), hbe1⟩
    · have d1 : ¬ (s[0].toNat : Int) = 34 := by omega
      have d2 : ((s[0].toNat : Int) != 34) = true := by rw [bne_iff_ne]; exact d1
      have HE : Hid (readQ s.data.toList = (70, [], 0)) := by
        show _ = _
        unfold readQ
        rw [hh, if_neg]
        intro e
        have e2 := Option.some.inj e
        exact h34 (by rw [e2]; rfl)
      clear hh h34
      go_enter Tryd.func13, Tryd.ntmps13
      go_wp2
      go_ret3
      exact ⟨ret_piece (by rw [HE.out]; rfl), Below.refl _ _⟩
  · have d0 : (s.size : Int) = 0 := by omega
    have HE : Hid (readQ s.data.toList = (70, [], 0)) := by
      show _ = _
      have e : s.data.toList = [] := List.eq_nil_of_length_eq_zero (by rw [list_len]; omega)
      rw [e]
      rfl
    go_enter Tryd.func13, Tryd.ntmps13
    go_wp2
    go_ret3
    exact ⟨ret_piece (by rw [HE.out]; rfl), Below.refl _ _⟩
end Go.Proofs.YtfpokkpklbkhiaaDoor
