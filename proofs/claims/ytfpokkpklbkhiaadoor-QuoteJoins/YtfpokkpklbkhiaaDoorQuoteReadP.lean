/-
  The program's own Read (package quote): a contract.
-/
import Derived.Test.YtfpokkpklbkhiaaDoorQuoteKindP
import Derived.Test.YtfpokkpklbkhiaaDoorQuoteFacts
import Derived.BigQuiet
import Derived.Deep.RegionHeld3
namespace Go.Proofs.YtfpokkpklbkhiaaDoor
open Go.RowKit
set_option linter.unusedVariables false

/-- What Read holds: the builder in block g has o, k bytes are read. -/
def ReadsPAt (s : ByteArray) (g : Nat) (w0 : World) (at_ : Value) (wr : World) : Prop :=
  ∃ (o : List UInt8) (k : Nat), at_ = .int .i64 (k : Int) ∧ 1 ≤ k ∧ k ≤ s.size ∧ o.length ≤ k ∧ readQ s.data.toList = readR (s.data.toList.drop k) o k ∧ Bld wr g o ∧ Below g w0 wr

theorem prefix_q (s : ByteArray) : Lib.hasPrefix s.data.toList (⟨#[34]⟩ : ByteArray).data.toList = decide (s.data.toList.head? = some 34) := by
  unfold Lib.hasPrefix
  rw [Bool.eq_iff_iff, List.isPrefixOf_iff_prefix, decide_eq_true_eq]
  show [34] <+: _ ↔ _
  cases s.data.toList with
  | nil => simp
  | cons c t =>
    rw [List.cons_prefix_cons]
    simp [eq_comm]

set_option maxRecDepth 100000 in
set_option maxHeartbeats 1600000 in
theorem qread_any (s : ByteArray) (w : World) (hT : Tabs w) (hs : s.size ≤ 150000000000000) (hn : s.size ≤ 140737488351232 ∨ ∃ u n, readQ s.data.toList = (0, u, n) ∧ n ≤ 1000000) :
    Calls Tryd.prog 12 #[.string s] w fun e w' => e = .returned (pieceW (readQ s.data.toList)) ∧ Below w.heap.size w w' := by
  have HRM := Lib.hid (room_of s hn)
  have hp := prefix_q s
  have HT := Lib.hid hT
  clear hn hT
  obtain ⟨X, hX⟩ : ∃ X, pieceW (readQ s.data.toList) = X := ⟨_, rfl⟩
  rw [hX]
  by_cases h34 : s.data.toList.head? = some 34
  · rw [decide_eq_true h34] at hp
    have HP := Lib.hid hp
    have HX := Lib.hid hX
    have h1 : 1 ≤ s.size := by
      rcases Nat.lt_or_ge 0 s.size with h | h
      · exact h
      · have := head_end s 0 (by omega)
        rw [List.drop_zero, h34] at this
        cases this
    have HQ : Hid (readQ s.data.toList = readR (s.data.toList.drop 1) [] 1) := by
      show _ = _
      unfold readQ
      rw [if_pos h34, List.drop_one]
    clear hX hp h34
    have HB0 := Lib.hid (Bld.fresh w)
    have hbe0 := (Below.refl w.heap.size w).alloc (Nat.le_refl _) (.cells #[.pointer none, .slice none 0 0] 38)
    go_enter Tryd.func12, Tryd.ntmps12
    go_wp2
    go_step3
    go_wp2_with fail
    refine (prefix_at s ⟨#[34]⟩ true _ HP.out).mono ?_
    rintro _ w1 ⟨rfl, rfl⟩
    clear HP
    go_wp2
    go_step3
    go_wp2
    go_loopw [6] (fun i wr => ReadsPAt s w.heap.size w i wr) (fun i _ => s.size - (intOf i).toNat)
    case atStart => exact ⟨[], 1, rfl, by omega, h1, by simp, HQ.out, HB0.out, hbe0⟩
    case round =>
      obtain ⟨o, k, rfl, q1, q2, q3, q4, hbl, hbe⟩ := hrel
      have H4 := Lib.hid q4
      have HB := Lib.hid hbl
      have hlt0 := hbl.lt
      clear q4 hbl HQ HB0 hbe0
      by_cases hk : k < s.size
      · have z0 : ((k : Int) == (s.size : Int)) = false := by rw [beq_eq_false_iff_ne]; omega
        have z9 : ¬ (k : Int) = (s.size : Int) := by omega
        by_cases he : s[k].toNat = 34
        · have HE : Hid (X = .tuple #[.string ⟨o.toArray⟩, .int .i64 ((k : Int) + 1), .int .i64 0]) := by
            show _ = _
            rw [← HX.out, H4.out, readR_end]
            · rfl
            · rw [head_drop s k hk]
              congr 1
              exact UInt8.toNat.inj he
          have z1 : (s[k].toNat : Int) = 34 := by omega
          clear he H4 HX
          go_wp2_with fail
          refine (bstring_any w.heap.size _ _ HB.out).mono ?_
          rintro _ w2 ⟨rfl, hb2⟩
          have hbe2 := hbe.trans hb2
          go_wp2
          rw [Exit.noGoto_ret]
          go_ret3
          rw [HE.out]
          exact ⟨rfl, hbe2⟩
        · have z1 : ((s[k].toNat : Int) == 34) = false := by rw [beq_eq_false_iff_ne]; omega
          have z2 : ¬ (s[k].toNat : Int) = 34 := by omega
          have hne : (s.data.toList.drop k).head? ≠ some 34 := by
            rw [head_drop s k hk]
            intro e
            have e2 := Option.some.inj e
            exact he (by rw [e2]; rfl)
          obtain ⟨f, E, L, N, b, hK, hP⟩ := kind_at s k hk
          have HK := Lib.hid hK
          have HPP := Lib.hid hP
          have HNE := Lib.hid hne
          have hen := hK.enter
          clear he hne hK hP
          rcases HPP.out with ⟨rfl, r, n, hL, hN, hr, hp⟩ | ⟨rfl, e, hE, he, hp⟩
          · have h0' : (pieceQ (s.data.toList.drop k)).1 = 0 := by rw [hp]
            obtain ⟨_, p2, p3, _⟩ := pieceQ_yes _ h0'
            have p4 := pieceQ_long _ h0'
            have hst := readR_step _ o k HNE.out h0'
            rw [hp] at p2 p3 p4 hst
            rw [List.length_drop, list_len] at p3
            simp only at p2 p3 p4 hst
            have g1 : readQ s.data.toList = readR (s.data.toList.drop (k + n)) (o ++ putU r) (k + n) := by rw [H4.out, hst, List.drop_drop]
            have g3 : k + n ≤ s.size := by omega
            have groom := HRM.out (k + n) (o ++ putU r) g3 g1 (by rw [List.length_append]; omega)
            have hro : o.length + (putUB r).size ≤ 140737488355328 := by
              have e : (putUB r).size = (putU r).length := bytes_size _
              omega
            have HRO := Lib.hid hro
            have G1 := Lib.hid g1
            have HLO := Lib.hid p4
            have HL := Lib.hid hL
            have HR := Lib.hid hr
            have n1 := p2
            subst hN
            clear hp h0' p3 p4 hst g1 hro hL hr HPP HNE H4 groom
            go_wp2_with fail
            refine (HK.out.kind _).mono ?_
            rintro _ w2 ⟨rfl, hb2⟩
            unfold kindV
            have z3 : (k : Int) ≤ (s.size : Int) := by omega
            go_wp2_with fail
            have hsz2 := hb2.size
            have HB2 := Lib.hid (HB.out.keep hb2)
            have hbe2 := hbe.trans (hb2.mono (Nat.le_of_lt hlt0))
            have HB3 := Lib.hid (HB2.out.keep ((Below.refl w2.heap.size w2).alloc (Nat.le_refl _) (.cells #[.func (.func f) #[] #[], .int .i64 E] 49)))
            have hbe3 := hbe2.alloc (show w.heap.size ≤ w2.heap.size by omega) (.cells #[.func (.func f) #[] #[], .int .i64 E] 49)
            have c0 : (w2.alloc (.cells #[.func (.func f) #[] #[], .int .i64 E] 49)).cell? ⟨w2.heap.size, 0, none⟩ = some (.func (.func f) #[] #[]) := by simp
            have c1 : (w2.alloc (.cells #[.func (.func f) #[] #[], .int .i64 E] 49)).cell? ⟨w2.heap.size, 1, none⟩ = some (.int .i64 E) := by simp
            have hz3 : (w2.alloc (.cells #[.func (.func f) #[] #[], .int .i64 E] 49)).heap.size = w2.heap.size + 1 := by simp
            obtain ⟨W3, hW⟩ : ∃ W3, w2.alloc (.cells #[.func (.func f) #[] #[], .int .i64 E] 49) = W3 := ⟨_, rfl⟩
            obtain ⟨B, hB⟩ : ∃ B, w2.heap.size = B := ⟨_, rfl⟩
            rw [hW] at HB3 hbe3 c0 c1 hz3
            rw [hW]
            rw [hB] at c0 c1 hz3 hsz2
            rw [hB]
            have hBl : B < W3.drew.heap.size := by
              show B < W3.heap.size
              omega
            have hbl3 : w.heap.size < W3.heap.size := by omega
            clear HB HB2 hbe hbe2 hb2 hW hB
            go_region_held3 (fun W => W.cell? ⟨B, 0, none⟩ = some (.func (.func f) #[] #[]) ∧ W.cell? ⟨B, 1, none⟩ = some (.int .i64 E)) (first | exact ⟨by assumption, by assumption⟩) (first
              | (refine (HK.out.tells _ (HT.out.keep hbe3.drew)).mono ?_; rintro _ w4 ⟨rfl, hb4⟩; have d0 := (hb4.cell (p := ⟨B, 0, none⟩) hBl).trans c0; have d1 := (hb4.cell (p := ⟨B, 1, none⟩) hBl).trans c1))
            all_goals
              have hbe4 := hbe3.drew.trans (hb4.mono (Nat.le_of_lt hbl3))
              have HB4 := Lib.hid (Bld.keep (w := W3.drew) HB3.out hb4)
              clear hb4 HB3 hbe3 c0 c1 d0 d1
              go_wp2_with fail
              refine (at_putu r L _ HL.out HR.out).mono ?_
              rintro _ w5 ⟨rfl, hb5⟩
              have HB5 := Lib.hid (HB4.out.keep hb5)
              have hbe5 := hbe4.trans (hb5.mono hbe4.size)
              clear HB4 hbe4 hb5
              go_wp2_with fail
              refine (wstr_any w.heap.size _ _ _ HB5.out HRO.out).mono ?_
              rintro _ w6 ⟨rfl, hB6, hb6⟩
              have HB6 := Lib.hid hB6
              have hbe6 := hbe5.trans hb6
              clear HB5 hbe5 hb6 hB6
              go_wp2
              go_roundw
              case rel => exact ⟨o ++ putU r, k + n, by go_num, by omega, g3, by rw [List.length_append]; have := HLO.out; omega, G1.out, HB6.out, hbe6⟩
              case measure => simp [intOf]; omega
          · have HE : Hid (X = .tuple #[.string ByteArray.empty, .int .i64 0, .int .i64 E]) := by
              show _ = _
              rw [← HX.out, H4.out, readR_err _ _ _ HNE.out (by rw [hp]; exact he), hp, hE]
              rfl
            clear hp hE he HPP HNE H4 HX
            go_wp2_with fail
            refine (HK.out.kind _).mono ?_
            rintro _ w2 ⟨rfl, hb2⟩
            unfold kindV
            have z3 : (k : Int) ≤ (s.size : Int) := by omega
            go_wp2_with fail
            have hsz2 := hb2.size
            have HB2 := Lib.hid (HB.out.keep hb2)
            have hbe2 := hbe.trans (hb2.mono (Nat.le_of_lt hlt0))
            have HB3 := Lib.hid (HB2.out.keep ((Below.refl w2.heap.size w2).alloc (Nat.le_refl _) (.cells #[.func (.func f) #[] #[], .int .i64 E] 49)))
            have hbe3 := hbe2.alloc (show w.heap.size ≤ w2.heap.size by omega) (.cells #[.func (.func f) #[] #[], .int .i64 E] 49)
            have c0 : (w2.alloc (.cells #[.func (.func f) #[] #[], .int .i64 E] 49)).cell? ⟨w2.heap.size, 0, none⟩ = some (.func (.func f) #[] #[]) := by simp
            have c1 : (w2.alloc (.cells #[.func (.func f) #[] #[], .int .i64 E] 49)).cell? ⟨w2.heap.size, 1, none⟩ = some (.int .i64 E) := by simp
            have hz3 : (w2.alloc (.cells #[.func (.func f) #[] #[], .int .i64 E] 49)).heap.size = w2.heap.size + 1 := by simp
            obtain ⟨W3, hW⟩ : ∃ W3, w2.alloc (.cells #[.func (.func f) #[] #[], .int .i64 E] 49) = W3 := ⟨_, rfl⟩
            obtain ⟨B, hB⟩ : ∃ B, w2.heap.size = B := ⟨_, rfl⟩
            rw [hW] at HB3 hbe3 c0 c1 hz3
            rw [hW]
            rw [hB] at c0 c1 hz3 hsz2
            rw [hB]
            have hBl : B < W3.drew.heap.size := by
              show B < W3.heap.size
              omega
            have hbl3 : w.heap.size < W3.heap.size := by omega
            clear HB HB2 hbe hbe2 hb2 hW hB
            go_region_held3 (fun W => W.cell? ⟨B, 0, none⟩ = some (.func (.func f) #[] #[]) ∧ W.cell? ⟨B, 1, none⟩ = some (.int .i64 E)) (first | exact ⟨by assumption, by assumption⟩) (first
              | (refine (HK.out.tells _ (HT.out.keep hbe3.drew)).mono ?_; rintro _ w4 ⟨rfl, hb4⟩; have d0 := (hb4.cell (p := ⟨B, 0, none⟩) hBl).trans c0; have d1 := (hb4.cell (p := ⟨B, 1, none⟩) hBl).trans c1))
            all_goals
              have hbe4 := hbe3.drew.trans (hb4.mono (Nat.le_of_lt hbl3))
              clear hb4 HB3 hbe3 c0 c1
              go_wp2_with fail
              go_quiet (fail)
              go_wp2
              rw [Exit.noGoto_ret]
              go_ret3
              rw [HE.out]
              exact ⟨rfl, hbe4.trans ⟨rfl, rfl, rfl, Nat.le_refl _, fun _ _ => rfl⟩⟩
      · have e : k = s.size := by omega
        subst e
        have HE : Hid (X = .tuple #[.string ByteArray.empty, .int .i64 0, .int .i64 71]) := by
          show _ = _
          rw [← HX.out, H4.out, readR_err]
          · rw [piece_nil s _ (by omega)]
            rfl
          · rw [head_end s _ (by omega)]
            simp
          · rw [piece_nil s _ (by omega)]
            simp
        clear H4 HX
        go_wp2
        rw [Exit.noGoto_ret]
        go_ret3
        rw [HE.out]
        exact ⟨rfl, hbe⟩
  · rw [decide_eq_false h34] at hp
    have HP := Lib.hid hp
    have HE : Hid (X = .tuple #[.string ByteArray.empty, .int .i64 0, .int .i64 70]) := by
      show _ = _
      rw [← hX]
      unfold readQ
      rw [if_neg h34]
      rfl
    clear hX hp h34
    go_enter Tryd.func12, Tryd.ntmps12
    go_wp2
    go_step3
    go_wp2_with fail
    refine (prefix_at s ⟨#[34]⟩ false _ HP.out).mono ?_
    rintro _ w1 ⟨rfl, rfl⟩
    go_wp2
    rw [Exit.noGoto_ret]
    go_ret3
    rw [HE.out]
    exact ⟨rfl, Below.refl _ _⟩
end Go.Proofs.YtfpokkpklbkhiaaDoor
