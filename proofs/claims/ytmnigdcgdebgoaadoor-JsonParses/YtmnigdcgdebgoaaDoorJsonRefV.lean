/-
  The document's own reader of json: value.
-/
import Derived.Test.YtmnigdcgdebgoaaDoorJsonRefG
import Derived.Test.YtmnigdcgdebgoaaDoorJsonRefN
import Derived.Test.YtmnigdcgdebgoaaDoorJsonRefW
namespace Go.Proofs.YtmnigdcgdebgoaaDoor
open Go.RowKit
set_option linter.unusedVariables false
set_option maxRecDepth 100000 in
set_option maxHeartbeats 6400000 in
theorem rrvalue_step (n : Nat) (IH : ∀ m, m < n → RValueOk m) : RValueOk n := by
  intro w s k ao m cap l d key f hI hk hs hl hd hn hf
  obtain ⟨A, hA⟩ : ∃ A, valueF readD f d key.data.toList (restB s k) = A := ⟨_, rfl⟩
  rw [hA]
  obtain ⟨f, rfl⟩ : ∃ g, f = g + 1 := ⟨f - 1, by omega⟩
  obtain ⟨W, hW⟩ : ∃ W, ((w.alloc (.cells #[.string s, .int .i64 (k : Int), .slice ao m cap, .int .i64 0] 76)).alloc (.cells #[.int .i64 (d : Int), .int .i64 0, .string key, .string ByteArray.empty, .int .i64 0] 46)).alloc (.cells #[.string ⟨#[]⟩, .int .i64 0, .slice none 0 0, .int .i64 0] 76) = W := ⟨_, rfl⟩
  have hin : MemIn s w d 0 key k (.slice ao m cap) 0 W := by
    rw [← hW]
    refine ⟨(BoxS.new w _ _ _ _).keep (((Below.refl _ _).alloc (Nat.le_refl _) _).alloc (by simp) _), ?_, ?_, (((Below.refl _ _).alloc (Nat.le_refl _) _).alloc (by simp) _).alloc (by simp; omega) _⟩
    · have e := BoxR.new (w.alloc (.cells #[.string s, .int .i64 (k : Int), .slice ao m cap, .int .i64 0] 76)) (.int .i64 (d : Int)) (.int .i64 0) (.string key) (.string ByteArray.empty) (.int .i64 0)
      rw [show (w.alloc (.cells #[.string s, .int .i64 (k : Int), .slice ao m cap, .int .i64 0] 76)).heap.size = w.heap.size + 1 by simp] at e
      exact e.keep ((Below.refl _ _).alloc (Nat.le_refl _) _)
    · have e := BoxS.new ((w.alloc (.cells #[.string s, .int .i64 (k : Int), .slice ao m cap, .int .i64 0] 76)).alloc (.cells #[.int .i64 (d : Int), .int .i64 0, .string key, .string ByteArray.empty, .int .i64 0] 46)) (.string ⟨#[]⟩) (.int .i64 0) (.slice none 0 0) (.int .i64 0)
      rw [show ((w.alloc (.cells #[.string s, .int .i64 (k : Int), .slice ao m cap, .int .i64 0] 76)).alloc (.cells #[.int .i64 (d : Int), .int .i64 0, .string key, .string ByteArray.empty, .int .i64 0] 46)).heap.size = w.heap.size + 1 + 1 by simp] at e
      exact e
  have HI := Lib.hid hI
  have HIN := Lib.hid hin
  have HW := Lib.hid hW
  have HA := Lib.hid hA
  have HIH := Lib.hid IH
  have hlz : l.length ≤ 1000000 := by omega
  clear hI hin hW hA IH
  unfold stV itA
  go_enter Tryd.func42, Tryd.ntmps42
  go_wp2_with fail
  rw [HW.out]
  refine (rskip_any s k ao m cap 0 _ hk hs).mono ?_
  rintro _ w1 ⟨j, hj, hrj, rfl, hb1⟩
  have hin1 := HIN.out.keep hb1
  have HI1 := Lib.hid (HI.out.keep hin1.b)
  have HRJ := Lib.hid hrj
  have hkj : k ≤ j := by
    have h1 := skip_len (restB s k)
    rw [← hrj, restB_len, restB_len] at h1
    omega
  obtain ⟨W2, hW2⟩ : ∃ W, ((((w1.setCell ⟨w.heap.size, 0, none⟩ (.string s)).setCell ⟨w.heap.size, 1, none⟩ (.int .i64 (j : Int))).setCell ⟨w.heap.size, 2, none⟩ (.slice ao m cap)).setCell ⟨w.heap.size, 3, none⟩ (.int .i64 0)) = W := ⟨_, rfl⟩
  have HIN2 : Hid (MemIn s w d 0 key j (.slice ao m cap) 0 W2) := by
    rw [← hW2]
    exact hin1.put j (.slice ao m cap) 0
  have HI2 : Hid (ItsAt W2 (.slice ao m cap) l) := by
    rw [← hW2]
    exact HI1.out.put hin1.p _ _ _ _
  have HEW := Lib.hid hW2
  obtain ⟨p0, p1, p2, p3⟩ := hin1.p.cells
  have f0 := hin1.p.frozen 0
  have f1 := hin1.p.frozen 1
  have f2 := hin1.p.frozen 2
  have f3 := hin1.p.frozen 3
  clear hb1 hrj hin1 hW2 HI1 HIN
  unfold stV
  go_wp2_with fail
  rw [HEW.out]
  clear p0 p1 p2 p3 f0 f1 f2 f3 HEW
  by_cases h91 : (restB s j).head? = some 91
  · skip
    have hst : standsL [91] (restB s j) = true := by rw [stands_sign, h91]; rfl
    have HS91 := Lib.hid hst
    clear hst
    refine (ris_any s j (.slice ao m cap) 0 91 91 rfl true HS91.out _ hs).mono ?_
    rintro _ w4 ⟨rfl, hbw4⟩
    have hinw4 := HIN2.out.keep hbw4
    have HINw4 := Lib.hid hinw4
    have HIw4 := Lib.hid (HI2.out.keep hbw4)
    obtain ⟨p0, p1, p2, p3⟩ := hinw4.p.cells
    clear hbw4 hinw4 HIN2 HI2
    have hlt : j < s.size := by
      by_cases h : j < s.size
      · exact h
      · rw [restB_nil s j h] at h91
        cases h91
    have hsj : s[j] = 91 := by
      rw [restB_cons s j hlt] at h91
      simpa using h91
    have hvc := value_cons readD f d key.data.toList (restB s k) s[j] (restB s (j + 1)) (by rw [← HRJ.out, restB_cons s j hlt])
    rw [HA.out, hsj, if_pos (by decide)] at hvc
    have HVC := Lib.hid hvc
    have hrs := restB_cons s j hlt
    rw [hsj] at hrs
    have HSJ := Lib.hid hrs
    clear hvc hrs hsj h91
    obtain ⟨x0, x1, x2, x3, x4⟩ := HINw4.out.x.cells
    by_cases hd64 : 64 ≤ d
    · have y1 : (64 : Int) ≤ (d : Int) := by omega
      have HA2 : Hid (A = (81, [], [])) := by show _ = _; rw [HVC.out, if_pos hd64]
      clear hd64
      go_wp2_with fail
      refine (ramiss_any s j ao m cap 0 81 _).mono ?_
      rintro _ wz ⟨rfl, hbz⟩
      have hmz := HINw4.out.keep hbz
      clear hbz x0 x1 x2 x3 x4
      obtain ⟨q0, q1, q2, q3⟩ := hmz.r.cells
      have g0 := hmz.r.frozen 0
      have g1 := hmz.r.frozen 1
      have g2 := hmz.r.frozen 2
      have g3 := hmz.r.frozen 3
      have HBZ := Lib.hid hmz.b
      try unfold stV
      go_wp2
      refine bodyPost_ret (v := stV s j (.slice ao m cap) 81) (by simp [results, Tryd.results42, go_sem, q0, q1, q2, q3, stV]) rfl ?_
      rw [HA2.out]
      exact ⟨j, ao, m, cap, hj, rfl, below_put HBZ.out (by omega) _ _ _ _, fun h => by cases h⟩
    · have y1 : ¬ (64 : Int) ≤ (d : Int) := by omega
      have HVD : Hid (A = okThen (membF readD f (d + 1) false (restB s (j + 1))) (fun x r => (0, ⟨d, kindO false, key.data.toList, [], 0⟩ :: x, r))) := by
        show _ = _
        rw [HVC.out, if_neg hd64]
        show (if (skipL (restB s (j + 1))).head? = some (shutO false) then (0, [⟨d, kindO false, key.data.toList, [], 0⟩], (skipL (restB s (j + 1))).tail) else okThen (listF readD f (d + 1) false [] (restB s (j + 1))) (fun m r => (0, ⟨d, kindO false, key.data.toList, [], 0⟩ :: m, r))) = _
        unfold membF
        by_cases hh : (skipL (restB s (j + 1))).head? = some (shutO false)
        · rw [if_pos hh, if_pos hh, okThen_ok]
        · rw [if_neg hh, if_neg hh]
      have hm4 := HINw4.out
      have h1 := hm4.x.frozen 1
      obtain ⟨W5, hW5⟩ : ∃ W, w4.setCell ⟨w.heap.size + 1, 1, none⟩ (.int .i64 6) = W := ⟨_, rfl⟩
      have hm5 : MemIn s w d 6 key j (.slice ao m cap) 0 W5 := by
        rw [← hW5]
        exact ⟨hm4.p.other _ _ (by show w.heap.size + 1 ≠ w.heap.size; omega), (hm4.x.set _).1, hm4.r.other _ _ (by show w.heap.size + 1 ≠ w.heap.size + 1 + 1; omega), hm4.b.setCell (p := ⟨w.heap.size + 1, 1, none⟩) (by show _ ≤ w.heap.size + 1; omega) _⟩
      have HM5 := Lib.hid hm5
      have HW5 := Lib.hid hW5
      have HS1 : Hid (standsL [123] (restB s j) = false) := by
        show _ = _
        rw [HSJ.out]
        rfl
      clear hm4 hm5 hW5 hd64 HVC
      go_wp2_with fail
      rw [HW5.out]
      clear x0 x1 x2 x3 x4 h1 HW5 p0 p1 p2 p3
      refine (ris_any s j (.slice ao m cap) 0 123 123 rfl false HS1.out _ hs).mono ?_
      rintro _ w6 ⟨rfl, hb6⟩
      have hm6 := HM5.out.keep hb6
      obtain ⟨p0, p1, p2, p3⟩ := hm6.p.cells
      obtain ⟨x0, x1, x2, x3, x4⟩ := hm6.x.cells
      have f1 := hm6.p.frozen 1
      have h1 := hm6.x.frozen 1
      clear hb6 HM5
      go_wp2_with fail
      obtain ⟨W2, hW2⟩ : ∃ W, w6.setCell ⟨w.heap.size, 1, none⟩ (.int .i64 ((j : Int) + 1)) = W := ⟨_, rfl⟩
      rw [hW2]
      have hm8 : MemIn s w d 6 key (j + 1) (.slice ao m cap) 0 W2 := by
        rw [← hW2]
        exact hm6.move (j + 1) _ (by omega)
      clear hW2 hm6 p0 p1 p2 p3 x0 x1 x2 x3 x4 f1 h1
      obtain ⟨p0, p1, p2, p3⟩ := hm8.p.cells
      obtain ⟨x0, x1, x2, x3, x4⟩ := hm8.x.cells
      have f2 := hm8.p.frozen 2
      have ls := hm8.p.lt
      have lx := hm8.x.lt
      have hsz2 := hm8.b.size
      have HI2' := Lib.hid (HI.out.keep hm8.b)
      have HS2 := Lib.hid hm8.p
      have HX2 := Lib.hid hm8.x
      have HM8 := Lib.hid hm8
      clear hm8
      have HP1 := Lib.hid (push_one W2 HI2'.out hlz (d : Int) 6 0 key ByteArray.empty)
      have HP2 := Lib.hid (push_two W2 HI2'.out hlz (d : Int) 6 0 key ByteArray.empty)
      have HP3 := Lib.hid (push_three W2 HI2'.out hlz (d : Int) 6 0 key ByteArray.empty)
      go_cut [] (fun wx => RowPut W2 w.heap.size s (j + 1) 0 (l ++ [⟨d, 6, key.data.toList, [], 0⟩]) wx)
      case first =>
        go_region_law (first
          | ((with_reducible refine step_append_ex ?_ ?_ ?_ 22 ?_ ?_ ?_ _ HP1.out ?_); (rotate_left 3; rfl); rfl; rfl; (rotate_left; rfl); rintro _ w5 ⟨⟨ao5, m5, c5, rfl⟩, hb5, hfut⟩; obtain ⟨y0, y1', y2, y3, y4⟩ := (HX2.out.keep hb5).cells; have HFU := Lib.hid hfut; clear hfut hb5)
          | ((with_reducible refine step_append_ex ?_ ?_ ?_ 22 ?_ ?_ ?_ _ HP2.out ?_); (rotate_left 3; rfl); rfl; rfl; (rotate_left; rfl); rintro _ w5 ⟨⟨ao5, m5, c5, rfl⟩, hb5, hfut⟩; obtain ⟨y0, y1', y2, y3, y4⟩ := (HX2.out.keep hb5).cells; have HFU := Lib.hid hfut; clear hfut hb5)
          | ((with_reducible refine step_append_ex ?_ ?_ ?_ 22 ?_ ?_ ?_ _ HP3.out ?_); (rotate_left 3; rfl); rfl; rfl; (rotate_left; rfl); rintro _ w5 ⟨⟨ao5, m5, c5, rfl⟩, hb5, hfut⟩; obtain ⟨y0, y1', y2, y3, y4⟩ := (HX2.out.keep hb5).cells; have HFU := Lib.hid hfut; clear hfut hb5)
          | (refine step_append_ex (by rfl) _ _ 22 (by rfl) (by rfl) (by rfl) _ HFU.out ?_; rintro _ w6' ⟨hI6, hb6, ⟨ao6, m6, c6, rfl⟩, hset⟩; obtain ⟨u0, u1, u2, u3⟩ := (HS2.out.keep hb6).cells; have v2 := (HS2.out.keep hb6).frozen 2; have HB6 := Lib.hid hb6; have HSET := Lib.hid hset; clear hI6 hb6 hset))
        all_goals (try go_wp2_with fail)
        all_goals
          go_meet
          exact RowPut.mk HS2.out HB6.out HSET.out
      case rest =>
        have HPUT := Lib.hid hcut
        clear hcut HP1 HP2 HP3 p0 p1 p2 p3 x0 x1 x2 x3 x4 f2
        obtain ⟨ao7, m7, c7, hS7, hI7, _⟩ := HPUT.out
        have hm7 : MemIn s w d 6 key (j + 1) (.slice ao7 m7 c7) 0 wc := ⟨hS7, HPUT.out.boxR HM8.out.x (by omega), HPUT.out.box HM8.out.r (by omega), HPUT.out.below HM8.out.b (Nat.le_refl _)⟩
        have HI7 := Lib.hid (hI7.mono hsz2)
        have HM7 := Lib.hid hm7
        obtain ⟨E9, x9, r9, hme⟩ : ∃ E x r, membF readD f (d + 1) false (restB s (j + 1)) = (E, x, r) := ⟨_, _, _, rfl⟩
        have hmem := rmembers_false (HIH.out (n - 1) (by omega)) s (j + 1) ao7 m7 c7 (l ++ [⟨d, 6, key.data.toList, [], 0⟩]) w.heap.size wc HI7.out hm7.b.size (by simp) (by omega) hs (by rw [List.length_append]; simp; omega) d (by omega) key (by omega) f (by omega)
        rw [hme] at hmem
        unfold itA at hmem
        have HMEM := Lib.hid hmem
        have HVE : Hid (A = okThen (E9, x9, r9) (fun x r => (0, ⟨d, kindO false, key.data.toList, [], 0⟩ :: x, r))) := by show _ = _; rw [HVD.out, hme]
        obtain ⟨p0, p1, p2, p3⟩ := hS7.cells
        obtain ⟨x0, x1, x2, x3, x4⟩ := hm7.x.cells
        clear hS7 hI7 hm7 hmem hme HPUT HI2' HS2 HX2 HM8 HVD
        go_wp2_with fail
        refine HMEM.out.mono ?_
        rintro rr w9 ⟨j9, a9, m9, c9, hj9, hre, hb9, hok9⟩
        have hre : rr = .returned (stV s j9 (.slice a9 m9 c9) E9) := hre
        subst hre
        have hm9 := HM7.out.keep hb9
        have HOK : Hid (E9 = 0 → restB s j9 = r9 ∧ ItsFar w.heap.size w9 (.slice a9 m9 c9) (l ++ [⟨d, 6, key.data.toList, [], 0⟩] ++ x9)) := hok9
        have HR9 := Lib.hid hm9.r
        clear hb9 hok9 HMEM HM7 HI7 p0 p1 p2 p3 x0 x1 x2 x3 x4
        obtain ⟨q0, q1, q2, q3⟩ := hm9.r.cells
        have g0 := hm9.r.frozen 0
        have g1 := hm9.r.frozen 1
        have g2 := hm9.r.frozen 2
        have g3 := hm9.r.frozen 3
        have HBZ := Lib.hid hm9.b
        clear hm9
        try unfold stV
        go_wp2
        refine bodyPost_ret (v := stV s j9 (.slice a9 m9 c9) E9) (by simp [results, Tryd.results42, go_sem, q0, q1, q2, q3, stV]) rfl ?_
        by_cases hE9 : E9 = 0
        · have hA9 : A = (0, ⟨d, kindO false, key.data.toList, [], 0⟩ :: x9, r9) := by rw [HVE.out, hE9, okThen_ok]
          rw [hA9, hE9]
          refine ⟨j9, a9, m9, c9, hj9, rfl, below_put HBZ.out (by omega) _ _ _ _, fun _ => ⟨(HOK.out hE9).1, ?_⟩⟩
          have h2 := (HOK.out hE9).2.put HR9.out (.string s) (.int .i64 (j9 : Int)) (.slice a9 m9 c9) (.int .i64 ((0 : Nat) : Int))
          rw [List.append_assoc] at h2
          exact h2
        · have hA9 : A = (E9, [], []) := by rw [HVE.out, okThen_err E9 hE9]
          rw [hA9]
          exact ⟨j9, a9, m9, c9, hj9, rfl, below_put HBZ.out (by omega) _ _ _ _, fun h => absurd h hE9⟩
  · skip
    have hst : standsL [91] (restB s j) = false := by
      rw [stands_sign]
      simpa using h91
    have HS91 := Lib.hid hst
    clear hst
    refine (ris_any s j (.slice ao m cap) 0 91 91 rfl false HS91.out _ hs).mono ?_
    rintro _ w3 ⟨rfl, hbw3⟩
    have hinw3 := HIN2.out.keep hbw3
    have HINw3 := Lib.hid hinw3
    have HIw3 := Lib.hid (HI2.out.keep hbw3)
    obtain ⟨p0, p1, p2, p3⟩ := hinw3.p.cells
    clear hbw3 hinw3 HIN2 HI2
    by_cases h123 : (restB s j).head? = some 123
    · skip
      have hst : standsL [123] (restB s j) = true := by rw [stands_sign, h123]; rfl
      have HS123 := Lib.hid hst
      clear hst
      go_wp2_with fail
      refine (ris_any s j (.slice ao m cap) 0 123 123 rfl true HS123.out _ hs).mono ?_
      rintro _ w4 ⟨rfl, hbw4⟩
      have hinw4 := HINw3.out.keep hbw4
      have HINw4 := Lib.hid hinw4
      have HIw4 := Lib.hid (HIw3.out.keep hbw4)
      obtain ⟨p0, p1, p2, p3⟩ := hinw4.p.cells
      clear hbw4 hinw4 HINw3 HIw3
      have hlt : j < s.size := by
        by_cases h : j < s.size
        · exact h
        · rw [restB_nil s j h] at h123
          cases h123
      have hsj : s[j] = 123 := by
        rw [restB_cons s j hlt] at h123
        simpa using h123
      have hvc := value_cons readD f d key.data.toList (restB s k) s[j] (restB s (j + 1)) (by rw [← HRJ.out, restB_cons s j hlt])
      rw [HA.out, hsj, if_pos (by decide)] at hvc
      have HVC := Lib.hid hvc
      have hrs := restB_cons s j hlt
      rw [hsj] at hrs
      have HSJ := Lib.hid hrs
      clear hvc hrs hsj h123
      obtain ⟨x0, x1, x2, x3, x4⟩ := HINw4.out.x.cells
      by_cases hd64 : 64 ≤ d
      · have y1 : (64 : Int) ≤ (d : Int) := by omega
        have HA2 : Hid (A = (81, [], [])) := by show _ = _; rw [HVC.out, if_pos hd64]
        clear hd64
        go_wp2_with fail
        refine (ramiss_any s j ao m cap 0 81 _).mono ?_
        rintro _ wz ⟨rfl, hbz⟩
        have hmz := HINw4.out.keep hbz
        clear hbz x0 x1 x2 x3 x4
        obtain ⟨q0, q1, q2, q3⟩ := hmz.r.cells
        have g0 := hmz.r.frozen 0
        have g1 := hmz.r.frozen 1
        have g2 := hmz.r.frozen 2
        have g3 := hmz.r.frozen 3
        have HBZ := Lib.hid hmz.b
        try unfold stV
        go_wp2
        refine bodyPost_ret (v := stV s j (.slice ao m cap) 81) (by simp [results, Tryd.results42, go_sem, q0, q1, q2, q3, stV]) rfl ?_
        rw [HA2.out]
        exact ⟨j, ao, m, cap, hj, rfl, below_put HBZ.out (by omega) _ _ _ _, fun h => by cases h⟩
      · have y1 : ¬ (64 : Int) ≤ (d : Int) := by omega
        have HVD : Hid (A = okThen (membF readD f (d + 1) true (restB s (j + 1))) (fun x r => (0, ⟨d, kindO true, key.data.toList, [], 0⟩ :: x, r))) := by
          show _ = _
          rw [HVC.out, if_neg hd64]
          show (if (skipL (restB s (j + 1))).head? = some (shutO true) then (0, [⟨d, kindO true, key.data.toList, [], 0⟩], (skipL (restB s (j + 1))).tail) else okThen (listF readD f (d + 1) true [] (restB s (j + 1))) (fun m r => (0, ⟨d, kindO true, key.data.toList, [], 0⟩ :: m, r))) = _
          unfold membF
          by_cases hh : (skipL (restB s (j + 1))).head? = some (shutO true)
          · rw [if_pos hh, if_pos hh, okThen_ok]
          · rw [if_neg hh, if_neg hh]
        have hm4 := HINw4.out
        have h1 := hm4.x.frozen 1
        obtain ⟨W5, hW5⟩ : ∃ W, w4.setCell ⟨w.heap.size + 1, 1, none⟩ (.int .i64 6) = W := ⟨_, rfl⟩
        have hm5 : MemIn s w d 6 key j (.slice ao m cap) 0 W5 := by
          rw [← hW5]
          exact ⟨hm4.p.other _ _ (by show w.heap.size + 1 ≠ w.heap.size; omega), (hm4.x.set _).1, hm4.r.other _ _ (by show w.heap.size + 1 ≠ w.heap.size + 1 + 1; omega), hm4.b.setCell (p := ⟨w.heap.size + 1, 1, none⟩) (by show _ ≤ w.heap.size + 1; omega) _⟩
        have HM5 := Lib.hid hm5
        have HW5 := Lib.hid hW5
        have HS1 : Hid (standsL [123] (restB s j) = true) := by
          show _ = _
          rw [HSJ.out]
          rfl
        clear hm4 hm5 hW5 hd64 HVC
        go_wp2_with fail
        rw [HW5.out]
        clear x0 x1 x2 x3 x4 h1 HW5 p0 p1 p2 p3
        refine (ris_any s j (.slice ao m cap) 0 123 123 rfl true HS1.out _ hs).mono ?_
        rintro _ w6 ⟨rfl, hb6⟩
        have hm6 := HM5.out.keep hb6
        obtain ⟨p0, p1, p2, p3⟩ := hm6.p.cells
        obtain ⟨x0, x1, x2, x3, x4⟩ := hm6.x.cells
        have f1 := hm6.p.frozen 1
        have h1 := hm6.x.frozen 1
        clear hb6 HM5
        go_wp2_with fail
        obtain ⟨W2, hW2⟩ : ∃ W, (w6.setCell ⟨w.heap.size + 1, 1, none⟩ (.int .i64 7)).setCell ⟨w.heap.size, 1, none⟩ (.int .i64 ((j : Int) + 1)) = W := ⟨_, rfl⟩
        rw [hW2]
        have hm8 : MemIn s w d 7 key (j + 1) (.slice ao m cap) 0 W2 := by
          rw [← hW2]
          exact MemIn.move ⟨hm6.p.other _ _ (by show w.heap.size + 1 ≠ w.heap.size; omega), (hm6.x.set _).1, hm6.r.other _ _ (by show w.heap.size + 1 ≠ w.heap.size + 1 + 1; omega), hm6.b.setCell (p := ⟨w.heap.size + 1, 1, none⟩) (by show _ ≤ w.heap.size + 1; omega) _⟩ (j + 1) _ (by omega)
        clear hW2 hm6 p0 p1 p2 p3 x0 x1 x2 x3 x4 f1 h1
        obtain ⟨p0, p1, p2, p3⟩ := hm8.p.cells
        obtain ⟨x0, x1, x2, x3, x4⟩ := hm8.x.cells
        have f2 := hm8.p.frozen 2
        have ls := hm8.p.lt
        have lx := hm8.x.lt
        have hsz2 := hm8.b.size
        have HI2' := Lib.hid (HI.out.keep hm8.b)
        have HS2 := Lib.hid hm8.p
        have HX2 := Lib.hid hm8.x
        have HM8 := Lib.hid hm8
        clear hm8
        have HP1 := Lib.hid (push_one W2 HI2'.out hlz (d : Int) 7 0 key ByteArray.empty)
        have HP2 := Lib.hid (push_two W2 HI2'.out hlz (d : Int) 7 0 key ByteArray.empty)
        have HP3 := Lib.hid (push_three W2 HI2'.out hlz (d : Int) 7 0 key ByteArray.empty)
        go_cut [] (fun wx => RowPut W2 w.heap.size s (j + 1) 0 (l ++ [⟨d, 7, key.data.toList, [], 0⟩]) wx)
        case first =>
          go_region_law (first
            | ((with_reducible refine step_append_ex ?_ ?_ ?_ 22 ?_ ?_ ?_ _ HP1.out ?_); (rotate_left 3; rfl); rfl; rfl; (rotate_left; rfl); rintro _ w5 ⟨⟨ao5, m5, c5, rfl⟩, hb5, hfut⟩; obtain ⟨y0, y1', y2, y3, y4⟩ := (HX2.out.keep hb5).cells; have HFU := Lib.hid hfut; clear hfut hb5)
            | ((with_reducible refine step_append_ex ?_ ?_ ?_ 22 ?_ ?_ ?_ _ HP2.out ?_); (rotate_left 3; rfl); rfl; rfl; (rotate_left; rfl); rintro _ w5 ⟨⟨ao5, m5, c5, rfl⟩, hb5, hfut⟩; obtain ⟨y0, y1', y2, y3, y4⟩ := (HX2.out.keep hb5).cells; have HFU := Lib.hid hfut; clear hfut hb5)
            | ((with_reducible refine step_append_ex ?_ ?_ ?_ 22 ?_ ?_ ?_ _ HP3.out ?_); (rotate_left 3; rfl); rfl; rfl; (rotate_left; rfl); rintro _ w5 ⟨⟨ao5, m5, c5, rfl⟩, hb5, hfut⟩; obtain ⟨y0, y1', y2, y3, y4⟩ := (HX2.out.keep hb5).cells; have HFU := Lib.hid hfut; clear hfut hb5)
            | (refine step_append_ex (by rfl) _ _ 22 (by rfl) (by rfl) (by rfl) _ HFU.out ?_; rintro _ w6' ⟨hI6, hb6, ⟨ao6, m6, c6, rfl⟩, hset⟩; obtain ⟨u0, u1, u2, u3⟩ := (HS2.out.keep hb6).cells; have v2 := (HS2.out.keep hb6).frozen 2; have HB6 := Lib.hid hb6; have HSET := Lib.hid hset; clear hI6 hb6 hset))
          all_goals (try go_wp2_with fail)
          all_goals
            go_meet
            exact RowPut.mk HS2.out HB6.out HSET.out
        case rest =>
          have HPUT := Lib.hid hcut
          clear hcut HP1 HP2 HP3 p0 p1 p2 p3 x0 x1 x2 x3 x4 f2
          obtain ⟨ao7, m7, c7, hS7, hI7, _⟩ := HPUT.out
          have hm7 : MemIn s w d 7 key (j + 1) (.slice ao7 m7 c7) 0 wc := ⟨hS7, HPUT.out.boxR HM8.out.x (by omega), HPUT.out.box HM8.out.r (by omega), HPUT.out.below HM8.out.b (Nat.le_refl _)⟩
          have HI7 := Lib.hid (hI7.mono hsz2)
          have HM7 := Lib.hid hm7
          obtain ⟨E9, x9, r9, hme⟩ : ∃ E x r, membF readD f (d + 1) true (restB s (j + 1)) = (E, x, r) := ⟨_, _, _, rfl⟩
          have hmem := rmembers_true (HIH.out (n - 1) (by omega)) s (j + 1) ao7 m7 c7 (l ++ [⟨d, 7, key.data.toList, [], 0⟩]) w.heap.size wc HI7.out hm7.b.size (by simp) (by omega) hs (by rw [List.length_append]; simp; omega) d (by omega) key (by omega) f (by omega)
          rw [hme] at hmem
          unfold itA at hmem
          have HMEM := Lib.hid hmem
          have HVE : Hid (A = okThen (E9, x9, r9) (fun x r => (0, ⟨d, kindO true, key.data.toList, [], 0⟩ :: x, r))) := by show _ = _; rw [HVD.out, hme]
          obtain ⟨p0, p1, p2, p3⟩ := hS7.cells
          obtain ⟨x0, x1, x2, x3, x4⟩ := hm7.x.cells
          clear hS7 hI7 hm7 hmem hme HPUT HI2' HS2 HX2 HM8 HVD
          go_wp2_with fail
          refine HMEM.out.mono ?_
          rintro rr w9 ⟨j9, a9, m9, c9, hj9, hre, hb9, hok9⟩
          have hre : rr = .returned (stV s j9 (.slice a9 m9 c9) E9) := hre
          subst hre
          have hm9 := HM7.out.keep hb9
          have HOK : Hid (E9 = 0 → restB s j9 = r9 ∧ ItsFar w.heap.size w9 (.slice a9 m9 c9) (l ++ [⟨d, 7, key.data.toList, [], 0⟩] ++ x9)) := hok9
          have HR9 := Lib.hid hm9.r
          clear hb9 hok9 HMEM HM7 HI7 p0 p1 p2 p3 x0 x1 x2 x3 x4
          obtain ⟨q0, q1, q2, q3⟩ := hm9.r.cells
          have g0 := hm9.r.frozen 0
          have g1 := hm9.r.frozen 1
          have g2 := hm9.r.frozen 2
          have g3 := hm9.r.frozen 3
          have HBZ := Lib.hid hm9.b
          clear hm9
          try unfold stV
          go_wp2
          refine bodyPost_ret (v := stV s j9 (.slice a9 m9 c9) E9) (by simp [results, Tryd.results42, go_sem, q0, q1, q2, q3, stV]) rfl ?_
          by_cases hE9 : E9 = 0
          · have hA9 : A = (0, ⟨d, kindO true, key.data.toList, [], 0⟩ :: x9, r9) := by rw [HVE.out, hE9, okThen_ok]
            rw [hA9, hE9]
            refine ⟨j9, a9, m9, c9, hj9, rfl, below_put HBZ.out (by omega) _ _ _ _, fun _ => ⟨(HOK.out hE9).1, ?_⟩⟩
            have h2 := (HOK.out hE9).2.put HR9.out (.string s) (.int .i64 (j9 : Int)) (.slice a9 m9 c9) (.int .i64 ((0 : Nat) : Int))
            rw [List.append_assoc] at h2
            exact h2
          · have hA9 : A = (E9, [], []) := by rw [HVE.out, okThen_err E9 hE9]
            rw [hA9]
            exact ⟨j9, a9, m9, c9, hj9, rfl, below_put HBZ.out (by omega) _ _ _ _, fun h => absurd h hE9⟩
    · skip
      have hst : standsL [123] (restB s j) = false := by
        rw [stands_sign]
        simpa using h123
      have HS123 := Lib.hid hst
      clear hst
      go_wp2_with fail
      refine (ris_any s j (.slice ao m cap) 0 123 123 rfl false HS123.out _ hs).mono ?_
      rintro _ w4 ⟨rfl, hbw4⟩
      have hinw4 := HINw3.out.keep hbw4
      have HINw4 := Lib.hid hinw4
      have HIw4 := Lib.hid (HIw3.out.keep hbw4)
      obtain ⟨p0, p1, p2, p3⟩ := hinw4.p.cells
      clear hbw4 hinw4 HINw3 HIw3
      by_cases h34 : (restB s j).head? = some 34
      · skip
        have hst : standsL [34] (restB s j) = true := by rw [stands_sign, h34]; rfl
        have HS34 := Lib.hid hst
        clear hst
        go_wp2_with fail
        refine (ris_any s j (.slice ao m cap) 0 34 34 rfl true HS34.out _ hs).mono ?_
        rintro _ w5 ⟨rfl, hbw5⟩
        have hinw5 := HINw4.out.keep hbw5
        have HINw5 := Lib.hid hinw5
        have HIw5 := Lib.hid (HIw4.out.keep hbw5)
        obtain ⟨p0, p1, p2, p3⟩ := hinw5.p.cells
        clear hbw5 hinw5 HINw4 HIw4
        have hlt : j < s.size := by
          by_cases h : j < s.size
          · exact h
          · rw [restB_nil s j h] at h34
            cases h34
        have hsj : s[j] = 34 := by
          rw [restB_cons s j hlt] at h34
          simpa using h34
        have hvc := value_cons readD f d key.data.toList (restB s k) s[j] (restB s (j + 1)) (by rw [← HRJ.out, restB_cons s j hlt])
        rw [HA.out, hsj, if_neg (by decide), if_pos (by decide)] at hvc
        have hrs := restB_cons s j hlt
        rw [hsj] at hrs
        rw [← hrs] at hvc
        obtain ⟨E, u, r, hq⟩ : ∃ E u r, quotF (restB s j) = (E, u, r) := ⟨_, _, _, rfl⟩
        rw [hq] at hvc
        obtain ⟨U, hU⟩ : ∃ U, bytesOf u = U := ⟨_, rfl⟩
        have hUl : U.data.toList = u := by rw [← hU, list_bytesOf]
        have HVC := Lib.hid hvc
        have HQ := Lib.hid hq
        have HU := Lib.hid hU
        have HUL := Lib.hid hUl
        clear hvc hrs hsj hq hU hUl h91 h123 h34
        go_wp2_with fail
        refine (rrquoted_any s j ao m cap 0 _ hj hs (E, u, r) HQ.out U HU.out).mono ?_
        rintro _ w6 ⟨j2, hj2, hr2, rfl, hb6⟩
        have hm6 := HINw5.out.keep hb6
        have HR2 := Lib.hid hr2
        clear hb6 hr2 p0 p1 p2 p3
        by_cases hE : E = 0
        · subst hE
          have HRR : Hid (restB s j2 = r) := HR2.out rfl
          have HVD : Hid (A = (0, [⟨d, 5, key.data.toList, U.data.toList, 0⟩], restB s j2)) := by
            show _ = _
            rw [HVC.out, okThen_ok, HUL.out, HRR.out]
          have ha := (Below.refl w6.heap.size w6).alloc (Nat.le_refl _) (.cells #[.string s, .int .i64 (j2 : Int), .slice ao m cap, .int .i64 0] 76)
          have hm7 := hm6.keep ha
          have hnb := BoxS.new w6 (.string s) (.int .i64 (j2 : Int)) (.slice ao m cap) (.int .i64 0)
          obtain ⟨n0, n1, n2, n3⟩ := hnb.cells
          obtain ⟨x0, x1, x2, x3, x4⟩ := hm7.x.cells
          have h1 := hm7.x.frozen 1
          have h3 := hm7.x.frozen 3
          have hwb := hm6.b.size
          have hxl := hm6.r.lt
          clear HVC HR2 HRR ha
          unfold stV
          go_wp2_with fail
          obtain ⟨W2, hW2⟩ : ∃ W, ((w6.alloc (.cells #[.string s, .int .i64 (j2 : Int), .slice ao m cap, .int .i64 0] 76)).setCell ⟨w.heap.size + 1, 1, none⟩ (.int .i64 5)).setCell ⟨w.heap.size + 1, 3, none⟩ (.string U) = W := ⟨_, rfl⟩
          rw [hW2]
          have hS2 : BoxS W2 w6.heap.size (.string s) (.int .i64 (j2 : Int)) (.slice ao m cap) (.int .i64 0) := by
            rw [← hW2]
            exact (hnb.other _ _ (by show w.heap.size + 1 ≠ w6.heap.size; omega)).other _ _ (by show w.heap.size + 1 ≠ w6.heap.size; omega)
          have hX2 : BoxR W2 (w.heap.size + 1) (.int .i64 (d : Int)) (.int .i64 5) (.string key) (.string U) (.int .i64 0) := by
            rw [← hW2]
            exact (((hm7.x.set _).1).set _).2.2.1
          have hR2 : BoxS W2 (w.heap.size + 1 + 1) (.string ⟨#[]⟩) (.int .i64 0) (.slice none 0 0) (.int .i64 0) := by
            rw [← hW2]
            exact (hm7.r.other _ _ (by show w.heap.size + 1 ≠ w.heap.size + 1 + 1; omega)).other _ _ (by show w.heap.size + 1 ≠ w.heap.size + 1 + 1; omega)
          have hB2 : Below w.heap.size w W2 := by
            rw [← hW2]
            exact (hm7.b.setCell (p := ⟨w.heap.size + 1, 1, none⟩) (by show _ ≤ w.heap.size + 1; omega) _).setCell (p := ⟨w.heap.size + 1, 3, none⟩) (by show _ ≤ w.heap.size + 1; omega) _
          clear hW2 hnb hm6 hm7 n0 n1 n2 n3 x0 x1 x2 x3 x4 h1 h3
          obtain ⟨n0, n1, n2, n3⟩ := hS2.cells
          obtain ⟨x0, x1, x2, x3, x4⟩ := hX2.cells
          have f2 := hS2.frozen 2
          have ls := hS2.lt
          have lx := hX2.lt
          have hsz2 := hB2.size
          have HI2' := Lib.hid (HI.out.keep hB2)
          have HS2 := Lib.hid hS2
          have HX2 := Lib.hid hX2
          have HR2 := Lib.hid hR2
          have HB2 := Lib.hid hB2
          clear hS2 hX2 hR2 hB2
          have HP1 := Lib.hid (push_one W2 HI2'.out hlz (d : Int) 5 0 key U)
          have HP2 := Lib.hid (push_two W2 HI2'.out hlz (d : Int) 5 0 key U)
          have HP3 := Lib.hid (push_three W2 HI2'.out hlz (d : Int) 5 0 key U)
          go_cut [] (fun wx => RowPut W2 w6.heap.size s j2 0 (l ++ [⟨d, 5, key.data.toList, U.data.toList, 0⟩]) wx)
          case first =>
            go_region_law (first
                | ((with_reducible refine step_append_ex ?_ ?_ ?_ 22 ?_ ?_ ?_ _ HP1.out ?_); (rotate_left 3; rfl); rfl; rfl; (rotate_left; rfl); rintro _ wa ⟨⟨ao5, m5, c5, rfl⟩, hb5, hfut⟩; obtain ⟨y0, y1', y2, y3, y4⟩ := (HX2.out.keep hb5).cells; have HFU := Lib.hid hfut; clear hfut hb5)
                | ((with_reducible refine step_append_ex ?_ ?_ ?_ 22 ?_ ?_ ?_ _ HP2.out ?_); (rotate_left 3; rfl); rfl; rfl; (rotate_left; rfl); rintro _ wa ⟨⟨ao5, m5, c5, rfl⟩, hb5, hfut⟩; obtain ⟨y0, y1', y2, y3, y4⟩ := (HX2.out.keep hb5).cells; have HFU := Lib.hid hfut; clear hfut hb5)
                | ((with_reducible refine step_append_ex ?_ ?_ ?_ 22 ?_ ?_ ?_ _ HP3.out ?_); (rotate_left 3; rfl); rfl; rfl; (rotate_left; rfl); rintro _ wa ⟨⟨ao5, m5, c5, rfl⟩, hb5, hfut⟩; obtain ⟨y0, y1', y2, y3, y4⟩ := (HX2.out.keep hb5).cells; have HFU := Lib.hid hfut; clear hfut hb5)
                | (refine step_append_ex (by rfl) _ _ 22 (by rfl) (by rfl) (by rfl) _ HFU.out ?_; rintro _ wd ⟨hI6, hb6, ⟨ao6, m6, c6, rfl⟩, hset⟩; obtain ⟨u0, u1, u2, u3⟩ := (HS2.out.keep hb6).cells; have v2 := (HS2.out.keep hb6).frozen 2; have HB6 := Lib.hid hb6; have HSET := Lib.hid hset; clear hI6 hb6 hset))
            all_goals (try go_wp2_with fail)
            all_goals
              go_meet
              exact RowPut.mk HS2.out HB6.out HSET.out
          case rest =>
            have HPUT := Lib.hid hcut
            clear hcut HP1 HP2 HP3 n0 n1 n2 n3 x0 x1 x2 x3 x4 f2
            obtain ⟨ao7, m7, c7, hS7, hI7, _⟩ := HPUT.out
            have hr7 := HPUT.out.box HR2.out (by omega)
            have HBX := Lib.hid (HPUT.out.below HB2.out (by omega))
            have HI7 := Lib.hid (hI7.mono hsz2)
            have HR7 := Lib.hid hr7
            obtain ⟨n0, n1, n2, n3⟩ := hS7.cells
            obtain ⟨q0, q1, q2, q3⟩ := hr7.cells
            have g0 := hr7.frozen 0
            have g1 := hr7.frozen 1
            have g2 := hr7.frozen 2
            have g3 := hr7.frozen 3
            clear hS7 hI7 hr7 HPUT HI2' HS2 HX2 HR2 HB2
            try unfold stV
            go_wp2
            refine bodyPost_ret (v := stV s j2 (.slice ao7 m7 c7) 0) (by simp [results, Tryd.results42, go_sem, q0, q1, q2, q3, stV]) rfl ?_
            rw [HVD.out]
            exact ⟨j2, ao7, m7, c7, hj2, rfl, below_put HBX.out (by omega) _ _ _ _, fun _ => ⟨rfl, HI7.out.put HR7.out _ _ _ _⟩⟩
        · have z1 : ((E : Int) == 0) = false := by rw [beq_eq_false_iff_ne]; omega
          have z2 : ((E : Int) != 0) = true := by simp; omega
          have z3 : ¬ (E : Int) = 0 := by omega
          have HNE0 := Lib.hid hE
          have HVD : Hid (A = (E, [], [])) := by
            show _ = _
            rw [HVC.out, okThen_err E hE]
          have hm7 := hm6.keep ((Below.refl w6.heap.size w6).alloc (Nat.le_refl _) (.cells #[.string s, .int .i64 (j2 : Int), .slice ao m cap, .int .i64 (E : Int)] 76))
          have hnb := BoxS.new w6 (.string s) (.int .i64 (j2 : Int)) (.slice ao m cap) (.int .i64 (E : Int))
          obtain ⟨n0, n1, n2, n3⟩ := hnb.cells
          obtain ⟨q0, q1, q2, q3⟩ := hm7.r.cells
          have g0 := hm7.r.frozen 0
          have g1 := hm7.r.frozen 1
          have g2 := hm7.r.frozen 2
          have g3 := hm7.r.frozen 3
          have HBX := Lib.hid hm7.b
          clear hE hm6 hm7 hnb HVC HR2
          unfold stV
          go_wp2
          refine bodyPost_ret (v := stV s j2 (.slice ao m cap) E) (by simp [results, Tryd.results42, go_sem, q0, q1, q2, q3, stV]) rfl ?_
          rw [HVD.out]
          exact ⟨j2, ao, m, cap, hj2, rfl, below_put HBX.out (by omega) _ _ _ _, fun h => absurd h HNE0.out⟩
      · skip
        have hst : standsL [34] (restB s j) = false := by
          rw [stands_sign]
          simpa using h34
        have HS34 := Lib.hid hst
        clear hst
        go_wp2_with fail
        refine (ris_any s j (.slice ao m cap) 0 34 34 rfl false HS34.out _ hs).mono ?_
        rintro _ w5 ⟨rfl, hbw5⟩
        have hinw5 := HINw4.out.keep hbw5
        have HINw5 := Lib.hid hinw5
        have HIw5 := Lib.hid (HIw4.out.keep hbw5)
        obtain ⟨p0, p1, p2, p3⟩ := hinw5.p.cells
        clear hbw5 hinw5 HINw4 HIw4
        by_cases hlt : j < s.size
        · have hvc := value_cons readD f d key.data.toList (restB s k) s[j] (restB s (j + 1)) (by rw [← HRJ.out, restB_cons s j hlt])
          have g91 : ¬ s[j].toNat = 91 := fun e => h91 (by rw [restB_cons s j hlt]; show some s[j] = some 91; rw [show s[j] = 91 from UInt8.toNat.inj e])
          have g123 : ¬ s[j].toNat = 123 := fun e => h123 (by rw [restB_cons s j hlt]; show some s[j] = some 123; rw [show s[j] = 123 from UInt8.toNat.inj e])
          have g34 : ¬ s[j].toNat = 34 := fun e => h34 (by rw [restB_cons s j hlt]; show some s[j] = some 34; rw [show s[j] = 34 from UInt8.toNat.inj e])
          rw [HA.out, if_neg (by omega), if_neg g34, ← restB_cons s j hlt] at hvc
          have HVC := Lib.hid hvc
          clear hvc h91 h123 h34 g91 g123 g34
          by_cases hnh : numH s[j] = true
          · have hnn := numH_nat hnh
            have HVD : Hid (numF readD d key.data.toList (restB s j) = A) := by
              show _ = _
              rw [HVC.out, if_pos hnh]
              rfl
            clear HVC hnh
            by_cases e45 : s[j].toNat = 45
            · have z45 : ((s[j].toNat : Int) == 45) = true := by rw [beq_iff_eq]; omega
              clear hnn e45
              obtain ⟨x0, x1, x2, x3, x4⟩ := HINw5.out.x.cells
              have hI5 := HI.out.keep HINw5.out.b
              have HTOLD := Lib.hid (rrnumber_any s j ao m cap l w5 hI5 hj hs hlz d key)
              have hbz5 := HINw5.out.b.size
              clear hI5
              go_wp2_with fail
              refine HTOLD.out.mono ?_
              rintro rr w9 ⟨j9, a9, m9, c9, hj9, hre, hb9, hok9⟩
              rw [HVD.out] at hre hok9
              subst hre
              have hm9 := HINw5.out.keep hb9
              have HOK := Lib.hid hok9
              have HR9 := Lib.hid hm9.r
              clear hb9 hok9 HTOLD p0 p1 p2 p3 x0 x1 x2 x3 x4
              obtain ⟨q0, q1, q2, q3⟩ := hm9.r.cells
              have g0 := hm9.r.frozen 0
              have g1 := hm9.r.frozen 1
              have g2 := hm9.r.frozen 2
              have g3 := hm9.r.frozen 3
              have HBZ := Lib.hid hm9.b
              clear hm9
              try unfold stV
              go_wp2
              refine bodyPost_ret (v := stV s j9 (.slice a9 m9 c9) A.1) (by simp [results, Tryd.results42, go_sem, q0, q1, q2, q3, stV]) rfl ?_
              exact ⟨j9, a9, m9, c9, hj9, rfl, below_put HBZ.out (by omega) _ _ _ _, fun h => ⟨(HOK.out h).1, ((HOK.out h).2.mono hbz5).put HR9.out _ _ _ _⟩⟩
            · have z45 : ((s[j].toNat : Int) == 45) = false := by rw [beq_eq_false_iff_ne]; omega
              have y1 : (48 : Int) ≤ (s[j].toNat : Int) := by omega
              have y2 : (s[j].toNat : Int) ≤ 57 := by omega
              clear hnn e45
              obtain ⟨x0, x1, x2, x3, x4⟩ := HINw5.out.x.cells
              have hI5 := HI.out.keep HINw5.out.b
              have HTOLD := Lib.hid (rrnumber_any s j ao m cap l w5 hI5 hj hs hlz d key)
              have hbz5 := HINw5.out.b.size
              clear hI5
              go_wp2_with fail
              refine HTOLD.out.mono ?_
              rintro rr w9 ⟨j9, a9, m9, c9, hj9, hre, hb9, hok9⟩
              rw [HVD.out] at hre hok9
              subst hre
              have hm9 := HINw5.out.keep hb9
              have HOK := Lib.hid hok9
              have HR9 := Lib.hid hm9.r
              clear hb9 hok9 HTOLD p0 p1 p2 p3 x0 x1 x2 x3 x4
              obtain ⟨q0, q1, q2, q3⟩ := hm9.r.cells
              have g0 := hm9.r.frozen 0
              have g1 := hm9.r.frozen 1
              have g2 := hm9.r.frozen 2
              have g3 := hm9.r.frozen 3
              have HBZ := Lib.hid hm9.b
              clear hm9
              try unfold stV
              go_wp2
              refine bodyPost_ret (v := stV s j9 (.slice a9 m9 c9) A.1) (by simp [results, Tryd.results42, go_sem, q0, q1, q2, q3, stV]) rfl ?_
              exact ⟨j9, a9, m9, c9, hj9, rfl, below_put HBZ.out (by omega) _ _ _ _, fun h => ⟨(HOK.out h).1, ((HOK.out h).2.mono hbz5).put HR9.out _ _ _ _⟩⟩
          · have HVD : Hid (wordF d key.data.toList (restB s j) = A) := by
              show _ = _
              rw [HVC.out, if_neg hnh]
            have hnn : ¬ (s[j].toNat = 45 ∨ (48 ≤ s[j].toNat ∧ s[j].toNat ≤ 57)) := fun h => hnh (by unfold numH; simpa using h)
            have z45 : ((s[j].toNat : Int) == 45) = false := by rw [beq_eq_false_iff_ne]; omega
            clear HVC hnh
            by_cases e48 : 48 ≤ s[j].toNat
            · have y1 : (48 : Int) ≤ (s[j].toNat : Int) := by omega
              have y2 : ¬ (s[j].toNat : Int) ≤ 57 := by omega
              clear hnn e48
              obtain ⟨x0, x1, x2, x3, x4⟩ := HINw5.out.x.cells
              have hI5 := HI.out.keep HINw5.out.b
              have HTOLD := Lib.hid (rrword_any s j ao m cap l w5 hI5 hj hs hlz d key)
              have hbz5 := HINw5.out.b.size
              clear hI5
              go_wp2_with fail
              refine HTOLD.out.mono ?_
              rintro rr w9 ⟨j9, a9, m9, c9, hj9, hre, hb9, hok9⟩
              rw [HVD.out] at hre hok9
              subst hre
              have hm9 := HINw5.out.keep hb9
              have HOK := Lib.hid hok9
              have HR9 := Lib.hid hm9.r
              clear hb9 hok9 HTOLD p0 p1 p2 p3 x0 x1 x2 x3 x4
              obtain ⟨q0, q1, q2, q3⟩ := hm9.r.cells
              have g0 := hm9.r.frozen 0
              have g1 := hm9.r.frozen 1
              have g2 := hm9.r.frozen 2
              have g3 := hm9.r.frozen 3
              have HBZ := Lib.hid hm9.b
              clear hm9
              try unfold stV
              go_wp2
              refine bodyPost_ret (v := stV s j9 (.slice a9 m9 c9) A.1) (by simp [results, Tryd.results42, go_sem, q0, q1, q2, q3, stV]) rfl ?_
              exact ⟨j9, a9, m9, c9, hj9, rfl, below_put HBZ.out (by omega) _ _ _ _, fun h => ⟨(HOK.out h).1, ((HOK.out h).2.mono hbz5).put HR9.out _ _ _ _⟩⟩
            · have y1 : ¬ (48 : Int) ≤ (s[j].toNat : Int) := by omega
              clear hnn e48
              obtain ⟨x0, x1, x2, x3, x4⟩ := HINw5.out.x.cells
              have hI5 := HI.out.keep HINw5.out.b
              have HTOLD := Lib.hid (rrword_any s j ao m cap l w5 hI5 hj hs hlz d key)
              have hbz5 := HINw5.out.b.size
              clear hI5
              go_wp2_with fail
              refine HTOLD.out.mono ?_
              rintro rr w9 ⟨j9, a9, m9, c9, hj9, hre, hb9, hok9⟩
              rw [HVD.out] at hre hok9
              subst hre
              have hm9 := HINw5.out.keep hb9
              have HOK := Lib.hid hok9
              have HR9 := Lib.hid hm9.r
              clear hb9 hok9 HTOLD p0 p1 p2 p3 x0 x1 x2 x3 x4
              obtain ⟨q0, q1, q2, q3⟩ := hm9.r.cells
              have g0 := hm9.r.frozen 0
              have g1 := hm9.r.frozen 1
              have g2 := hm9.r.frozen 2
              have g3 := hm9.r.frozen 3
              have HBZ := Lib.hid hm9.b
              clear hm9
              try unfold stV
              go_wp2
              refine bodyPost_ret (v := stV s j9 (.slice a9 m9 c9) A.1) (by simp [results, Tryd.results42, go_sem, q0, q1, q2, q3, stV]) rfl ?_
              exact ⟨j9, a9, m9, c9, hj9, rfl, below_put HBZ.out (by omega) _ _ _ _, fun h => ⟨(HOK.out h).1, ((HOK.out h).2.mono hbz5).put HR9.out _ _ _ _⟩⟩
        · have HVD : Hid (wordF d key.data.toList (restB s j) = A) := by
            show _ = _
            rw [← HA.out, value_nil readD f d key.data.toList (restB s k) (by rw [← HRJ.out, restB_nil s j hlt]), restB_nil s j hlt]
            rfl
          clear h91 h123 h34
          obtain ⟨x0, x1, x2, x3, x4⟩ := HINw5.out.x.cells
          have hI5 := HI.out.keep HINw5.out.b
          have HTOLD := Lib.hid (rrword_any s j ao m cap l w5 hI5 hj hs hlz d key)
          have hbz5 := HINw5.out.b.size
          clear hI5
          go_wp2_with fail
          refine HTOLD.out.mono ?_
          rintro rr w9 ⟨j9, a9, m9, c9, hj9, hre, hb9, hok9⟩
          rw [HVD.out] at hre hok9
          subst hre
          have hm9 := HINw5.out.keep hb9
          have HOK := Lib.hid hok9
          have HR9 := Lib.hid hm9.r
          clear hb9 hok9 HTOLD p0 p1 p2 p3 x0 x1 x2 x3 x4
          obtain ⟨q0, q1, q2, q3⟩ := hm9.r.cells
          have g0 := hm9.r.frozen 0
          have g1 := hm9.r.frozen 1
          have g2 := hm9.r.frozen 2
          have g3 := hm9.r.frozen 3
          have HBZ := Lib.hid hm9.b
          clear hm9
          try unfold stV
          go_wp2
          refine bodyPost_ret (v := stV s j9 (.slice a9 m9 c9) A.1) (by simp [results, Tryd.results42, go_sem, q0, q1, q2, q3, stV]) rfl ?_
          exact ⟨j9, a9, m9, c9, hj9, rfl, below_put HBZ.out (by omega) _ _ _ _, fun h => ⟨(HOK.out h).1, ((HOK.out h).2.mono hbz5).put HR9.out _ _ _ _⟩⟩
end Go.Proofs.YtmnigdcgdebgoaaDoor
