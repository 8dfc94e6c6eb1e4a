/-
  The document's own reader of json: number.
-/
import Derived.Test.YtmnigdcgdebgoaaDoorJsonRefD
import Derived.Deep.DeepCutAuto
namespace Go.Proofs.YtmnigdcgdebgoaaDoor
open Go.RowKit
set_option linter.unusedVariables false

def RNumW (s : ByteArray) (k : Nat) (W : World) (n : Nat) (v5 : Value) (wr : World) : Prop :=
  ∃ j : Nat, k ≤ j ∧ j ≤ s.size ∧ s.size - j = n ∧ v5 = .int .i64 (j : Int) ∧ (restB s k).dropWhile numC = (restB s j).dropWhile numC ∧ W = wr

theorem numC_nat (c : UInt8) (b : Bool) (h : numC c = b) : (b = true ↔ ((48 ≤ c.toNat ∧ c.toNat ≤ 57) ∨ c.toNat = 43 ∨ c.toNat = 45 ∨ c.toNat = 46 ∨ c.toNat = 69 ∨ c.toNat = 101)) := by
  subst h
  unfold numC
  simp
  omega
-- WALKS
set_option maxRecDepth 100000 in
set_option maxHeartbeats 12800000 in
theorem rrnumber_any (s : ByteArray) (k : Nat) (ao : Option Addr) (m cap : Nat) (l : List It) (w : World) (hI : ItsAt w (.slice ao m cap) l) (hk : k ≤ s.size) (hs : s.size ≤ 1000000) (hl : l.length ≤ 1000000) (d : Nat) (key : ByteArray) :
    Calls Tryd.prog 65 #[stV s k (.slice ao m cap) 0, itA d 0 key ByteArray.empty 0] w fun r w' => RTells s w.heap.size l w (numF readD d key.data.toList (restB s k)) r w' := by
  obtain ⟨A, hA⟩ : ∃ A, numF readD d key.data.toList (restB s k) = A := ⟨_, rfl⟩
  rw [hA]
  obtain ⟨W, hW⟩ : ∃ W, ((w.alloc (.cells #[.string s, .int .i64 (k : Int), .slice ao m cap, .int .i64 0] 76)).alloc (.cells #[.int .i64 (d : Int), .int .i64 0, .string key, .string ByteArray.empty, .int .i64 0] 46)).alloc (.cells #[.string ⟨#[]⟩, .int .i64 0, .slice none 0 0, .int .i64 0] 76) = W := ⟨_, rfl⟩
  have hbw : Below w.heap.size w W := by
    rw [← hW]
    exact (((Below.refl _ _).alloc (Nat.le_refl _) _).alloc (by simp) _).alloc (by simp; omega) _
  have hS : BoxS W w.heap.size (.string s) (.int .i64 (k : Int)) (.slice ao m cap) (.int .i64 0) := by
    rw [← hW]
    exact (BoxS.new w _ _ _ _).keep (((Below.refl _ _).alloc (Nat.le_refl _) _).alloc (by simp) _)
  have hX : BoxR W (w.heap.size + 1) (.int .i64 (d : Int)) (.int .i64 0) (.string key) (.string ByteArray.empty) (.int .i64 0) := by
    rw [← hW]
    have e := BoxR.new (w.alloc (.cells #[.string s, .int .i64 (k : Int), .slice ao m cap, .int .i64 0] 76)) (.int .i64 (d : Int)) (.int .i64 0) (.string key) (.string ByteArray.empty) (.int .i64 0)
    rw [show (w.alloc (.cells #[.string s, .int .i64 (k : Int), .slice ao m cap, .int .i64 0] 76)).heap.size = w.heap.size + 1 by simp] at e
    exact e.keep ((Below.refl _ _).alloc (Nat.le_refl _) _)
  have hR : BoxS W (w.heap.size + 1 + 1) (.string ⟨#[]⟩) (.int .i64 0) (.slice none 0 0) (.int .i64 0) := by
    rw [← hW]
    have e := BoxS.new ((w.alloc (.cells #[.string s, .int .i64 (k : Int), .slice ao m cap, .int .i64 0] 76)).alloc (.cells #[.int .i64 (d : Int), .int .i64 0, .string key, .string ByteArray.empty, .int .i64 0] 46)) (.string ⟨#[]⟩) (.int .i64 0) (.slice none 0 0) (.int .i64 0)
    rw [show ((w.alloc (.cells #[.string s, .int .i64 (k : Int), .slice ao m cap, .int .i64 0] 76)).alloc (.cells #[.int .i64 (d : Int), .int .i64 0, .string key, .string ByteArray.empty, .int .i64 0] 46)).heap.size = w.heap.size + 1 + 1 by simp] at e
    exact e
  have HA := Lib.hid hA
  have HST : Hid (RNumW s k W (s.size - k) (.int .i64 (k : Int)) W) := ⟨k, Nat.le_refl _, hk, rfl, rfl, rfl, rfl⟩
  have HI := Lib.hid hI
  have HBW := Lib.hid hbw
  have HS := Lib.hid hS
  have HX := Lib.hid hX
  have HR := Lib.hid hR
  have HWW := Lib.hid hW
  clear hA hI hbw hS hX hR hW
  unfold stV itA
  go_enter Tryd.func65, Tryd.ntmps65
  go_wp2
  rw [show ((0 : Nat) : Int) = 0 from rfl, HWW.out]
  go_loopg [5] (s.size - k) (fun n v5 wr => RNumW s k W n v5 wr)
  case atStart => exact HST.out
  case round =>
    obtain ⟨j, hkj, hj, hjn, rfl, hdr, rfl⟩ := hrel
    obtain ⟨p0, p1, p2, p3⟩ := HS.out.cells
    have HDR := Lib.hid hdr
    clear hdr HST
    by_cases hb : ∃ h : j < s.size, numC s[j] = true
    · obtain ⟨hlt, hnc⟩ := hb
      have hcn := (numC_nat _ _ hnc).1 rfl
      have more : ∀ i : Int, i = (j : Int) + 1 → RNumW s k W (gk - 1) (.int .i64 i) W := by
        intro i hi
        subst hi
        refine ⟨j + 1, by omega, by omega, by omega, by go_num, ?_, rfl⟩
        rw [HDR.out, restB_cons s j hlt, List.dropWhile_cons_of_pos hnc]
      have HMO := Lib.hid more
      clear more hnc HDR
      by_cases h48 : 48 ≤ s[j].toNat
      · have y1 : (48 : Int) ≤ (s[j].toNat : Int) := by omega
        by_cases h57 : s[j].toNat ≤ 57
        · have y2 : (s[j].toNat : Int) ≤ 57 := by omega
          clear hcn h48 h57
          go_wp2
          go_roundg (gk - 1)
          case measure => omega
          case rel => exact HMO.out _ rfl
        · have y2 : ¬ (s[j].toNat : Int) ≤ 57 := by omega
          by_cases e43 : s[j].toNat = 43
          · have z43 : ((s[j].toNat : Int) == 43) = true := by rw [beq_iff_eq]; omega
            clear hcn h48 e43
            go_wp2
            go_roundg (gk - 1)
            case measure => omega
            case rel => exact HMO.out _ rfl
          · have z43 : ((s[j].toNat : Int) == 43) = false := by rw [beq_eq_false_iff_ne]; omega
            by_cases e45 : s[j].toNat = 45
            · have z45 : ((s[j].toNat : Int) == 45) = true := by rw [beq_iff_eq]; omega
              clear hcn h48 e45
              go_wp2
              go_roundg (gk - 1)
              case measure => omega
              case rel => exact HMO.out _ rfl
            · have z45 : ((s[j].toNat : Int) == 45) = false := by rw [beq_eq_false_iff_ne]; omega
              by_cases e46 : s[j].toNat = 46
              · have z46 : ((s[j].toNat : Int) == 46) = true := by rw [beq_iff_eq]; omega
                clear hcn h48 e46
                go_wp2
                go_roundg (gk - 1)
                case measure => omega
                case rel => exact HMO.out _ rfl
              · have z46 : ((s[j].toNat : Int) == 46) = false := by rw [beq_eq_false_iff_ne]; omega
                by_cases e69 : s[j].toNat = 69
                · have z69 : ((s[j].toNat : Int) == 69) = true := by rw [beq_iff_eq]; omega
                  clear hcn h48 e69
                  go_wp2
                  go_roundg (gk - 1)
                  case measure => omega
                  case rel => exact HMO.out _ rfl
                · have z69 : ((s[j].toNat : Int) == 69) = false := by rw [beq_eq_false_iff_ne]; omega
                  by_cases e101 : s[j].toNat = 101
                  · have z101 : ((s[j].toNat : Int) == 101) = true := by rw [beq_iff_eq]; omega
                    clear hcn h48 e101
                    go_wp2
                    go_roundg (gk - 1)
                    case measure => omega
                    case rel => exact HMO.out _ rfl
                  · exfalso
                    omega
      · have y1 : ¬ (48 : Int) ≤ (s[j].toNat : Int) := by omega
        by_cases e43 : s[j].toNat = 43
        · have z43 : ((s[j].toNat : Int) == 43) = true := by rw [beq_iff_eq]; omega
          clear hcn h48 e43
          go_wp2
          go_roundg (gk - 1)
          case measure => omega
          case rel => exact HMO.out _ rfl
        · have z43 : ((s[j].toNat : Int) == 43) = false := by rw [beq_eq_false_iff_ne]; omega
          by_cases e45 : s[j].toNat = 45
          · have z45 : ((s[j].toNat : Int) == 45) = true := by rw [beq_iff_eq]; omega
            clear hcn h48 e45
            go_wp2
            go_roundg (gk - 1)
            case measure => omega
            case rel => exact HMO.out _ rfl
          · have z45 : ((s[j].toNat : Int) == 45) = false := by rw [beq_eq_false_iff_ne]; omega
            by_cases e46 : s[j].toNat = 46
            · have z46 : ((s[j].toNat : Int) == 46) = true := by rw [beq_iff_eq]; omega
              clear hcn h48 e46
              go_wp2
              go_roundg (gk - 1)
              case measure => omega
              case rel => exact HMO.out _ rfl
            · have z46 : ((s[j].toNat : Int) == 46) = false := by rw [beq_eq_false_iff_ne]; omega
              by_cases e69 : s[j].toNat = 69
              · have z69 : ((s[j].toNat : Int) == 69) = true := by rw [beq_iff_eq]; omega
                clear hcn h48 e69
                go_wp2
                go_roundg (gk - 1)
                case measure => omega
                case rel => exact HMO.out _ rfl
              · have z69 : ((s[j].toNat : Int) == 69) = false := by rw [beq_eq_false_iff_ne]; omega
                by_cases e101 : s[j].toNat = 101
                · have z101 : ((s[j].toNat : Int) == 101) = true := by rw [beq_iff_eq]; omega
                  clear hcn h48 e101
                  go_wp2
                  go_roundg (gk - 1)
                  case measure => omega
                  case rel => exact HMO.out _ rfl
                · exfalso
                  omega
    · have HDW : Hid ((restB s k).dropWhile numC = restB s j) := by
        show _ = _
        rw [HDR.out]
        by_cases hlt : j < s.size
        · have hnc : ¬ numC s[j] = true := fun h => hb ⟨hlt, h⟩
          rw [restB_cons s j hlt, List.dropWhile_cons_of_neg hnc]
        · rw [restB_nil s j hlt]
          rfl
      by_cases hlt : j < s.size
      · have hnc : numC s[j] = false := by
          cases h : numC s[j] with
          | false => rfl
          | true => exact absurd ⟨hlt, h⟩ hb
        have hcn0 := numC_nat _ _ hnc
        have hcn : ¬ ((48 ≤ s[j].toNat ∧ s[j].toNat ≤ 57) ∨ s[j].toNat = 43 ∨ s[j].toNat = 45 ∨ s[j].toNat = 46 ∨ s[j].toNat = 69 ∨ s[j].toNat = 101) := fun h => by cases (hcn0.2 h)
        clear hcn0
        have z43 : ((s[j].toNat : Int) == 43) = false := by rw [beq_eq_false_iff_ne]; omega
        have z45 : ((s[j].toNat : Int) == 45) = false := by rw [beq_eq_false_iff_ne]; omega
        have z46 : ((s[j].toNat : Int) == 46) = false := by rw [beq_eq_false_iff_ne]; omega
        have z69 : ((s[j].toNat : Int) == 69) = false := by rw [beq_eq_false_iff_ne]; omega
        have z101 : ((s[j].toNat : Int) == 101) = false := by rw [beq_eq_false_iff_ne]; omega
        by_cases h48 : 48 ≤ s[j].toNat
        · have y1 : (48 : Int) ≤ (s[j].toNat : Int) := by omega
          have y2 : ¬ (s[j].toNat : Int) ≤ 57 := by omega
          clear hcn hnc hb h48
          clear HDR
          have HBO := Lib.hid (body_between s k j hkj hj HDW.out)
          obtain ⟨body, hbody⟩ : ∃ b, s.extract k j = b := ⟨_, rfl⟩
          rw [hbody] at HBO
          have hbz : body.size ≤ 1000000 := by
            rw [← hbody, ByteArray.size_extract]
            omega
          have HBY := Lib.hid hbody
          have hkj' : (k : Int) ≤ (j : Int) := by omega
          have hjs' : (j : Int) ≤ (s.size : Int) := by omega
          have hdr2 := rdread_any body W hbz
          clear hbody
          have HD2 := Lib.hid hdr2
          clear hdr2
          go_wp2_with fail
          rw [HBY.out]
          have hdr2 := HD2.out
          clear HD2
          cases hRd : readD body.data.toList with
          | none =>
            rw [hRd] at hdr2
            have HD2 := Lib.hid hdr2
            have HA2 : Hid (A = (83, [], [])) := by
              show _ = _
              rw [← HA.out]
              unfold numF
              rw [← HBO.out, hRd]
            clear hdr2 hRd HA p0 p1 p2 p3
            refine HD2.out.mono ?_
            rintro _ w1 ⟨rfl, hb1⟩
            obtain ⟨p0, p1, p2, p3⟩ := (HS.out.keep hb1).cells
            have HR1 := Lib.hid (HR.out.keep hb1)
            have HB1 := Lib.hid (chain HBW.out hb1)
            clear hb1 HD2
            go_wp2_with fail
            refine (ramiss_any s k ao m cap 0 83 _).mono ?_
            rintro _ w2 ⟨rfl, hb2⟩
            obtain ⟨q0, q1, q2, q3⟩ := (HR1.out.keep hb2).cells
            have g0 := (HR1.out.keep hb2).frozen 0
            have g1 := (HR1.out.keep hb2).frozen 1
            have g2 := (HR1.out.keep hb2).frozen 2
            have g3 := (HR1.out.keep hb2).frozen 3
            have HB2 := Lib.hid (chain HB1.out hb2)
            clear hb2
            unfold stV
            go_wp2
            refine bodyPost_ret (v := stV s k (.slice ao m cap) 83) (by simp [results, Tryd.results65, go_sem, q0, q1, q2, q3, stV]) rfl ?_
            rw [HA2.out]
            exact ⟨k, ao, m, cap, hk, rfl, ((((HB2.out.setCell (p := ⟨w.heap.size + 1 + 1, 0, none⟩) (by show _ ≤ w.heap.size + 1 + 1; omega) _).setCell (p := ⟨w.heap.size + 1 + 1, 1, none⟩) (by show _ ≤ w.heap.size + 1 + 1; omega) _).setCell (p := ⟨w.heap.size + 1 + 1, 2, none⟩) (by show _ ≤ w.heap.size + 1 + 1; omega) _).setCell (p := ⟨w.heap.size + 1 + 1, 3, none⟩) (by show _ ≤ w.heap.size + 1 + 1; omega) _), fun h => by cases h⟩
          | some n =>
            rw [hRd] at hdr2
            have HD2 := Lib.hid hdr2
            have HA2 : Hid (A = (0, [⟨d, 4, key.data.toList, [], n⟩], restB s j)) := by
              show _ = _
              rw [← HA.out]
              unfold numF
              rw [← HBO.out, hRd, HDW.out]
            clear hdr2 hRd HA p0 p1 p2 p3
            refine HD2.out.mono ?_
            rintro _ w1 ⟨rfl, hb1⟩
            have hS1 := HS.out.keep hb1
            have hX1 := HX.out.keep hb1
            have HR1 := Lib.hid (HR.out.keep hb1)
            have HB1 := Lib.hid (chain HBW.out hb1)
            obtain ⟨p0, p1, p2, p3⟩ := hS1.cells
            obtain ⟨x0, x1, x2, x3, x4⟩ := hX1.cells
            have f1 := hS1.frozen 1
            have h1 := hX1.frozen 1
            have h4 := hX1.frozen 4
            have HS1 := Lib.hid hS1
            have HX1 := Lib.hid hX1
            clear hb1 HD2 hS1 hX1
            go_wp2_with fail
            obtain ⟨W2, hW2⟩ : ∃ W2, ((w1.setCell ⟨w.heap.size, 1, none⟩ (.int .i64 (j : Int))).setCell ⟨w.heap.size + 1, 1, none⟩ (.int .i64 4)).setCell ⟨w.heap.size + 1, 4, none⟩ (.int .i64 n) = W2 := ⟨_, rfl⟩
            rw [hW2]
            have hS2 : BoxS W2 w.heap.size (.string s) (.int .i64 (j : Int)) (.slice ao m cap) (.int .i64 ((0 : Nat) : Int)) := by
              rw [← hW2]
              exact (((HS1.out.set _).2.1).other _ _ (by show w.heap.size + 1 ≠ w.heap.size; omega)).other _ _ (by show w.heap.size + 1 ≠ w.heap.size; omega)
            have hX2 : BoxR W2 (w.heap.size + 1) (.int .i64 (d : Int)) (.int .i64 4) (.string key) (.string ByteArray.empty) (.int .i64 n) := by
              rw [← hW2]
              exact ((((HX1.out.other _ _ (by show w.heap.size ≠ w.heap.size + 1; omega)).set _).1).set _).2.2.2
            have hR2 : BoxS W2 (w.heap.size + 1 + 1) (.string ⟨#[]⟩) (.int .i64 0) (.slice none 0 0) (.int .i64 0) := by
              rw [← hW2]
              exact ((HR1.out.other _ _ (by show w.heap.size ≠ w.heap.size + 1 + 1; omega)).other _ _ (by show w.heap.size + 1 ≠ w.heap.size + 1 + 1; omega)).other _ _ (by show w.heap.size + 1 ≠ w.heap.size + 1 + 1; omega)
            have hB2 : Below w.heap.size w W2 := by
              rw [← hW2]
              exact ((HB1.out.setCell (p := ⟨w.heap.size, 1, none⟩) (Nat.le_refl _) _).setCell (p := ⟨w.heap.size + 1, 1, none⟩) (by show _ ≤ w.heap.size + 1; omega) _).setCell (p := ⟨w.heap.size + 1, 4, none⟩) (by show _ ≤ w.heap.size + 1; omega) _
            clear hW2 p0 p1 p2 p3 x0 x1 x2 x3 x4 f1 h1 h4 HS1 HX1 HR1 HB1
            obtain ⟨p0, p1, p2, p3⟩ := hS2.cells
            obtain ⟨x0, x1, x2, x3, x4⟩ := hX2.cells
            have f2 := hS2.frozen 2
            have ls := hS2.lt
            have lx := hX2.lt
            have HI2 := Lib.hid (HI.out.keep hB2)
            have HR2 := Lib.hid hR2
            have HB2 := Lib.hid hB2
            have hsz2 := hB2.size
            have HS2 := Lib.hid hS2
            have HX2 := Lib.hid hX2
            clear hR2 hB2 hS2 hX2
            have HP1 := Lib.hid (push_one W2 HI2.out hl (d : Int) 4 n key ByteArray.empty)
            have HP2 := Lib.hid (push_two W2 HI2.out hl (d : Int) 4 n key ByteArray.empty)
            have HP3 := Lib.hid (push_three W2 HI2.out hl (d : Int) 4 n key ByteArray.empty)
            go_cut [] (fun wx => RowPut W2 w.heap.size s j 0 (l ++ [⟨d, 4, key.data.toList, [], n⟩]) wx)
            case first =>
              go_region_law (first
                | ((with_reducible refine step_append_ex ?_ ?_ ?_ 22 ?_ ?_ ?_ _ HP1.out ?_); (rotate_left 3; rfl); rfl; rfl; (rotate_left; rfl); rintro _ w5 ⟨⟨ao5, m5, c5, rfl⟩, hb5, hfut⟩; obtain ⟨y0, y1, y2, y3, y4⟩ := (HX2.out.keep hb5).cells; have HFU := Lib.hid hfut; clear hfut hb5)
                | ((with_reducible refine step_append_ex ?_ ?_ ?_ 22 ?_ ?_ ?_ _ HP2.out ?_); (rotate_left 3; rfl); rfl; rfl; (rotate_left; rfl); rintro _ w5 ⟨⟨ao5, m5, c5, rfl⟩, hb5, hfut⟩; obtain ⟨y0, y1, y2, y3, y4⟩ := (HX2.out.keep hb5).cells; have HFU := Lib.hid hfut; clear hfut hb5)
                | ((with_reducible refine step_append_ex ?_ ?_ ?_ 22 ?_ ?_ ?_ _ HP3.out ?_); (rotate_left 3; rfl); rfl; rfl; (rotate_left; rfl); rintro _ w5 ⟨⟨ao5, m5, c5, rfl⟩, hb5, hfut⟩; obtain ⟨y0, y1, y2, y3, y4⟩ := (HX2.out.keep hb5).cells; have HFU := Lib.hid hfut; clear hfut hb5)
                | (refine step_append_ex (by rfl) _ _ 22 (by rfl) (by rfl) (by rfl) _ HFU.out ?_; rintro _ w6 ⟨hI6, hb6, ⟨ao6, m6, c6, rfl⟩, hset⟩; obtain ⟨u0, u1, u2, u3⟩ := (HS2.out.keep hb6).cells; have v2 := (HS2.out.keep hb6).frozen 2; have HB6 := Lib.hid hb6; have HSET := Lib.hid hset; clear hI6 hb6 hset))
              all_goals (try go_wp2_with fail)
              all_goals
                go_meet
                exact RowPut.mk HS2.out HB6.out HSET.out
            case rest =>
              have HPUT := Lib.hid hcut
              clear hcut HP1 HP2 HP3 p0 p1 p2 p3 x0 x1 x2 x3 x4 f2
              obtain ⟨ao7, m7, c7, hS7, hI7, _⟩ := HPUT.out
              have hR7 := HPUT.out.box HR2.out (by omega)
              have HB2' := Lib.hid (HPUT.out.below HB2.out (Nat.le_refl _))
              have HI7 := Lib.hid hI7
              have HR7 := Lib.hid hR7
              have HRL := Lib.hid HR2.out.lt
              obtain ⟨p0, p1, p2, p3⟩ := hS7.cells
              obtain ⟨q0, q1, q2, q3⟩ := hR7.cells
              have g0 := hR7.frozen 0
              have g1 := hR7.frozen 1
              have g2 := hR7.frozen 2
              have g3 := hR7.frozen 3
              clear hS7 hI7 hR7 HPUT HB2 HR2 HS2 HX2 HI2
              have HB2 := Lib.hid HB2'.out
              clear HB2'
              go_wp2
              refine bodyPost_ret (v := stV s j (.slice ao7 m7 c7) 0) (by simp [results, Tryd.results65, go_sem, q0, q1, q2, q3, stV]) rfl ?_
              rw [HA2.out]
              exact ⟨j, ao7, m7, c7, hj, rfl, ((((HB2.out.setCell (p := ⟨w.heap.size + 1 + 1, 0, none⟩) (by show _ ≤ w.heap.size + 1 + 1; omega) _).setCell (p := ⟨w.heap.size + 1 + 1, 1, none⟩) (by show _ ≤ w.heap.size + 1 + 1; omega) _).setCell (p := ⟨w.heap.size + 1 + 1, 2, none⟩) (by show _ ≤ w.heap.size + 1 + 1; omega) _).setCell (p := ⟨w.heap.size + 1 + 1, 3, none⟩) (by show _ ≤ w.heap.size + 1 + 1; omega) _), fun _ => ⟨rfl, ((((HI7.out.set ⟨w.heap.size + 1 + 1, 0, none⟩ _ HRL.out).set ⟨w.heap.size + 1 + 1, 1, none⟩ _ HRL.out).set ⟨w.heap.size + 1 + 1, 2, none⟩ _ HRL.out).set ⟨w.heap.size + 1 + 1, 3, none⟩ _ HRL.out).mono hsz2⟩⟩
        · have y1 : ¬ (48 : Int) ≤ (s[j].toNat : Int) := by omega
          clear hcn hnc hb h48
          clear HDR
          have HBO := Lib.hid (body_between s k j hkj hj HDW.out)
          obtain ⟨body, hbody⟩ : ∃ b, s.extract k j = b := ⟨_, rfl⟩
          rw [hbody] at HBO
          have hbz : body.size ≤ 1000000 := by
            rw [← hbody, ByteArray.size_extract]
            omega
          have HBY := Lib.hid hbody
          have hkj' : (k : Int) ≤ (j : Int) := by omega
          have hjs' : (j : Int) ≤ (s.size : Int) := by omega
          have hdr2 := rdread_any body W hbz
          clear hbody
          have HD2 := Lib.hid hdr2
          clear hdr2
          go_wp2_with fail
          rw [HBY.out]
          have hdr2 := HD2.out
          clear HD2
          cases hRd : readD body.data.toList with
          | none =>
            rw [hRd] at hdr2
            have HD2 := Lib.hid hdr2
            have HA2 : Hid (A = (83, [], [])) := by
              show _ = _
              rw [← HA.out]
              unfold numF
              rw [← HBO.out, hRd]
            clear hdr2 hRd HA p0 p1 p2 p3
            refine HD2.out.mono ?_
            rintro _ w1 ⟨rfl, hb1⟩
            obtain ⟨p0, p1, p2, p3⟩ := (HS.out.keep hb1).cells
            have HR1 := Lib.hid (HR.out.keep hb1)
            have HB1 := Lib.hid (chain HBW.out hb1)
            clear hb1 HD2
            go_wp2_with fail
            refine (ramiss_any s k ao m cap 0 83 _).mono ?_
            rintro _ w2 ⟨rfl, hb2⟩
            obtain ⟨q0, q1, q2, q3⟩ := (HR1.out.keep hb2).cells
            have g0 := (HR1.out.keep hb2).frozen 0
            have g1 := (HR1.out.keep hb2).frozen 1
            have g2 := (HR1.out.keep hb2).frozen 2
            have g3 := (HR1.out.keep hb2).frozen 3
            have HB2 := Lib.hid (chain HB1.out hb2)
            clear hb2
            unfold stV
            go_wp2
            refine bodyPost_ret (v := stV s k (.slice ao m cap) 83) (by simp [results, Tryd.results65, go_sem, q0, q1, q2, q3, stV]) rfl ?_
            rw [HA2.out]
            exact ⟨k, ao, m, cap, hk, rfl, ((((HB2.out.setCell (p := ⟨w.heap.size + 1 + 1, 0, none⟩) (by show _ ≤ w.heap.size + 1 + 1; omega) _).setCell (p := ⟨w.heap.size + 1 + 1, 1, none⟩) (by show _ ≤ w.heap.size + 1 + 1; omega) _).setCell (p := ⟨w.heap.size + 1 + 1, 2, none⟩) (by show _ ≤ w.heap.size + 1 + 1; omega) _).setCell (p := ⟨w.heap.size + 1 + 1, 3, none⟩) (by show _ ≤ w.heap.size + 1 + 1; omega) _), fun h => by cases h⟩
          | some n =>
            rw [hRd] at hdr2
            have HD2 := Lib.hid hdr2
            have HA2 : Hid (A = (0, [⟨d, 4, key.data.toList, [], n⟩], restB s j)) := by
              show _ = _
              rw [← HA.out]
              unfold numF
              rw [← HBO.out, hRd, HDW.out]
            clear hdr2 hRd HA p0 p1 p2 p3
            refine HD2.out.mono ?_
            rintro _ w1 ⟨rfl, hb1⟩
            have hS1 := HS.out.keep hb1
            have hX1 := HX.out.keep hb1
            have HR1 := Lib.hid (HR.out.keep hb1)
            have HB1 := Lib.hid (chain HBW.out hb1)
            obtain ⟨p0, p1, p2, p3⟩ := hS1.cells
            obtain ⟨x0, x1, x2, x3, x4⟩ := hX1.cells
            have f1 := hS1.frozen 1
            have h1 := hX1.frozen 1
            have h4 := hX1.frozen 4
            have HS1 := Lib.hid hS1
            have HX1 := Lib.hid hX1
            clear hb1 HD2 hS1 hX1
            go_wp2_with fail
            obtain ⟨W2, hW2⟩ : ∃ W2, ((w1.setCell ⟨w.heap.size, 1, none⟩ (.int .i64 (j : Int))).setCell ⟨w.heap.size + 1, 1, none⟩ (.int .i64 4)).setCell ⟨w.heap.size + 1, 4, none⟩ (.int .i64 n) = W2 := ⟨_, rfl⟩
            rw [hW2]
            have hS2 : BoxS W2 w.heap.size (.string s) (.int .i64 (j : Int)) (.slice ao m cap) (.int .i64 ((0 : Nat) : Int)) := by
              rw [← hW2]
              exact (((HS1.out.set _).2.1).other _ _ (by show w.heap.size + 1 ≠ w.heap.size; omega)).other _ _ (by show w.heap.size + 1 ≠ w.heap.size; omega)
            have hX2 : BoxR W2 (w.heap.size + 1) (.int .i64 (d : Int)) (.int .i64 4) (.string key) (.string ByteArray.empty) (.int .i64 n) := by
              rw [← hW2]
              exact ((((HX1.out.other _ _ (by show w.heap.size ≠ w.heap.size + 1; omega)).set _).1).set _).2.2.2
            have hR2 : BoxS W2 (w.heap.size + 1 + 1) (.string ⟨#[]⟩) (.int .i64 0) (.slice none 0 0) (.int .i64 0) := by
              rw [← hW2]
              exact ((HR1.out.other _ _ (by show w.heap.size ≠ w.heap.size + 1 + 1; omega)).other _ _ (by show w.heap.size + 1 ≠ w.heap.size + 1 + 1; omega)).other _ _ (by show w.heap.size + 1 ≠ w.heap.size + 1 + 1; omega)
            have hB2 : Below w.heap.size w W2 := by
              rw [← hW2]
              exact ((HB1.out.setCell (p := ⟨w.heap.size, 1, none⟩) (Nat.le_refl _) _).setCell (p := ⟨w.heap.size + 1, 1, none⟩) (by show _ ≤ w.heap.size + 1; omega) _).setCell (p := ⟨w.heap.size + 1, 4, none⟩) (by show _ ≤ w.heap.size + 1; omega) _
            clear hW2 p0 p1 p2 p3 x0 x1 x2 x3 x4 f1 h1 h4 HS1 HX1 HR1 HB1
            obtain ⟨p0, p1, p2, p3⟩ := hS2.cells
            obtain ⟨x0, x1, x2, x3, x4⟩ := hX2.cells
            have f2 := hS2.frozen 2
            have ls := hS2.lt
            have lx := hX2.lt
            have HI2 := Lib.hid (HI.out.keep hB2)
            have HR2 := Lib.hid hR2
            have HB2 := Lib.hid hB2
            have hsz2 := hB2.size
            have HS2 := Lib.hid hS2
            have HX2 := Lib.hid hX2
            clear hR2 hB2 hS2 hX2
            have HP1 := Lib.hid (push_one W2 HI2.out hl (d : Int) 4 n key ByteArray.empty)
            have HP2 := Lib.hid (push_two W2 HI2.out hl (d : Int) 4 n key ByteArray.empty)
            have HP3 := Lib.hid (push_three W2 HI2.out hl (d : Int) 4 n key ByteArray.empty)
            go_cut [] (fun wx => RowPut W2 w.heap.size s j 0 (l ++ [⟨d, 4, key.data.toList, [], n⟩]) wx)
            case first =>
              go_region_law (first
                | ((with_reducible refine step_append_ex ?_ ?_ ?_ 22 ?_ ?_ ?_ _ HP1.out ?_); (rotate_left 3; rfl); rfl; rfl; (rotate_left; rfl); rintro _ w5 ⟨⟨ao5, m5, c5, rfl⟩, hb5, hfut⟩; obtain ⟨y0, y1, y2, y3, y4⟩ := (HX2.out.keep hb5).cells; have HFU := Lib.hid hfut; clear hfut hb5)
                | ((with_reducible refine step_append_ex ?_ ?_ ?_ 22 ?_ ?_ ?_ _ HP2.out ?_); (rotate_left 3; rfl); rfl; rfl; (rotate_left; rfl); rintro _ w5 ⟨⟨ao5, m5, c5, rfl⟩, hb5, hfut⟩; obtain ⟨y0, y1, y2, y3, y4⟩ := (HX2.out.keep hb5).cells; have HFU := Lib.hid hfut; clear hfut hb5)
                | ((with_reducible refine step_append_ex ?_ ?_ ?_ 22 ?_ ?_ ?_ _ HP3.out ?_); (rotate_left 3; rfl); rfl; rfl; (rotate_left; rfl); rintro _ w5 ⟨⟨ao5, m5, c5, rfl⟩, hb5, hfut⟩; obtain ⟨y0, y1, y2, y3, y4⟩ := (HX2.out.keep hb5).cells; have HFU := Lib.hid hfut; clear hfut hb5)
                | (refine step_append_ex (by rfl) _ _ 22 (by rfl) (by rfl) (by rfl) _ HFU.out ?_; rintro _ w6 ⟨hI6, hb6, ⟨ao6, m6, c6, rfl⟩, hset⟩; obtain ⟨u0, u1, u2, u3⟩ := (HS2.out.keep hb6).cells; have v2 := (HS2.out.keep hb6).frozen 2; have HB6 := Lib.hid hb6; have HSET := Lib.hid hset; clear hI6 hb6 hset))
              all_goals (try go_wp2_with fail)
              all_goals
                go_meet
                exact RowPut.mk HS2.out HB6.out HSET.out
            case rest =>
              have HPUT := Lib.hid hcut
              clear hcut HP1 HP2 HP3 p0 p1 p2 p3 x0 x1 x2 x3 x4 f2
              obtain ⟨ao7, m7, c7, hS7, hI7, _⟩ := HPUT.out
              have hR7 := HPUT.out.box HR2.out (by omega)
              have HB2' := Lib.hid (HPUT.out.below HB2.out (Nat.le_refl _))
              have HI7 := Lib.hid hI7
              have HR7 := Lib.hid hR7
              have HRL := Lib.hid HR2.out.lt
              obtain ⟨p0, p1, p2, p3⟩ := hS7.cells
              obtain ⟨q0, q1, q2, q3⟩ := hR7.cells
              have g0 := hR7.frozen 0
              have g1 := hR7.frozen 1
              have g2 := hR7.frozen 2
              have g3 := hR7.frozen 3
              clear hS7 hI7 hR7 HPUT HB2 HR2 HS2 HX2 HI2
              have HB2 := Lib.hid HB2'.out
              clear HB2'
              go_wp2
              refine bodyPost_ret (v := stV s j (.slice ao7 m7 c7) 0) (by simp [results, Tryd.results65, go_sem, q0, q1, q2, q3, stV]) rfl ?_
              rw [HA2.out]
              exact ⟨j, ao7, m7, c7, hj, rfl, ((((HB2.out.setCell (p := ⟨w.heap.size + 1 + 1, 0, none⟩) (by show _ ≤ w.heap.size + 1 + 1; omega) _).setCell (p := ⟨w.heap.size + 1 + 1, 1, none⟩) (by show _ ≤ w.heap.size + 1 + 1; omega) _).setCell (p := ⟨w.heap.size + 1 + 1, 2, none⟩) (by show _ ≤ w.heap.size + 1 + 1; omega) _).setCell (p := ⟨w.heap.size + 1 + 1, 3, none⟩) (by show _ ≤ w.heap.size + 1 + 1; omega) _), fun _ => ⟨rfl, ((((HI7.out.set ⟨w.heap.size + 1 + 1, 0, none⟩ _ HRL.out).set ⟨w.heap.size + 1 + 1, 1, none⟩ _ HRL.out).set ⟨w.heap.size + 1 + 1, 2, none⟩ _ HRL.out).set ⟨w.heap.size + 1 + 1, 3, none⟩ _ HRL.out).mono hsz2⟩⟩
      · clear hb
        clear HDR
        have HBO := Lib.hid (body_between s k j hkj hj HDW.out)
        obtain ⟨body, hbody⟩ : ∃ b, s.extract k j = b := ⟨_, rfl⟩
        rw [hbody] at HBO
        have hbz : body.size ≤ 1000000 := by
          rw [← hbody, ByteArray.size_extract]
          omega
        have HBY := Lib.hid hbody
        have hkj' : (k : Int) ≤ (j : Int) := by omega
        have hjs' : (j : Int) ≤ (s.size : Int) := by omega
        have hdr2 := rdread_any body W hbz
        clear hbody
        have HD2 := Lib.hid hdr2
        clear hdr2
        go_wp2_with fail
        rw [HBY.out]
        have hdr2 := HD2.out
        clear HD2
        cases hRd : readD body.data.toList with
        | none =>
          rw [hRd] at hdr2
          have HD2 := Lib.hid hdr2
          have HA2 : Hid (A = (83, [], [])) := by
            show _ = _
            rw [← HA.out]
            unfold numF
            rw [← HBO.out, hRd]
          clear hdr2 hRd HA p0 p1 p2 p3
          refine HD2.out.mono ?_
          rintro _ w1 ⟨rfl, hb1⟩
          obtain ⟨p0, p1, p2, p3⟩ := (HS.out.keep hb1).cells
          have HR1 := Lib.hid (HR.out.keep hb1)
          have HB1 := Lib.hid (chain HBW.out hb1)
          clear hb1 HD2
          go_wp2_with fail
          refine (ramiss_any s k ao m cap 0 83 _).mono ?_
          rintro _ w2 ⟨rfl, hb2⟩
          obtain ⟨q0, q1, q2, q3⟩ := (HR1.out.keep hb2).cells
          have g0 := (HR1.out.keep hb2).frozen 0
          have g1 := (HR1.out.keep hb2).frozen 1
          have g2 := (HR1.out.keep hb2).frozen 2
          have g3 := (HR1.out.keep hb2).frozen 3
          have HB2 := Lib.hid (chain HB1.out hb2)
          clear hb2
          unfold stV
          go_wp2
          refine bodyPost_ret (v := stV s k (.slice ao m cap) 83) (by simp [results, Tryd.results65, go_sem, q0, q1, q2, q3, stV]) rfl ?_
          rw [HA2.out]
          exact ⟨k, ao, m, cap, hk, rfl, ((((HB2.out.setCell (p := ⟨w.heap.size + 1 + 1, 0, none⟩) (by show _ ≤ w.heap.size + 1 + 1; omega) _).setCell (p := ⟨w.heap.size + 1 + 1, 1, none⟩) (by show _ ≤ w.heap.size + 1 + 1; omega) _).setCell (p := ⟨w.heap.size + 1 + 1, 2, none⟩) (by show _ ≤ w.heap.size + 1 + 1; omega) _).setCell (p := ⟨w.heap.size + 1 + 1, 3, none⟩) (by show _ ≤ w.heap.size + 1 + 1; omega) _), fun h => by cases h⟩
        | some n =>
          rw [hRd] at hdr2
          have HD2 := Lib.hid hdr2
          have HA2 : Hid (A = (0, [⟨d, 4, key.data.toList, [], n⟩], restB s j)) := by
            show _ = _
            rw [← HA.out]
            unfold numF
            rw [← HBO.out, hRd, HDW.out]
          clear hdr2 hRd HA p0 p1 p2 p3
          refine HD2.out.mono ?_
          rintro _ w1 ⟨rfl, hb1⟩
          have hS1 := HS.out.keep hb1
          have hX1 := HX.out.keep hb1
          have HR1 := Lib.hid (HR.out.keep hb1)
          have HB1 := Lib.hid (chain HBW.out hb1)
          obtain ⟨p0, p1, p2, p3⟩ := hS1.cells
          obtain ⟨x0, x1, x2, x3, x4⟩ := hX1.cells
          have f1 := hS1.frozen 1
          have h1 := hX1.frozen 1
          have h4 := hX1.frozen 4
          have HS1 := Lib.hid hS1
          have HX1 := Lib.hid hX1
          clear hb1 HD2 hS1 hX1
          go_wp2_with fail
          obtain ⟨W2, hW2⟩ : ∃ W2, ((w1.setCell ⟨w.heap.size, 1, none⟩ (.int .i64 (j : Int))).setCell ⟨w.heap.size + 1, 1, none⟩ (.int .i64 4)).setCell ⟨w.heap.size + 1, 4, none⟩ (.int .i64 n) = W2 := ⟨_, rfl⟩
          rw [hW2]
          have hS2 : BoxS W2 w.heap.size (.string s) (.int .i64 (j : Int)) (.slice ao m cap) (.int .i64 ((0 : Nat) : Int)) := by
            rw [← hW2]
            exact (((HS1.out.set _).2.1).other _ _ (by show w.heap.size + 1 ≠ w.heap.size; omega)).other _ _ (by show w.heap.size + 1 ≠ w.heap.size; omega)
          have hX2 : BoxR W2 (w.heap.size + 1) (.int .i64 (d : Int)) (.int .i64 4) (.string key) (.string ByteArray.empty) (.int .i64 n) := by
            rw [← hW2]
            exact ((((HX1.out.other _ _ (by show w.heap.size ≠ w.heap.size + 1; omega)).set _).1).set _).2.2.2
          have hR2 : BoxS W2 (w.heap.size + 1 + 1) (.string ⟨#[]⟩) (.int .i64 0) (.slice none 0 0) (.int .i64 0) := by
            rw [← hW2]
            exact ((HR1.out.other _ _ (by show w.heap.size ≠ w.heap.size + 1 + 1; omega)).other _ _ (by show w.heap.size + 1 ≠ w.heap.size + 1 + 1; omega)).other _ _ (by show w.heap.size + 1 ≠ w.heap.size + 1 + 1; omega)
          have hB2 : Below w.heap.size w W2 := by
            rw [← hW2]
            exact ((HB1.out.setCell (p := ⟨w.heap.size, 1, none⟩) (Nat.le_refl _) _).setCell (p := ⟨w.heap.size + 1, 1, none⟩) (by show _ ≤ w.heap.size + 1; omega) _).setCell (p := ⟨w.heap.size + 1, 4, none⟩) (by show _ ≤ w.heap.size + 1; omega) _
          clear hW2 p0 p1 p2 p3 x0 x1 x2 x3 x4 f1 h1 h4 HS1 HX1 HR1 HB1
          obtain ⟨p0, p1, p2, p3⟩ := hS2.cells
          obtain ⟨x0, x1, x2, x3, x4⟩ := hX2.cells
          have f2 := hS2.frozen 2
          have ls := hS2.lt
          have lx := hX2.lt
          have HI2 := Lib.hid (HI.out.keep hB2)
          have HR2 := Lib.hid hR2
          have HB2 := Lib.hid hB2
          have hsz2 := hB2.size
          have HS2 := Lib.hid hS2
          have HX2 := Lib.hid hX2
          clear hR2 hB2 hS2 hX2
          have HP1 := Lib.hid (push_one W2 HI2.out hl (d : Int) 4 n key ByteArray.empty)
          have HP2 := Lib.hid (push_two W2 HI2.out hl (d : Int) 4 n key ByteArray.empty)
          have HP3 := Lib.hid (push_three W2 HI2.out hl (d : Int) 4 n key ByteArray.empty)
          go_cut [] (fun wx => RowPut W2 w.heap.size s j 0 (l ++ [⟨d, 4, key.data.toList, [], n⟩]) wx)
          case first =>
            go_region_law (first
              | ((with_reducible refine step_append_ex ?_ ?_ ?_ 22 ?_ ?_ ?_ _ HP1.out ?_); (rotate_left 3; rfl); rfl; rfl; (rotate_left; rfl); rintro _ w5 ⟨⟨ao5, m5, c5, rfl⟩, hb5, hfut⟩; obtain ⟨y0, y1, y2, y3, y4⟩ := (HX2.out.keep hb5).cells; have HFU := Lib.hid hfut; clear hfut hb5)
              | ((with_reducible refine step_append_ex ?_ ?_ ?_ 22 ?_ ?_ ?_ _ HP2.out ?_); (rotate_left 3; rfl); rfl; rfl; (rotate_left; rfl); rintro _ w5 ⟨⟨ao5, m5, c5, rfl⟩, hb5, hfut⟩; obtain ⟨y0, y1, y2, y3, y4⟩ := (HX2.out.keep hb5).cells; have HFU := Lib.hid hfut; clear hfut hb5)
              | ((with_reducible refine step_append_ex ?_ ?_ ?_ 22 ?_ ?_ ?_ _ HP3.out ?_); (rotate_left 3; rfl); rfl; rfl; (rotate_left; rfl); rintro _ w5 ⟨⟨ao5, m5, c5, rfl⟩, hb5, hfut⟩; obtain ⟨y0, y1, y2, y3, y4⟩ := (HX2.out.keep hb5).cells; have HFU := Lib.hid hfut; clear hfut hb5)
              | (refine step_append_ex (by rfl) _ _ 22 (by rfl) (by rfl) (by rfl) _ HFU.out ?_; rintro _ w6 ⟨hI6, hb6, ⟨ao6, m6, c6, rfl⟩, hset⟩; obtain ⟨u0, u1, u2, u3⟩ := (HS2.out.keep hb6).cells; have v2 := (HS2.out.keep hb6).frozen 2; have HB6 := Lib.hid hb6; have HSET := Lib.hid hset; clear hI6 hb6 hset))
            all_goals (try go_wp2_with fail)
            all_goals
              go_meet
              exact RowPut.mk HS2.out HB6.out HSET.out
          case rest =>
            have HPUT := Lib.hid hcut
            clear hcut HP1 HP2 HP3 p0 p1 p2 p3 x0 x1 x2 x3 x4 f2
            obtain ⟨ao7, m7, c7, hS7, hI7, _⟩ := HPUT.out
            have hR7 := HPUT.out.box HR2.out (by omega)
            have HB2' := Lib.hid (HPUT.out.below HB2.out (Nat.le_refl _))
            have HI7 := Lib.hid hI7
            have HR7 := Lib.hid hR7
            have HRL := Lib.hid HR2.out.lt
            obtain ⟨p0, p1, p2, p3⟩ := hS7.cells
            obtain ⟨q0, q1, q2, q3⟩ := hR7.cells
            have g0 := hR7.frozen 0
            have g1 := hR7.frozen 1
            have g2 := hR7.frozen 2
            have g3 := hR7.frozen 3
            clear hS7 hI7 hR7 HPUT HB2 HR2 HS2 HX2 HI2
            have HB2 := Lib.hid HB2'.out
            clear HB2'
            go_wp2
            refine bodyPost_ret (v := stV s j (.slice ao7 m7 c7) 0) (by simp [results, Tryd.results65, go_sem, q0, q1, q2, q3, stV]) rfl ?_
            rw [HA2.out]
            exact ⟨j, ao7, m7, c7, hj, rfl, ((((HB2.out.setCell (p := ⟨w.heap.size + 1 + 1, 0, none⟩) (by show _ ≤ w.heap.size + 1 + 1; omega) _).setCell (p := ⟨w.heap.size + 1 + 1, 1, none⟩) (by show _ ≤ w.heap.size + 1 + 1; omega) _).setCell (p := ⟨w.heap.size + 1 + 1, 2, none⟩) (by show _ ≤ w.heap.size + 1 + 1; omega) _).setCell (p := ⟨w.heap.size + 1 + 1, 3, none⟩) (by show _ ≤ w.heap.size + 1 + 1; omega) _), fun _ => ⟨rfl, ((((HI7.out.set ⟨w.heap.size + 1 + 1, 0, none⟩ _ HRL.out).set ⟨w.heap.size + 1 + 1, 1, none⟩ _ HRL.out).set ⟨w.heap.size + 1 + 1, 2, none⟩ _ HRL.out).set ⟨w.heap.size + 1 + 1, 3, none⟩ _ HRL.out).mono hsz2⟩⟩
end Go.Proofs.YtmnigdcgdebgoaaDoor
