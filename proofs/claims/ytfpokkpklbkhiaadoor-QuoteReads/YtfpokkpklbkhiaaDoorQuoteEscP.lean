/-
  The document's own escape (package cracknelref07): its walk.
-/
import Derived.Test.YtfpokkpklbkhiaaDoorQuoteEsc
namespace Go.Proofs.YtfpokkpklbkhiaaDoor
open Go.RowKit
set_option linter.unusedVariables false

theorem ret_esc {o : Option (Nat × Nat)} {v : Value} (h : escV o = v) : Ending.returned v = .returned (escV o) := by rw [h]

set_option maxRecDepth 100000 in
set_option maxHeartbeats 3200000 in
theorem rescape_any (s : ByteArray) (at_ : Nat) (A : Int) (w : World) (hA : A = (at_ : Int)) (hs : s.size ≤ 150000000000000) (ha : at_ < s.size) :
    Calls Tryd.prog 38 #[.string s, .int .i64 A] w fun e w' => e = .returned (escV (escQ (s.data.toList.drop (at_ + 1)))) ∧ w = w' := by
  subst hA
  by_cases h1 : at_ + 1 < s.size
  · have k1 : ¬ (s.size : Int) ≤ (at_ : Int) + 1 := by omega
    have k2 : (at_ : Int) + 1 < (s.size : Int) := by omega
    obtain ⟨c, hc⟩ : ∃ c, c = s[at_ + 1].toNat := ⟨_, rfl⟩
    by_cases hp : c = 34 ∨ c = 92 ∨ c = 47
    · have HE := Lib.hid (esc_back s (at_ + 1) c h1 (by rw [← hc]; exact back_plain c hp))
      have e1 : (s[at_ + 1].toNat : Int) = (c : Int) := by omega
      rcases hp with rfl | rfl | rfl
      all_goals
        clear hc
        go_enter Tryd.func38, Tryd.ntmps38
        go_wp2
        go_ret2
        exact ⟨ret_esc (by rw [HE.out]; rfl), rfl⟩
    · have e1 : (s[at_ + 1].toNat : Int) = (c : Int) := by omega
      have n1 : ¬ (c : Int) = 34 := by omega
      have n2 : ¬ (c : Int) = 92 := by omega
      have n3 : ¬ (c : Int) = 47 := by omega
      have c8 : c < 256 := by have := s[at_ + 1].toNat_lt; omega
      have n4 : ((c : Int) == 34) = false := by rw [beq_eq_false_iff_ne]; exact n1
      have n5 : ((c : Int) == 92) = false := by rw [beq_eq_false_iff_ne]; exact n2
      have n6 : ((c : Int) == 47) = false := by rw [beq_eq_false_iff_ne]; exact n3
      have n7 : ¬ c = 34 := by omega
      have n8 : ¬ c = 92 := by omega
      have n9 : ¬ c = 47 := by omega
      have HC := Lib.hid hc
      have HP := Lib.hid hp
      clear hc hp
      go_enter Tryd.func38, Tryd.ntmps38
      go_wp2
      go_loop [7] (fun i => EscAt c i) (fun i => 14 - (intOf i).toNat)
      case atStart => exact ⟨8, by omega, by omega, rfl, fun d h2 h3 => by omega⟩
      case round =>
        obtain ⟨b, b1, b2, rfl, hno⟩ := hrel
        have HN := Lib.hid hno
        clear hno
        by_cases hb : b < 14
        · have z1 : (b : Int) ≤ 13 := by omega
          by_cases h92 : 92 < c
          · have z2 : (92 : Int) < (c : Int) := by omega
            by_cases hm : shortN b = c
            · have HE := Lib.hid (esc_back s (at_ + 1) b h1 (by rw [← HC.out]; exact back_sign c b h92 b1 hb hm))
              clear HN HP
              go_wp2_with fail
              refine (at_short b _ (c : Int) _ (by simp) (by rw [hm])).mono ?_
              rintro _ w1 ⟨rfl, rfl⟩
              go_wp2
              go_ret2
              exact ⟨ret_esc (by rw [HE.out]; rfl), rfl⟩
            · obtain ⟨q, hq⟩ : ∃ q : Int, (shortN b : Int) = q := ⟨_, rfl⟩
              have z3 : ¬ q = (c : Int) := by omega
              have z4 : (q == (c : Int)) = false := by rw [beq_eq_false_iff_ne]; exact z3
              have HQ := Lib.hid hq
              clear hq
              go_wp2_with fail
              refine (at_short b _ q _ (by simp) HQ.out).mono ?_
              rintro _ w1 ⟨rfl, rfl⟩
              go_wp2
              go_round
              case rel =>
                refine ⟨b + 1, by omega, by omega, by go_num, fun d h2 h3 => ?_⟩
                by_cases hd : d = b
                · rw [hd]
                  exact fun h => hm h.2
                · exact HN.out d h2 (by omega)
              case measure => simp [intOf]; omega
          · have z2 : ¬ (92 : Int) < (c : Int) := by omega
            go_wp2
            go_round
            case rel => exact ⟨b + 1, by omega, by omega, by go_num, fun d h2 h3 h => h92 h.1⟩
            case measure => simp [intOf]; omega
        · have z1 : ¬ (b : Int) ≤ 13 := by omega
          have eb : b = 14 := by omega
          have hbn : backN s[at_ + 1].toNat = none := by
            rw [← HC.out]
            exact back_none c HP.out (fun d h2 h3 => HN.out d h2 (by omega))
          clear HN HP eb
          cases hn : numQ (s.data.toList.drop (at_ + 1)) with
          | none =>
            have HE := Lib.hid (esc_no s (at_ + 1) h1 hbn hn)
            have HI : Hid (numI (s.data.toList.drop (at_ + 1)) = -1) := by show _ = _; unfold numI; rw [hn]
            clear hbn hn
            go_wp2_with fail
            refine (at_number s (at_ + 1) _ (-1) _ (by simp) hs (by omega) HI.out).mono ?_
            rintro _ w1 ⟨rfl, rfl⟩
            go_wp2
            go_ret2
            exact ⟨ret_esc (by rw [HE.out]; rfl), rfl⟩
          | some n =>
            have hn6 := (numQ_yes _ _ hn).1
            have HI : Hid (numI (s.data.toList.drop (at_ + 1)) = (n : Int)) := by show _ = _; unfold numI; rw [hn]
            rcases (show (56320 ≤ n ∧ n ≤ 57343) ∨ n < 55296 ∨ 57343 < n ∨ (55296 ≤ n ∧ n ≤ 56319) from by omega) with hr | hr | hr | hr
            · have HE := Lib.hid (esc_low s (at_ + 1) n h1 hbn hn hr)
              have r1 : (56320 : Int) ≤ (n : Int) := by omega
              have r2 : (n : Int) ≤ 57343 := by omega
              obtain ⟨N, hN⟩ : ∃ N : Int, (n : Int) = N := ⟨_, rfl⟩
              rw [hN] at HI r1 r2
              have r3 : ¬ N < 0 := by omega
              clear hbn hn hr hn6 hN
              go_wp2_with fail
              refine (at_number s (at_ + 1) _ N _ (by simp) hs (by omega) HI.out).mono ?_
              rintro _ w1 ⟨rfl, rfl⟩
              go_wp2
              go_ret2
              exact ⟨ret_esc (by rw [HE.out]; rfl), rfl⟩
            · have HE := Lib.hid (esc_one s (at_ + 1) n h1 hbn hn (.inl hr))
              obtain ⟨N, hN⟩ : ∃ N : Int, (n : Int) = N := ⟨_, rfl⟩
              rw [hN] at HI
              have r1 : ¬ (56320 : Int) ≤ N := by omega
              have r2 : N < 55296 := by omega
              have r3 : ¬ N < 0 := by omega
              have HNN := Lib.hid hN
              clear hbn hn hr hn6 hN
              go_wp2_with fail
              refine (at_number s (at_ + 1) _ N _ (by simp) hs (by omega) HI.out).mono ?_
              rintro _ w1 ⟨rfl, rfl⟩
              go_wp2
              go_ret2
              exact ⟨ret_esc (by rw [HE.out, ← HNN.out]; rfl), rfl⟩
            · have HE := Lib.hid (esc_one s (at_ + 1) n h1 hbn hn (.inr hr))
              obtain ⟨N, hN⟩ : ∃ N : Int, (n : Int) = N := ⟨_, rfl⟩
              rw [hN] at HI
              have r1 : (56320 : Int) ≤ N := by omega
              have r2 : ¬ N ≤ 57343 := by omega
              have r3 : ¬ N < 0 := by omega
              have r4 : ¬ N < 55296 := by omega
              have r5 : (57343 : Int) < N := by omega
              have HNN := Lib.hid hN
              clear hbn hn hr hn6 hN
              go_wp2_with fail
              refine (at_number s (at_ + 1) _ N _ (by simp) hs (by omega) HI.out).mono ?_
              rintro _ w1 ⟨rfl, rfl⟩
              go_wp2
              go_ret2
              exact ⟨ret_esc (by rw [HE.out, ← HNN.out]; rfl), rfl⟩
            · have HE := Lib.hid (esc_two s (at_ + 1) n h1 hbn hn hr)
              rw [show at_ + 1 + 5 = at_ + 6 by omega] at HE
              obtain ⟨N, hN⟩ : ∃ N : Int, (n : Int) = N := ⟨_, rfl⟩
              rw [hN] at HI
              have r1 : ¬ (56320 : Int) ≤ N := by omega
              have r3 : ¬ N < 0 := by omega
              have r4 : ¬ N < 55296 := by omega
              have r5 : ¬ (57343 : Int) < N := by omega
              have r6 : N ≤ 56319 := by omega
              have r7 : (55296 : Int) ≤ N := by omega
              have HNN := Lib.hid hN
              clear hbn hn hr hn6 hN
              by_cases h12 : at_ + 12 ≤ s.size
              · have t1 : ¬ (s.size : Int) - (at_ : Int) < 12 := by omega
                have t2 : at_ + 6 < s.size := by omega
                have t3 : (at_ : Int) + 6 < (s.size : Int) := by omega
                have hpc := pair_cons s (at_ + 6) n t2
                rw [show at_ + 6 + 1 = at_ + 7 by omega] at hpc
                by_cases h6 : s[at_ + 6].toNat = 92
                · have t4 : (s[at_ + 6].toNat : Int) = 92 := by omega
                  rw [if_pos h6] at hpc
                  clear h6
                  cases hm : numQ (s.data.toList.drop (at_ + 7)) with
                  | none =>
                    have HE2 : Hid (escQ (s.data.toList.drop (at_ + 1)) = none) := by show _ = _; rw [HE.out, hpc, hm]; rfl
                    have HJ : Hid (numI (s.data.toList.drop (at_ + 7)) = -1) := by show _ = _; unfold numI; rw [hm]
                    clear hpc hm HE
                    go_wp2_with fail
                    refine (at_number s (at_ + 1) _ N _ (by simp) hs (by omega) HI.out).mono ?_
                    rintro _ w1 ⟨rfl, rfl⟩
                    go_wp2_with fail
                    refine (at_number s (at_ + 7) _ (-1) _ (by simp) hs (by omega) HJ.out).mono ?_
                    rintro _ w1 ⟨rfl, rfl⟩
                    go_wp2
                    go_ret2
                    exact ⟨ret_esc (by rw [HE2.out]; rfl), rfl⟩
                  | some m =>
                    have hm6 := (numQ_yes _ _ hm).1
                    obtain ⟨M, hM⟩ : ∃ M : Int, (m : Int) = M := ⟨_, rfl⟩
                    have HJ : Hid (numI (s.data.toList.drop (at_ + 7)) = M) := by show _ = _; unfold numI; rw [hm]; exact hM
                    rcases (show m < 56320 ∨ 57343 < m ∨ (56320 ≤ m ∧ m ≤ 57343) from by omega) with hr | hr | hr
                    · have HE2 : Hid (escQ (s.data.toList.drop (at_ + 1)) = none) := by show _ = _; rw [HE.out, hpc, hm]; simp only; rw [if_neg (by omega)]; rfl
                      have u1 : M < 56320 := by omega
                      clear hpc hm HE hM hm6 hr
                      go_wp2_with fail
                      refine (at_number s (at_ + 1) _ N _ (by simp) hs (by omega) HI.out).mono ?_
                      rintro _ w1 ⟨rfl, rfl⟩
                      go_wp2_with fail
                      refine (at_number s (at_ + 7) _ M _ (by simp) hs (by omega) HJ.out).mono ?_
                      rintro _ w1 ⟨rfl, rfl⟩
                      go_wp2
                      go_ret2
                      exact ⟨ret_esc (by rw [HE2.out]; rfl), rfl⟩
                    · have HE2 : Hid (escQ (s.data.toList.drop (at_ + 1)) = none) := by show _ = _; rw [HE.out, hpc, hm]; simp only; rw [if_neg (by omega)]; rfl
                      have u1 : ¬ M < 56320 := by omega
                      have u2 : (57343 : Int) < M := by omega
                      clear hpc hm HE hM hm6 hr
                      go_wp2_with fail
                      refine (at_number s (at_ + 1) _ N _ (by simp) hs (by omega) HI.out).mono ?_
                      rintro _ w1 ⟨rfl, rfl⟩
                      go_wp2_with fail
                      refine (at_number s (at_ + 7) _ M _ (by simp) hs (by omega) HJ.out).mono ?_
                      rintro _ w1 ⟨rfl, rfl⟩
                      go_wp2
                      go_ret2
                      exact ⟨ret_esc (by rw [HE2.out]; rfl), rfl⟩
                    · obtain ⟨r, hrr⟩ : ∃ r, 65536 + 1024 * (n - 55296) + (m - 56320) = r := ⟨_, rfl⟩
                      have HE2 : Hid (escQ (s.data.toList.drop (at_ + 1)) = some (r, 12)) := by show _ = _; rw [HE.out, hpc, hm]; simp only; rw [if_pos hr, hrr]; rfl
                      have HV : Hid ((r : Int) = 65536 + 1024 * (N - 55296) + M - 56320) := by
                        show _ = _
                        have := HNN.out
                        omega
                      clear hrr
                      have u1 : ¬ M < 56320 := by omega
                      have u2 : ¬ (57343 : Int) < M := by omega
                      have u3 : M ≤ 57343 := by omega
                      have u4 : 56320 ≤ M := by omega
                      clear hpc hm HE hM hm6 hr
                      go_wp2_with fail
                      refine (at_number s (at_ + 1) _ N _ (by simp) hs (by omega) HI.out).mono ?_
                      rintro _ w1 ⟨rfl, rfl⟩
                      go_wp2_with fail
                      refine (at_number s (at_ + 7) _ M _ (by simp) hs (by omega) HJ.out).mono ?_
                      rintro _ w1 ⟨rfl, rfl⟩
                      go_wp2
                      go_ret2
                      refine ⟨ret_esc ?_, rfl⟩
                      rw [HE2.out]
                      show Value.tuple #[.int .i64 (r : Int), .int .i64 ((12 : Nat) : Int)] = _
                      rw [HV.out]
                      rfl
                · have t4 : ¬ (s[at_ + 6].toNat : Int) = 92 := by omega
                  have t5 : ((s[at_ + 6].toNat : Int) != 92) = true := by rw [bne_iff_ne]; exact t4
                  have HE2 : Hid (escQ (s.data.toList.drop (at_ + 1)) = none) := by show _ = _; rw [HE.out, hpc, if_neg h6]; rfl
                  clear hpc h6 HE
                  go_wp2_with fail
                  refine (at_number s (at_ + 1) _ N _ (by simp) hs (by omega) HI.out).mono ?_
                  rintro _ w1 ⟨rfl, rfl⟩
                  go_wp2
                  go_ret2
                  exact ⟨ret_esc (by rw [HE2.out]; rfl), rfl⟩
              · have t1 : (s.size : Int) - (at_ : Int) < 12 := by omega
                have HE2 : Hid (escQ (s.data.toList.drop (at_ + 1)) = none) := by show _ = _; rw [HE.out, pair_short s (at_ + 6) n (by omega)]; rfl
                clear HE
                go_wp2_with fail
                refine (at_number s (at_ + 1) _ N _ (by simp) hs (by omega) HI.out).mono ?_
                rintro _ w1 ⟨rfl, rfl⟩
                go_wp2
                go_ret2
                exact ⟨ret_esc (by rw [HE2.out]; rfl), rfl⟩
  · have k1 : (s.size : Int) ≤ (at_ : Int) + 1 := by omega
    have HE := Lib.hid (esc_nil s (at_ + 1) h1)
    go_enter Tryd.func38, Tryd.ntmps38
    go_wp2
    go_ret2
    exact ⟨ret_esc (by rw [HE.out]; rfl), rfl⟩
end Go.Proofs.YtfpokkpklbkhiaaDoor
