/-
  The document's own answers (package cracknelref10): next: a contract.
-/
import Derived.Test.YtmmkokomffclmaaDoorDatFd
import Derived.Deep.DeepCutAuto
namespace Go.Proofs.YtmmkokomffclmaaDoor
open Go.RowKit
set_option linter.unusedVariables false

theorem results_cell1 {fn : Func} {p : Tmp} {ty : TypeId} (h : fn.results = #[.cell p ty]) (tmps : Array Value) (P : Program) (w : World) :
    (results fn tmps).run P w =
      ((asAddr (tmps.getD p undef)).run P w).andThen fun a w₁ => ((loadVar ty a).run P w₁) := by
  simp only [results, h]
  simp [Sem.run_bind, Result.andThen]

theorem band_true {a b : Bool} (h : true = (!a && b)) : a = false ∧ b = true := by cases a <;> cases b <;> simp_all

theorem test_day (a : Bool) (n : Nat) (k : Int) : (!a && decide (1 ≤ (n : Int)) && decide ((n : Int) ≤ 2)) = true ↔ (a = false ∧ 1 ≤ n ∧ n ≤ 2) := by
  rw [Bool.and_eq_true, Bool.and_eq_true, decide_eq_true_eq, decide_eq_true_eq]
  constructor
  · rintro ⟨⟨h1, h2⟩, h3⟩
    exact ⟨by simpa using h1, by omega, by omega⟩
  · rintro ⟨h1, h2, h3⟩
    exact ⟨⟨by rw [h1]; rfl, by omega⟩, by omega⟩
theorem test_year (a : Bool) (n : Nat) : (!a && decide (2 ≤ (n : Int)) && decide ((n : Int) ≤ 4)) = true ↔ (a = false ∧ 2 ≤ n ∧ n ≤ 4) := by
  rw [Bool.and_eq_true, Bool.and_eq_true, decide_eq_true_eq, decide_eq_true_eq]
  constructor
  · rintro ⟨⟨h1, h2⟩, h3⟩
    exact ⟨by simpa using h1, by omega, by omega⟩
  · rintro ⟨h1, h2, h3⟩
    exact ⟨⟨by rw [h1]; rfl, by omega⟩, by omega⟩
theorem test_month (a : Bool) (n : Nat) : (!a && decide (0 < (n : Int))) = true ↔ (a = false ∧ 0 < n) := by
  rw [Bool.and_eq_true, decide_eq_true_eq]
  constructor
  · rintro ⟨h1, h2⟩
    exact ⟨by simpa using h1, by omega⟩
  · rintro ⟨h1, h2⟩
    exact ⟨by rw [h1]; rfl, by omega⟩
theorem test_time (a b : Bool) : (!a && b) = true ↔ (a = false ∧ b = true) := by cases a <;> cases b <;> simp

theorem nextF_time (f : Fd) (l : List UInt8) (a b c : Nat) (h : f.time = false) (ht : timeL l = some (a, b, c)) : nextF f l = { f with time := true, h := a, i := b, s := c } := by
  unfold nextF
  rw [if_pos ⟨h, by rw [ht]; rfl⟩, ht]
  rfl

theorem nextF_else (f : Fd) (l : List UInt8) (h1 : (!f.time && (timeL l).isSome) = false) : nextF f l =
    if f.day = false ∧ 1 ≤ digN l ∧ digN l ≤ 2 then { f with day := true, D := valN (l.take (digN l)) }
    else if f.month = false ∧ 0 < monthL l then { f with month := true, M := monthL l }
    else if f.year = false ∧ 2 ≤ digN l ∧ digN l ≤ 4 then { f with year := true, Y := valN (l.take (digN l)) } else f := by
  have a1 : ¬ (f.time = false ∧ (timeL l).isSome = true) := fun h => by rw [(test_time _ _).2 h] at h1; cases h1
  unfold nextF
  rw [if_neg a1]

theorem nextF_day (f : Fd) (l : List UInt8) (n : Nat) (hn : n = digN l) (h1 : (!f.time && (timeL l).isSome) = false) (h2 : (!f.day && decide (1 ≤ (n : Int)) && decide ((n : Int) ≤ 2)) = true) :
    nextF f l = { f with day := true, D := valN (l.take n) } := by
  subst hn
  rw [nextF_else f l h1, if_pos ((test_day _ _ 0).1 h2)]
theorem nextF_month (f : Fd) (l : List UInt8) (n m : Nat) (hn : n = digN l) (hm : m = monthL l) (h1 : (!f.time && (timeL l).isSome) = false) (h2 : (!f.day && decide (1 ≤ (n : Int)) && decide ((n : Int) ≤ 2)) = false)
    (h3 : (!f.month && decide (0 < (m : Int))) = true) : nextF f l = { f with month := true, M := m } := by
  subst hn hm
  rw [nextF_else f l h1, if_neg (fun h => by rw [(test_day _ _ 0).2 h] at h2; cases h2), if_pos ((test_month _ _).1 h3)]
theorem nextF_year (f : Fd) (l : List UInt8) (n m : Nat) (hn : n = digN l) (hm : m = monthL l) (h1 : (!f.time && (timeL l).isSome) = false) (h2 : (!f.day && decide (1 ≤ (n : Int)) && decide ((n : Int) ≤ 2)) = false)
    (h3 : (!f.month && decide (0 < (m : Int))) = false) :
    ((!f.year && decide (2 ≤ (n : Int)) && decide ((n : Int) ≤ 4)) = true → nextF f l = { f with year := true, Y := valN (l.take n) }) ∧ ((!f.year && decide (2 ≤ (n : Int)) && decide ((n : Int) ≤ 4)) = false → nextF f l = f) := by
  subst hn hm
  rw [nextF_else f l h1, if_neg (fun h => by rw [(test_day _ _ 0).2 h] at h2; cases h2), if_neg (fun h => by rw [(test_month _ _).2 h] at h3; cases h3)]
  exact ⟨fun h4 => if_pos ((test_year _ _).1 h4), fun h4 => if_neg (fun h => by rw [(test_year _ _).2 h] at h4; cases h4)⟩

theorem timeRes_cases {base : Nat} {l : List UInt8} {e : Ending} {w' : World} (h : TimeRes base (timeG 3 [] l) e w') :
    ∃ v ii, e = .returned (.tuple #[v, .bool ii]) ∧ (ii = (timeL l).isSome) ∧ (ii = true → ∃ a b c : Nat, timeL l = some (a, b, c) ∧ RowI w' base v [(a : Int), b, c]) := by
  rw [timeG_timeL] at h
  cases ht : timeL l with
  | none =>
    rw [ht] at h
    exact ⟨_, false, h, rfl, fun h => by cases h⟩
  | some p =>
    obtain ⟨a, b, c⟩ := p
    rw [ht] at h
    obtain ⟨v, h1, h2⟩ := h
    exact ⟨v, true, h1, rfl, fun _ => ⟨a, b, c, rfl, h2⟩⟩

/-- A row of three is a block of the call's own. -/
theorem rowI_three {w : World} {base : Nat} {v : Value} {a b c : Int} (h : RowI w base v [a, b, c]) : ∃ g cap, v = .slice (some ⟨g, 0, none⟩) 3 cap ∧ base ≤ g ∧
    w.cell? ⟨g, 0, none⟩ = some (.int .i64 a) ∧ w.cell? ⟨g, 1, none⟩ = some (.int .i64 b) ∧ w.cell? ⟨g, 2, none⟩ = some (.int .i64 c) := by
  have h0 := h
  obtain ⟨_, ⟨rfl, hn⟩ | ⟨g, cap, cur, rfl, hbg, _, _⟩⟩ := h
  · exact absurd hn (by simp)
  · have c0 := World.ownsRow.cellAt h0 0 (by simp)
    have c1 := World.ownsRow.cellAt h0 1 (by simp)
    have c2 := World.ownsRow.cellAt h0 2 (by simp)
    exact ⟨g, cap, rfl, hbg, by rw [c0]; rfl, by rw [c1]; rfl, by rw [c2]; rfl⟩

set_option maxRecDepth 100000 in
set_option maxHeartbeats 3200000 in
theorem rnext_any (f : Fd) (s : ByteArray) (w : World) (hs : s.size ≤ 1000000000) :
    Calls Tryd.prog 29 #[fdV f, .string s] w fun e w' => e = .returned (fdV (nextF f s.data.toList)) ∧ Below w.heap.size w w' := by
  have HT := Lib.hid (rtime_any s · hs)
  have HD := Lib.hid (dcount_any s · (by omega))
  have HM := Lib.hid (rmonth_any s · hs)
  obtain ⟨n, hn⟩ : ∃ n, n = digN s.data.toList := ⟨_, rfl⟩
  rw [← hn] at HD
  have HN := Lib.hid hn
  have hnle : n ≤ s.size := by rw [hn, ← list_len]; exact digN_le _
  obtain ⟨mo, hmo⟩ : ∃ mo, mo = monthL s.data.toList := ⟨_, rfl⟩
  rw [← hmo] at HM
  have HMO := Lib.hid hmo
  clear hn hmo
  obtain ⟨ft, fd, fm, fy, fY, fM, fD, fh, fi, fs⟩ := f
  have hA := (FdAt.new w ⟨ft, fd, fm, fy, fY, fM, fD, fh, fi, fs⟩ 46).keep ((Below.refl _ _).alloc (Nat.le_refl _) (.cells #[.bool false, .bool false, .bool false, .bool false, .int .i64 0, .int .i64 0, .int .i64 0, .int .i64 0, .int .i64 0, .int .i64 0] 46))
  have hB := FdAt.new (w.alloc (.cells #[.bool ft, .bool fd, .bool fm, .bool fy, .int .i64 fY, .int .i64 fM, .int .i64 fD, .int .i64 fh, .int .i64 fi, .int .i64 fs] 46)) fd0 46
  have e1 : ∀ (W : World) (o : Obj), (W.alloc o).heap.size = W.heap.size + 1 := fun W o => by simp
  rw [e1] at hB
  have hb0 := ((Below.refl w.heap.size w).alloc (Nat.le_refl _) (.cells #[.bool ft, .bool fd, .bool fm, .bool fy, .int .i64 fY, .int .i64 fM, .int .i64 fD, .int .i64 fh, .int .i64 fi, .int .i64 fs] 46)).alloc (by simp) (.cells #[.bool false, .bool false, .bool false, .bool false, .int .i64 0, .int .i64 0, .int .i64 0, .int .i64 0, .int .i64 0, .int .i64 0] 46)
  go_enter Tryd.func29, Tryd.ntmps29
  go_wp2_with fail
  refine (HT.out _).mono ?_
  rintro e w1 ⟨hres, hb⟩
  have hA1 := hA.keep hb
  have hB1 := hB.keep hb
  have hb1 := chain hb0 hb
  obtain ⟨v, ii, rfl, hii, hyes⟩ := timeRes_cases hres
  have HII := Lib.hid hii
  have HYES := Lib.hid hyes
  clear hres hii hyes hb hA hB hb0 HT
  obtain ⟨g, hg⟩ : ∃ g, g = w.heap.size := ⟨_, rfl⟩
  obtain ⟨r, hr⟩ : ∃ r, r = w.heap.size + 1 := ⟨_, rfl⟩
  have hgr : ¬ g = r := by omega
  have hrg : ¬ r = g := by omega
  have hwg : w.heap.size ≤ g := by omega
  have hwr : w.heap.size ≤ r := by omega
  rw [← hg] at hA1
  rw [← hr] at hB1
  rw [← hr, ← hg]
  have HG := Lib.hid hg
  have HR := Lib.hid hr
  clear hg hr
  obtain ⟨⟨c0, c1, c2, c3, c4, c5, c6, c7, c8, c9⟩, _⟩ := id hA1
  obtain ⟨f0, f1, f2, f3, f4, f5, f6, f7, f8, f9⟩ := hA1.facts
  obtain ⟨⟨z0, z1, z2, z3, z4, z5, z6, z7, z8, z9⟩, _⟩ := id hB1
  obtain ⟨q0, q1, q2, q3, q4, q5, q6, q7, q8, q9⟩ := hB1.facts
  have HA1 := Lib.hid hA1
  have HB1 := Lib.hid hB1
  clear hA1 hB1
  go_upto_region 2 with (fail)
  go_cut [18] (fun v18 wx => v18 = .bool (!ft && ii) ∧ wx = w1)
  case first =>
    cases ft <;> cases ii <;>
    · go_wp2_with fail
      go_meet
      exact ⟨rfl, rfl⟩
  case rest =>
    obtain ⟨rfl, rfl⟩ := hcut
    obtain ⟨t1, ht1⟩ : ∃ t1, t1 = (!ft && ii) := ⟨_, rfl⟩
    rw [← ht1]
    cases t1
    · have HT1 : Hid ((!ft && (timeL s.data.toList).isSome) = false) := by
        show _ = _
        rw [← HII.out]
        exact ht1.symm
      clear HYES ht1
      go_wp2_with fail
      refine (HD.out _).mono ?_
      rintro _ wz ⟨rfl, rfl⟩
      go_upto_region 9 with (fail)
      go_cut [48] (fun v48 wx => v48 = .bool (!fd && decide (1 ≤ (n : Int)) && decide ((n : Int) ≤ 2)) ∧ wx = wz)
      case first =>
        rcases (show ¬ 1 ≤ (n : Int) ∨ (1 ≤ (n : Int) ∧ (n : Int) ≤ 2) ∨ (1 ≤ (n : Int) ∧ ¬ (n : Int) ≤ 2) from by omega) with k1 | ⟨k1, k2⟩ | ⟨k1, k2⟩ <;> cases fd <;>
        · go_wp2_with fail
          go_meet
          exact ⟨by first | (simp [k1, k2]; done) | (simp; done) | (simp; omega), rfl⟩
      case rest =>
        obtain ⟨rfl, rfl⟩ := hcut
        obtain ⟨t2, ht2⟩ : ∃ t2, t2 = (!fd && decide (1 ≤ (n : Int)) && decide ((n : Int) ≤ 2)) := ⟨_, rfl⟩
        rw [← ht2]
        cases t2
        · have HT2 := Lib.hid ht2.symm
          clear ht2
          go_upto_region 13 with (fail)
          go_cut [67] (fun v67 wx => v67 = .bool (!fm && decide (0 < (mo : Int))) ∧ FdAt wx g ⟨ft, fd, fm, fy, fY, fM, fD, fh, fi, fs⟩ ∧ FdAt wx r fd0 ∧ Below w.heap.size w wx)
          case first =>
            cases fm
            · go_wp2_with fail
              refine (HM.out _).mono ?_
              rintro _ w2 ⟨rfl, hb⟩
              by_cases k1 : 0 < (mo : Int) <;>
              · go_wp2_with fail
                go_meet
                exact ⟨by simp, HA1.out.keep hb, HB1.out.keep hb, chain hb1 hb⟩
            · go_wp2_with fail
              go_meet
              exact ⟨rfl, HA1.out, HB1.out, hb1⟩
          case rest =>
            clear c0 c1 c2 c3 c4 c5 c6 c7 c8 c9 f0 f1 f2 f3 f4 f5 f6 f7 f8 f9 z0 z1 z2 z3 z4 z5 z6 z7 z8 z9 q0 q1 q2 q3 q4 q5 q6 q7 q8 q9 HA1 HB1 hb1
            obtain ⟨rfl, hA1, hB1, hb1⟩ := hcut
            obtain ⟨⟨c0, c1, c2, c3, c4, c5, c6, c7, c8, c9⟩, _⟩ := id hA1
            obtain ⟨f0, f1, f2, f3, f4, f5, f6, f7, f8, f9⟩ := hA1.facts
            obtain ⟨⟨z0, z1, z2, z3, z4, z5, z6, z7, z8, z9⟩, _⟩ := id hB1
            obtain ⟨q0, q1, q2, q3, q4, q5, q6, q7, q8, q9⟩ := hB1.facts
            have HA1 := Lib.hid hA1
            have HB1 := Lib.hid hB1
            clear hA1 hB1
            obtain ⟨t3, ht3⟩ : ∃ t3, t3 = (!fm && decide (0 < (mo : Int))) := ⟨_, rfl⟩
            rw [← ht3]
            cases t3
            · have HT3 := Lib.hid ht3.symm
              clear ht3
              have HNY := Lib.hid (nextF_year ⟨ft, fd, fm, fy, fY, fM, fD, fh, fi, fs⟩ s.data.toList n mo HN.out HMO.out HT1.out HT2.out HT3.out)
              go_upto_region 17 with (fail)
              go_cut [84] (fun v84 wx => v84 = .bool (!fy && decide (2 ≤ (n : Int)) && decide ((n : Int) ≤ 4)) ∧ wx = wc)
              case first =>
                rcases (show ¬ 2 ≤ (n : Int) ∨ (2 ≤ (n : Int) ∧ (n : Int) ≤ 4) ∨ (2 ≤ (n : Int) ∧ ¬ (n : Int) ≤ 4) from by omega) with k1 | ⟨k1, k2⟩ | ⟨k1, k2⟩ <;> cases fy <;>
                · go_wp2_with fail
                  go_meet
                  exact ⟨by first | (simp [k1, k2]; done) | (simp; done) | (simp; omega), rfl⟩
              case rest =>
                obtain ⟨rfl, rfl⟩ := hcut
                obtain ⟨t4, ht4⟩ : ∃ t4, t4 = (!fy && decide (2 ≤ (n : Int)) && decide ((n : Int) ≤ 4)) := ⟨_, rfl⟩
                rw [← ht4]
                cases t4
                · have HNX := Lib.hid (HNY.out.2 ht4.symm)
                  clear ht4 HNY
                  go_wp2
                  (try simp only [Exit.inBlock, Exit.then])
                  refine bodyPost_ret (v := fdV ⟨ft, fd, fm, fy, fY, fM, fD, fh, fi, fs⟩) (by rw [results_cell1 rfl]; go_simp) rfl ?_
                  refine ⟨by rw [HNX.out], ?_⟩
                  repeat (refine Below.setCell ?_ (by first | exact hwg | exact hwr) _)
                  exact hb1
                · have HNX := Lib.hid (HNY.out.1 ht4.symm)
                  obtain ⟨_, hn1, hn2⟩ := (test_year _ _).1 ht4.symm
                  clear ht4 HNY
                  have hes : (s.extract 0 n).size = n := by rw [ByteArray.size_extract]; omega
                  obtain ⟨x, hx⟩ : ∃ x, x = valN (s.data.toList.take n) := ⟨_, rfl⟩
                  have HU := Lib.hid (runfixed_yes (s.extract 0 n) x · (by omega) (by omega) (by rw [pref_list, HN.out]; exact digN_all _) (by rw [pref_list]; exact hx.symm))
                  rw [← hx] at HNX
                  clear hx
                  go_wp2_with fail
                  refine (HU.out _).mono ?_
                  rintro _ wy ⟨rfl, rfl⟩
                  go_wp2
                  (try simp only [Exit.inBlock, Exit.then])
                  refine bodyPost_ret (v := fdV ⟨ft, fd, fm, true, x, fM, fD, fh, fi, fs⟩) (by rw [results_cell1 rfl]; go_simp) rfl ?_
                  refine ⟨by rw [HNX.out], ?_⟩
                  repeat (refine Below.setCell ?_ (by first | exact hwg | exact hwr) _)
                  exact hb1
            · have HNX := Lib.hid (nextF_month ⟨ft, fd, fm, fy, fY, fM, fD, fh, fi, fs⟩ s.data.toList n mo HN.out HMO.out HT1.out HT2.out ht3.symm)
              clear ht3
              go_wp2_with fail
              refine (HM.out _).mono ?_
              rintro _ w2 ⟨rfl, hb⟩
              have hA2 := HA1.out.month.keep hb
              have hB2 := (HB1.out.other (.bool true) 2 hgr).keep hb
              have hb2 := chain (hb1.setCell (p := ⟨g, 2, none⟩) hwg (.bool true)) hb
              clear hb hb1
              clear c0 c1 c2 c3 c4 c5 c6 c7 c8 c9 f0 f1 f2 f3 f4 f5 f6 f7 f8 f9 z0 z1 z2 z3 z4 z5 z6 z7 z8 z9 q0 q1 q2 q3 q4 q5 q6 q7 q8 q9 HA1 HB1
              have hA1 := hA2
              have hB1 := hB2
              have hb1 := hb2
              clear hA2 hB2 hb2
              obtain ⟨⟨c0, c1, c2, c3, c4, c5, c6, c7, c8, c9⟩, _⟩ := id hA1
              obtain ⟨f0, f1, f2, f3, f4, f5, f6, f7, f8, f9⟩ := hA1.facts
              obtain ⟨⟨z0, z1, z2, z3, z4, z5, z6, z7, z8, z9⟩, _⟩ := id hB1
              obtain ⟨q0, q1, q2, q3, q4, q5, q6, q7, q8, q9⟩ := hB1.facts
              have HA1 := Lib.hid hA1
              have HB1 := Lib.hid hB1
              clear hA1 hB1
              go_wp2
              (try simp only [Exit.inBlock, Exit.then])
              refine bodyPost_ret (v := fdV ⟨ft, fd, true, fy, fY, mo, fD, fh, fi, fs⟩) (by rw [results_cell1 rfl]; go_simp) rfl ?_
              refine ⟨by rw [HNX.out], ?_⟩
              repeat (refine Below.setCell ?_ (by first | exact hwg | exact hwr) _)
              exact hb1
        · have HNX := Lib.hid (nextF_day ⟨ft, fd, fm, fy, fY, fM, fD, fh, fi, fs⟩ s.data.toList n HN.out HT1.out ht2.symm)
          obtain ⟨_, hn1, hn2⟩ := (test_day _ _ 0).1 ht2.symm
          clear ht2
          have hes : (s.extract 0 n).size = n := by rw [ByteArray.size_extract]; omega
          obtain ⟨x, hx⟩ : ∃ x, x = valN (s.data.toList.take n) := ⟨_, rfl⟩
          have HU := Lib.hid (runfixed_yes (s.extract 0 n) x · (by omega) (by omega) (by rw [pref_list, HN.out]; exact digN_all _) (by rw [pref_list]; exact hx.symm))
          rw [← hx] at HNX
          clear hx
          go_wp2_with fail
          refine (HU.out _).mono ?_
          rintro _ wy ⟨rfl, rfl⟩
          go_wp2
          (try simp only [Exit.inBlock, Exit.then])
          refine bodyPost_ret (v := fdV ⟨ft, true, fm, fy, fY, fM, x, fh, fi, fs⟩) (by rw [results_cell1 rfl]; go_simp) rfl ?_
          refine ⟨by rw [HNX.out], ?_⟩
          repeat (refine Below.setCell ?_ (by first | exact hwg | exact hwr) _)
          exact hb1
    · obtain ⟨hft, hi1⟩ := band_true ht1
      obtain ⟨a, b, c, htl, hrow⟩ := HYES.out hi1
      obtain ⟨bk, cap, rfl, hbk, i0, i1, i2⟩ := rowI_three hrow
      have HNX := Lib.hid (nextF_time ⟨ft, fd, fm, fy, fY, fM, fD, fh, fi, fs⟩ s.data.toList a b c hft htl)
      have hw2 : g < bk := by have := HG.out; rw [e1, e1] at hbk; omega
      have n1 : ¬ bk = g := by omega
      have n2 : ¬ g = bk := by omega
      have n3 : ¬ bk = r := by have := HR.out; rw [e1, e1] at hbk; omega
      have n4 : ¬ r = bk := by omega
      clear htl hrow ht1 hi1 e1 HYES hbk HA1 HB1 HD HM
      subst hft
      go_wp2
      (try simp only [Exit.inBlock, Exit.then])
      refine bodyPost_ret (v := fdV ⟨true, fd, fm, fy, fY, fM, fD, a, b, c⟩) (by rw [results_cell1 rfl]; go_simp) rfl ?_
      refine ⟨by rw [HNX.out], ?_⟩
      repeat (refine Below.setCell ?_ (by first | exact hwg | exact hwr) _)
      exact hb1
end Go.Proofs.YtmmkokomffclmaaDoor
