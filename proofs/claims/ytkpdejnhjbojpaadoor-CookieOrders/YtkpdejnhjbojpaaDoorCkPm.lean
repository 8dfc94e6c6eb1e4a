/-
  The program's order of cookies: Cmp, Greater: contracts.
-/
import Derived.Test.YtkpdejnhjbojpaaDoorCkPk
import Derived.Test.YtkpdejnhjbojpaaDoorCkRefG
namespace Go.Proofs.YtkpdejnhjbojpaaDoor
open Go.RowKit
set_option linter.unusedVariables false

theorem firstZ_in (m : List Int) : ∀ l : List Int, firstZ (firstZ l :: m) = firstZ (l ++ m)
  | [] => by simp [firstZ]
  | x :: l => by
    by_cases h : x = 0
    · have := firstZ_in m l
      simp only [firstZ, h, if_pos, List.cons_append] at this ⊢
      exact this
    · simp [firstZ, h]

theorem firstZ_cons (x : Int) {l m : List Int} (h : firstZ l = firstZ m) : firstZ (x :: l) = firstZ (x :: m) := by
  simp only [firstZ, h]

theorem firstC_at (a b : Ck) : cmpC a b = firstZ [cmpK a b, firstZ [cmpN a.cr b.cr, cmpN a.ac b.ac], cmpT a.val.data.toList b.val.data.toList, firstZ [cmpN a.ex b.ex, cmpN (bitN a.ho) (bitN b.ho), cmpN (bitN a.se) (bitN b.se), cmpN (bitN a.hp) (bitN b.hp), cmpN a.ss b.ss]] := by
  rw [cmpC_first]
  exact (firstZ_cons _ ((firstZ_in _ [cmpN a.cr b.cr, cmpN a.ac b.ac]).trans (firstZ_cons _ (firstZ_cons _ (firstZ_cons _ (firstZ_in [] [cmpN a.ex b.ex, cmpN (bitN a.ho) (bitN b.ho), cmpN (bitN a.se) (bitN b.se), cmpN (bitN a.hp) (bitN b.hp), cmpN a.ss b.ss])))))).symm

abbrev seenL (c : Ck) : List Value := [.int .i64 c.cr, .int .i64 c.ac]
abbrev restL (c : Ck) : List Value := [.int .i64 c.ex, .int .i64 (bitN c.ho), .int .i64 (bitN c.se), .int .i64 (bitN c.hp), .int .i64 c.ss]

theorem pair_seen {W : World} {g k : Nat} {a b : Ck} (h1 : RecL W g (seenL a)) (h2 : RecL W k (seenL b)) : IntPair W g k [cmpN a.cr b.cr, cmpN a.ac b.ac] := fun j hj => by
  rcases (show j = 0 ∨ j = 1 by simp only [List.length_cons, List.length_nil] at hj; omega) with rfl | rfl
  · exact ⟨_, _, h1.1 0 _ rfl, h2.1 0 _ rfl, rfl⟩
  · exact ⟨_, _, h1.1 1 _ rfl, h2.1 1 _ rfl, rfl⟩

theorem pair_rest {W : World} {g k : Nat} {a b : Ck} (h1 : RecL W g (restL a)) (h2 : RecL W k (restL b)) : IntPair W g k [cmpN a.ex b.ex, cmpN (bitN a.ho) (bitN b.ho), cmpN (bitN a.se) (bitN b.se), cmpN (bitN a.hp) (bitN b.hp), cmpN a.ss b.ss] := fun j hj => by
  rcases (show j = 0 ∨ j = 1 ∨ j = 2 ∨ j = 3 ∨ j = 4 by simp only [List.length_cons, List.length_nil] at hj; omega) with rfl | rfl | rfl | rfl | rfl
  · exact ⟨_, _, h1.1 0 _ rfl, h2.1 0 _ rfl, rfl⟩
  · exact ⟨_, _, h1.1 1 _ rfl, h2.1 1 _ rfl, rfl⟩
  · exact ⟨_, _, h1.1 2 _ rfl, h2.1 2 _ rfl, rfl⟩
  · exact ⟨_, _, h1.1 3 _ rfl, h2.1 3 _ rfl, rfl⟩
  · exact ⟨_, _, h1.1 4 _ rfl, h2.1 4 _ rfl, rfl⟩

theorem row_four (V : World) (x y z u : Int) (t : TypeId) : IntRow (V.alloc (.cells #[.int .i64 x, .int .i64 y, .int .i64 z, .int .i64 u] t)) V.heap.size [x, y, z, u] := fun j hj => by
  rcases (show j = 0 ∨ j = 1 ∨ j = 2 ∨ j = 3 by simp only [List.length_cons, List.length_nil] at hj; omega) with rfl | rfl | rfl | rfl <;> simp

set_option maxRecDepth 100000 in
set_option maxHeartbeats 3200000 in
theorem cmpc_any (a b : Ck) (w : World) : Calls Tryd.prog 17 #[ckV a, ckV b] w fun e w' => e = .returned (.int .i64 (cmpC a b)) ∧ Below w.heap.size w w' := by
  have HO1 := Lib.hid (of_any a)
  have HO2 := Lib.hid (of_any b)
  have HS1 := Lib.hid (seen_any a)
  have HS2 := Lib.hid (seen_any b)
  have HR1 := Lib.hid (rest_any a)
  have HR2 := Lib.hid (rest_any b)
  have HKC := Lib.hid (keyc_any a b)
  have HT := Lib.hid (scmp_text a.val b.val)
  have HV := Lib.hid (firstC_at a b)
  generalize cmpC a b = R at HV ⊢
  generalize cmpK a b = k0 at HKC HV
  generalize cmpT a.val.data.toList b.val.data.toList = k2 at HT HV
  have hA := (CkAt.new w a 23).keep ((Below.refl _ _).alloc (Nat.le_refl _) (.cells (ckCells b) 23))
  have hB := CkAt.new (w.alloc (.cells (ckCells a) 23)) b 23
  have hb0 := ((Below.refl w.heap.size w).alloc (Nat.le_refl _) (.cells (ckCells a) 23)).alloc (by simp) (.cells (ckCells b) 23)
  rw [show ∀ o : Obj, (w.alloc o).heap.size = w.heap.size + 1 from fun o => by simp] at hB
  simp only [ckCells] at hA hB hb0
  have H1 := Lib.hid hA
  have H2 := Lib.hid hB
  have HB0 := Lib.hid hb0
  clear hA hB hb0
  go_enter Tryd.func17, Tryd.ntmps17
  go_wp2_with (with_reducible refine wp_halt ?_)
  refine Halt.on ?_
  refine wp_region_inv (fun L act W => ∃ v0 v1 v2 v3 v4 v5, act = { tmps := #[ckV a, ckV b, .pointer (some ⟨w.heap.size, 0, none⟩), .pointer (some ⟨w.heap.size + 1, 0, none⟩), .int .i64 0, v4, v5, undef, undef, v0, v1, v2, v3, undef, undef, undef, undef, undef, undef, undef, undef, undef, undef, undef, undef, undef, undef, undef, undef, undef, undef, undef, undef, undef, undef], defers := [] } ∧ PairI (fun W => CkAt W w.heap.size a ∧ CkAt W (w.heap.size + 1) b) (ckV a) (.agg (seenL a).toArray) (ckV b) (.agg (seenL b).toArray) [.int .i64 a.cr, .int .i64 a.ac] [.int .i64 b.cr, .int .i64 b.ac] (w.heap.size + 2) (w.heap.size) w L v0 v1 v2 v3 v4 v5 W) (by kernel_rfl) (by kernel_rfl) ?_ ?_ ?_
  · refine ⟨undef, undef, undef, undef, undef, undef, rfl, PairI.start (fun W W' hs hb hg => ?_) ⟨H1.out, H2.out⟩ HB0.out (by omega) (by simp)⟩
    exact ⟨hg.1.keepN (by omega) hb, hg.2.keepN (by omega) hb⟩
  · intro i o ho L act W hI hn hdep K hK
    obtain ⟨v0, v1, v2, v3, v4, v5, rfl, hI⟩ := hI
    have HK := Lib.hid hK
    have HI := Lib.hid hI
    have hi : i < 8 := (Array.getElem?_eq_some_iff.1 ho).1
    clear hK hI H1 H2 HB0 HV HR1 HR2 HO1 HO2 HKC HT
    rcases (show i = 0 ∨ i = 1 ∨ i = 2 ∨ i = 3 ∨ i = 4 ∨ i = 5 ∨ i = 6 ∨ i = 7 from by omega) with rfl | rfl | rfl | rfl | rfl | rfl | rfl | rfl
    · simp only [List.getElem?_toArray, List.getElem?_cons_zero, Option.some.injEq] at ho
      subst ho
      obtain ⟨p0, p1, p2, p3, p4, p5, p6, p7, p8, p9, p10⟩ := HI.out.g.1
      clear hdep hi
      go_simp
      exact HK.out.out _ _ ⟨_, v1, v2, v3, v4, v5, rfl, HI.out.s0⟩
    · simp only [List.getElem?_toArray, List.getElem?_cons_succ, List.getElem?_cons_zero, Option.some.injEq] at ho
      subst ho
      have d0 : L 0 = true := hdep ⟨0, Ground.data⟩ (by simp) rfl
      have e := HI.out.h0 d0
      subst e
      clear hdep hi
      go_simp
      refine (HS1.out _).mono ?_
      rintro _ W1 ⟨rfl, hb⟩
      go_wp2_with fail
      exact HK.out.out _ _ ⟨_, _, v2, v3, v4, v5, rfl, HI.out.s1 hb⟩
    · simp only [List.getElem?_toArray, List.getElem?_cons_succ, List.getElem?_cons_zero, Option.some.injEq] at ho
      subst ho
      obtain ⟨p0, p1, p2, p3, p4, p5, p6, p7, p8, p9, p10⟩ := HI.out.g.2
      clear hdep hi
      go_simp
      exact HK.out.out _ _ ⟨v0, v1, _, v3, v4, v5, rfl, HI.out.s2⟩
    · simp only [List.getElem?_toArray, List.getElem?_cons_succ, List.getElem?_cons_zero, Option.some.injEq] at ho
      subst ho
      have d0 : L 2 = true := hdep ⟨2, Ground.data⟩ (by simp) rfl
      have e := HI.out.h2 d0
      subst e
      clear hdep hi
      go_simp
      refine (HS2.out _).mono ?_
      rintro _ W1 ⟨rfl, hb⟩
      go_wp2_with fail
      exact HK.out.out _ _ ⟨v0, v1, _, _, v4, v5, rfl, HI.out.s3 hb⟩
    · simp only [List.getElem?_toArray, List.getElem?_cons_succ, List.getElem?_cons_zero, Option.some.injEq] at ho
      subst ho
      clear hdep hi
      go_simp
      exact HK.out.out _ _ ⟨v0, v1, v2, v3, _, v5, rfl, HI.out.s4 hn [.int .i64 0, .int .i64 0] 55 rfl⟩
    · simp only [List.getElem?_toArray, List.getElem?_cons_succ, List.getElem?_cons_zero, Option.some.injEq] at ho
      subst ho
      clear hdep hi
      go_simp
      exact HK.out.out _ _ ⟨v0, v1, v2, v3, v4, _, rfl, HI.out.s5 hn [.int .i64 0, .int .i64 0] 55 rfl⟩
    · simp only [List.getElem?_toArray, List.getElem?_cons_succ, List.getElem?_cons_zero, Option.some.injEq] at ho
      subst ho
      have d4 : L 4 = true := hdep ⟨4, Ground.data⟩ (by simp) rfl
      have d1 : L 1 = true := hdep ⟨1, Ground.data⟩ (by simp) rfl
      have e := HI.out.h1 d1
      subst e
      obtain ⟨g, q, e, hg2, hl2, hr, _⟩ := HI.out.h4 d4
      subst e
      obtain ⟨x0, c0⟩ := hr.has 0 (by rw [hl2]; exact (by decide : (0 : Nat) < 2))
      have f0 := hr.2.1 0
      obtain ⟨x1, c1⟩ := hr.has 1 (by rw [hl2]; exact (by decide : (1 : Nat) < 2))
      have f1 := hr.2.1 1
      have HR := Lib.hid hr
      clear hr hdep hi
      go_simp
      exact HK.out.out _ _ ⟨v0, _, v2, v3, _, v5, rfl, HI.out.s6 d4 hg2 HR.out hl2⟩
    · simp only [List.getElem?_toArray, List.getElem?_cons_succ, List.getElem?_cons_zero, Option.some.injEq] at ho
      subst ho
      have d4 : L 5 = true := hdep ⟨5, Ground.data⟩ (by simp) rfl
      have d1 : L 3 = true := hdep ⟨3, Ground.data⟩ (by simp) rfl
      have e := HI.out.h3 d1
      subst e
      obtain ⟨g, q, e, hg2, hl2, hr, _⟩ := HI.out.h5 d4
      subst e
      obtain ⟨x0, c0⟩ := hr.has 0 (by rw [hl2]; exact (by decide : (0 : Nat) < 2))
      have f0 := hr.2.1 0
      obtain ⟨x1, c1⟩ := hr.has 1 (by rw [hl2]; exact (by decide : (1 : Nat) < 2))
      have f1 := hr.2.1 1
      have HR := Lib.hid hr
      clear hr hdep hi
      go_simp
      exact HK.out.out _ _ ⟨v0, v1, v2, _, v4, _, rfl, HI.out.s7 d4 hg2 HR.out hl2⟩
  · intro L a0 W1 hI hall
    obtain ⟨v0, v1, v2, v3, v4, v5, rfl, hI⟩ := hI
    obtain ⟨rfl, rfl, rfl, rfl, g1, k1, rfl, rfl, hg, hk, hgk, RG, RK, hGG, hbe⟩ := hI.done (fun j hj => hall j (by simpa using hj))
    clear hI hall
    clear H1 H2 HB0 HS1 HS2
    have hlt0 : w.heap.size < W1.heap.size := World.block_lt_of_cell? _ _ hGG.1.1
    have hlt1 : w.heap.size + 1 < W1.heap.size := World.block_lt_of_cell? _ _ hGG.2.1
    have hlg := RG.2.2
    have hlk := RK.2.2
    have H1 := Lib.hid (show CkAt W1 w.heap.size a ∧ CkAt W1 (w.heap.size + 1) b ∧ RecL W1 g1 (seenL a) ∧ RecL W1 k1 (seenL b) from ⟨hGG.1, hGG.2, RG, RK⟩)
    have HB0 := Lib.hid hbe
    clear hGG RG RK hbe hg hk
    go_wp2_with (with_reducible refine wp_halt ?_)
    refine Halt.on ?_
    refine wp_region_inv (fun L act W => ∃ v0 v1 v2 v3 v4 v5, act = { tmps := #[ckV a, ckV b, .pointer (some ⟨w.heap.size, 0, none⟩), .pointer (some ⟨w.heap.size + 1, 0, none⟩), .int .i64 0, .pointer (some ⟨g1, 0, none⟩), .pointer (some ⟨k1, 0, none⟩), v4, v5, ckV a, .agg (seenL a).toArray, ckV b, .agg (seenL b).toArray, v0, v1, v2, v3, undef, undef, undef, undef, undef, undef, undef, undef, undef, undef, undef, undef, undef, undef, undef, undef, undef, undef], defers := [] } ∧ PairI (fun W => CkAt W w.heap.size a ∧ CkAt W (w.heap.size + 1) b ∧ RecL W g1 (seenL a) ∧ RecL W k1 (seenL b)) (ckV a) (.agg (restL a).toArray) (ckV b) (.agg (restL b).toArray) [.int .i64 a.ex, .int .i64 (bitN a.ho), .int .i64 (bitN a.se), .int .i64 (bitN a.hp), .int .i64 a.ss] [.int .i64 b.ex, .int .i64 (bitN b.ho), .int .i64 (bitN b.se), .int .i64 (bitN b.hp), .int .i64 b.ss] (W1.heap.size) (w.heap.size) w L v0 v1 v2 v3 v4 v5 W) (by kernel_rfl) (by kernel_rfl) ?_ ?_ ?_
    · refine ⟨undef, undef, undef, undef, undef, undef, rfl, PairI.start (fun W W' hs hb hg => ?_) H1.out HB0.out HB0.out.size (Nat.le_refl _)⟩
      exact ⟨hg.1.keepN hlt0 hb, hg.2.1.keepN hlt1 hb, hg.2.2.1.keepN hlg hb, hg.2.2.2.keepN hlk hb⟩
    · intro i o ho L act W hI hn hdep K hK
      obtain ⟨v0, v1, v2, v3, v4, v5, rfl, hI⟩ := hI
      have HK := Lib.hid hK
      have HI := Lib.hid hI
      have hi : i < 8 := (Array.getElem?_eq_some_iff.1 ho).1
      clear hK hI H1 HB0 HV HO1 HO2 HKC HT
      rcases (show i = 0 ∨ i = 1 ∨ i = 2 ∨ i = 3 ∨ i = 4 ∨ i = 5 ∨ i = 6 ∨ i = 7 from by omega) with rfl | rfl | rfl | rfl | rfl | rfl | rfl | rfl
      · simp only [List.getElem?_toArray, List.getElem?_cons_zero, Option.some.injEq] at ho
        subst ho
        obtain ⟨p0, p1, p2, p3, p4, p5, p6, p7, p8, p9, p10⟩ := HI.out.g.1
        clear hdep hi
        go_simp
        exact HK.out.out _ _ ⟨_, v1, v2, v3, v4, v5, rfl, HI.out.s0⟩
      · simp only [List.getElem?_toArray, List.getElem?_cons_succ, List.getElem?_cons_zero, Option.some.injEq] at ho
        subst ho
        have d0 : L 0 = true := hdep ⟨0, Ground.data⟩ (by simp) rfl
        have e := HI.out.h0 d0
        subst e
        clear hdep hi
        go_simp
        refine (HR1.out _).mono ?_
        rintro _ W1 ⟨rfl, hb⟩
        go_wp2_with fail
        exact HK.out.out _ _ ⟨_, _, v2, v3, v4, v5, rfl, HI.out.s1 hb⟩
      · simp only [List.getElem?_toArray, List.getElem?_cons_succ, List.getElem?_cons_zero, Option.some.injEq] at ho
        subst ho
        obtain ⟨p0, p1, p2, p3, p4, p5, p6, p7, p8, p9, p10⟩ := HI.out.g.2.1
        clear hdep hi
        go_simp
        exact HK.out.out _ _ ⟨v0, v1, _, v3, v4, v5, rfl, HI.out.s2⟩
      · simp only [List.getElem?_toArray, List.getElem?_cons_succ, List.getElem?_cons_zero, Option.some.injEq] at ho
        subst ho
        have d0 : L 2 = true := hdep ⟨2, Ground.data⟩ (by simp) rfl
        have e := HI.out.h2 d0
        subst e
        clear hdep hi
        go_simp
        refine (HR2.out _).mono ?_
        rintro _ W1 ⟨rfl, hb⟩
        go_wp2_with fail
        exact HK.out.out _ _ ⟨v0, v1, _, _, v4, v5, rfl, HI.out.s3 hb⟩
      · simp only [List.getElem?_toArray, List.getElem?_cons_succ, List.getElem?_cons_zero, Option.some.injEq] at ho
        subst ho
        clear hdep hi
        go_simp
        exact HK.out.out _ _ ⟨v0, v1, v2, v3, _, v5, rfl, HI.out.s4 hn [.int .i64 0, .int .i64 0, .int .i64 0, .int .i64 0, .int .i64 0] 57 rfl⟩
      · simp only [List.getElem?_toArray, List.getElem?_cons_succ, List.getElem?_cons_zero, Option.some.injEq] at ho
        subst ho
        clear hdep hi
        go_simp
        exact HK.out.out _ _ ⟨v0, v1, v2, v3, v4, _, rfl, HI.out.s5 hn [.int .i64 0, .int .i64 0, .int .i64 0, .int .i64 0, .int .i64 0] 57 rfl⟩
      · simp only [List.getElem?_toArray, List.getElem?_cons_succ, List.getElem?_cons_zero, Option.some.injEq] at ho
        subst ho
        have d4 : L 4 = true := hdep ⟨4, Ground.data⟩ (by simp) rfl
        have d1 : L 1 = true := hdep ⟨1, Ground.data⟩ (by simp) rfl
        have e := HI.out.h1 d1
        subst e
        obtain ⟨g, q, e, hg2, hl2, hr, _⟩ := HI.out.h4 d4
        subst e
        obtain ⟨x0, c0⟩ := hr.has 0 (by rw [hl2]; exact (by decide : (0 : Nat) < 5))
        have f0 := hr.2.1 0
        obtain ⟨x1, c1⟩ := hr.has 1 (by rw [hl2]; exact (by decide : (1 : Nat) < 5))
        have f1 := hr.2.1 1
        obtain ⟨x2, c2⟩ := hr.has 2 (by rw [hl2]; exact (by decide : (2 : Nat) < 5))
        have f2 := hr.2.1 2
        obtain ⟨x3, c3⟩ := hr.has 3 (by rw [hl2]; exact (by decide : (3 : Nat) < 5))
        have f3 := hr.2.1 3
        obtain ⟨x4, c4⟩ := hr.has 4 (by rw [hl2]; exact (by decide : (4 : Nat) < 5))
        have f4 := hr.2.1 4
        have HR := Lib.hid hr
        clear hr hdep hi
        go_simp
        exact HK.out.out _ _ ⟨v0, _, v2, v3, _, v5, rfl, HI.out.s6 d4 hg2 HR.out hl2⟩
      · simp only [List.getElem?_toArray, List.getElem?_cons_succ, List.getElem?_cons_zero, Option.some.injEq] at ho
        subst ho
        have d4 : L 5 = true := hdep ⟨5, Ground.data⟩ (by simp) rfl
        have d1 : L 3 = true := hdep ⟨3, Ground.data⟩ (by simp) rfl
        have e := HI.out.h3 d1
        subst e
        obtain ⟨g, q, e, hg2, hl2, hr, _⟩ := HI.out.h5 d4
        subst e
        obtain ⟨x0, c0⟩ := hr.has 0 (by rw [hl2]; exact (by decide : (0 : Nat) < 5))
        have f0 := hr.2.1 0
        obtain ⟨x1, c1⟩ := hr.has 1 (by rw [hl2]; exact (by decide : (1 : Nat) < 5))
        have f1 := hr.2.1 1
        obtain ⟨x2, c2⟩ := hr.has 2 (by rw [hl2]; exact (by decide : (2 : Nat) < 5))
        have f2 := hr.2.1 2
        obtain ⟨x3, c3⟩ := hr.has 3 (by rw [hl2]; exact (by decide : (3 : Nat) < 5))
        have f3 := hr.2.1 3
        obtain ⟨x4, c4⟩ := hr.has 4 (by rw [hl2]; exact (by decide : (4 : Nat) < 5))
        have f4 := hr.2.1 4
        have HR := Lib.hid hr
        clear hr hdep hi
        go_simp
        exact HK.out.out _ _ ⟨v0, v1, v2, _, v4, _, rfl, HI.out.s7 d4 hg2 HR.out hl2⟩
    · intro L a0 W hI hall
      obtain ⟨v0, v1, v2, v3, v4, v5, rfl, hI⟩ := hI
      obtain ⟨rfl, rfl, rfl, rfl, g, k, rfl, rfl, hg, hk, hgk, RG, RK, hGG, hbe⟩ := hI.done (fun j hj => hall j (by simpa using hj))
      clear hI hall
      clear H1 HB0 HR1 HR2 hlt0 hlt1 hlg hlk hg hk hgk
      obtain ⟨hA, hB, R1, R2⟩ := hGG
      have p0 : ∀ x : Ext W, x.world.cell? ⟨w.heap.size, 0, none⟩ = some (.string a.dom) := fun x => (hA.keep x.below).1
      have p1 : ∀ x : Ext W, x.world.cell? ⟨w.heap.size, 1, none⟩ = some (.string a.path) := fun x => (hA.keep x.below).2.1
      have p2 : ∀ x : Ext W, x.world.cell? ⟨w.heap.size, 2, none⟩ = some (.string a.name) := fun x => (hA.keep x.below).2.2.1
      have p3 : ∀ x : Ext W, x.world.cell? ⟨w.heap.size, 3, none⟩ = some (.string a.val) := fun x => (hA.keep x.below).2.2.2.1
      have p4 : ∀ x : Ext W, x.world.cell? ⟨w.heap.size, 4, none⟩ = some (.int .i64 a.cr) := fun x => (hA.keep x.below).2.2.2.2.1
      have p5 : ∀ x : Ext W, x.world.cell? ⟨w.heap.size, 5, none⟩ = some (.int .i64 a.ac) := fun x => (hA.keep x.below).2.2.2.2.2.1
      have p6 : ∀ x : Ext W, x.world.cell? ⟨w.heap.size, 6, none⟩ = some (.int .i64 a.ex) := fun x => (hA.keep x.below).2.2.2.2.2.2.1
      have p7 : ∀ x : Ext W, x.world.cell? ⟨w.heap.size, 7, none⟩ = some (.bool a.ho) := fun x => (hA.keep x.below).2.2.2.2.2.2.2.1
      have p8 : ∀ x : Ext W, x.world.cell? ⟨w.heap.size, 8, none⟩ = some (.bool a.se) := fun x => (hA.keep x.below).2.2.2.2.2.2.2.2.1
      have p9 : ∀ x : Ext W, x.world.cell? ⟨w.heap.size, 9, none⟩ = some (.bool a.hp) := fun x => (hA.keep x.below).2.2.2.2.2.2.2.2.2.1
      have p10 : ∀ x : Ext W, x.world.cell? ⟨w.heap.size, 10, none⟩ = some (.int .i64 a.ss) := fun x => (hA.keep x.below).2.2.2.2.2.2.2.2.2.2
      have q0 : ∀ x : Ext W, x.world.cell? ⟨w.heap.size + 1, 0, none⟩ = some (.string b.dom) := fun x => (hB.keep x.below).1
      have q1 : ∀ x : Ext W, x.world.cell? ⟨w.heap.size + 1, 1, none⟩ = some (.string b.path) := fun x => (hB.keep x.below).2.1
      have q2 : ∀ x : Ext W, x.world.cell? ⟨w.heap.size + 1, 2, none⟩ = some (.string b.name) := fun x => (hB.keep x.below).2.2.1
      have q3 : ∀ x : Ext W, x.world.cell? ⟨w.heap.size + 1, 3, none⟩ = some (.string b.val) := fun x => (hB.keep x.below).2.2.2.1
      have q4 : ∀ x : Ext W, x.world.cell? ⟨w.heap.size + 1, 4, none⟩ = some (.int .i64 b.cr) := fun x => (hB.keep x.below).2.2.2.2.1
      have q5 : ∀ x : Ext W, x.world.cell? ⟨w.heap.size + 1, 5, none⟩ = some (.int .i64 b.ac) := fun x => (hB.keep x.below).2.2.2.2.2.1
      have q6 : ∀ x : Ext W, x.world.cell? ⟨w.heap.size + 1, 6, none⟩ = some (.int .i64 b.ex) := fun x => (hB.keep x.below).2.2.2.2.2.2.1
      have q7 : ∀ x : Ext W, x.world.cell? ⟨w.heap.size + 1, 7, none⟩ = some (.bool b.ho) := fun x => (hB.keep x.below).2.2.2.2.2.2.2.1
      have q8 : ∀ x : Ext W, x.world.cell? ⟨w.heap.size + 1, 8, none⟩ = some (.bool b.se) := fun x => (hB.keep x.below).2.2.2.2.2.2.2.2.1
      have q9 : ∀ x : Ext W, x.world.cell? ⟨w.heap.size + 1, 9, none⟩ = some (.bool b.hp) := fun x => (hB.keep x.below).2.2.2.2.2.2.2.2.2.1
      have q10 : ∀ x : Ext W, x.world.cell? ⟨w.heap.size + 1, 10, none⟩ = some (.int .i64 b.ss) := fun x => (hB.keep x.below).2.2.2.2.2.2.2.2.2.2
      have HC1 : Hid (∀ x : Ext W, Calls Tryd.prog 42 #[.slice (some ⟨g1, 0, none⟩) 2 2, .slice (some ⟨k1, 0, none⟩) 2 2] x.world fun e w' => e = .returned (.int .i64 (firstZ [cmpN a.cr b.cr, cmpN a.ac b.ac])) ∧ w' = x.world) := Lib.hid fun x => cmp_ints g1 k1 [cmpN a.cr b.cr, cmpN a.ac b.ac] x.world (pair_seen (R1.keep x.below) (R2.keep x.below)) (by simp)
      have HC2 : Hid (∀ x : Ext W, Calls Tryd.prog 42 #[.slice (some ⟨g, 0, none⟩) 5 5, .slice (some ⟨k, 0, none⟩) 5 5] x.world fun e w' => e = .returned (.int .i64 (firstZ [cmpN a.ex b.ex, cmpN (bitN a.ho) (bitN b.ho), cmpN (bitN a.se) (bitN b.se), cmpN (bitN a.hp) (bitN b.hp), cmpN a.ss b.ss])) ∧ w' = x.world) := Lib.hid fun x => cmp_ints g k [cmpN a.ex b.ex, cmpN (bitN a.ho) (bitN b.ho), cmpN (bitN a.se) (bitN b.se), cmpN (bitN a.hp) (bitN b.hp), cmpN a.ss b.ss] x.world (pair_rest (RG.keep x.below) (RK.keep x.below)) (by simp)
      clear hA hB R1 R2 RG RK
      go_wp2_with (with_reducible refine wp_halt ?_)
      refine Halt.on ?_
      refine wp_region_lastL (z := 16) (r := 3) (by kernel_rfl) (by kernel_rfl) (by dsimp only [List.take]) (by dsimp only [List.drop]) ?_
      repeat (go_big_quiet_step (first
        | (go_at_call 13; with_reducible refine (HO1.out _).mono ?_; rintro _ w1 ⟨rfl, hb1⟩; exact ⟨rfl, Ext.on _ hb1⟩)
        | (go_at_call 13; with_reducible refine (HO2.out _).mono ?_; rintro _ w1 ⟨rfl, hb1⟩; exact ⟨rfl, Ext.on _ hb1⟩)
        | (go_at_call 14; with_reducible refine (HKC.out _).mono ?_; rintro _ w1 ⟨rfl, hb1⟩; exact ⟨rfl, Ext.on _ hb1⟩)
        | (go_at_call 42; with_reducible refine (HC1.out _).mono ?_; rintro _ w1 ⟨rfl, rfl⟩; exact ⟨rfl, Ext.same _ rfl⟩)
        | (go_at_call 42; with_reducible refine (HC2.out _).mono ?_; rintro _ w1 ⟨rfl, rfl⟩; exact ⟨rfl, Ext.same _ rfl⟩)
        | (go_at_call 43; refine (HT.out _).mono ?_; rintro _ w1 ⟨rfl, rfl⟩; exact ⟨rfl, Ext.same _ rfl⟩)))
      refine wpQuiet_nil ?_
      rintro _ ⟨x, rfl⟩
      have hb1 := chain hbe x.below
      generalize x.world = V at hb1 ⊢
      clear HO1 HO2 HKC HT HC1 HC2 p0 p1 p2 p3 p4 p5 p6 p7 p8 p9 p10 q0 q1 q2 q3 q4 q5 q6 q7 q8 q9 q10
      generalize firstZ [cmpN a.cr b.cr, cmpN a.ac b.ac] = k1' at HV ⊢
      generalize firstZ [cmpN a.ex b.ex, cmpN (bitN a.ho) (bitN b.ho), cmpN (bitN a.se) (bitN b.se), cmpN (bitN a.hp) (bitN b.hp), cmpN a.ss b.ss] = k3 at HV ⊢
      have hb2 := hb1.alloc hb1.size (.cells #[.int .i64 k0, .int .i64 k1', .int .i64 k2, .int .i64 k3] 3)
      have HROW := Lib.hid (row_four V k0 k1' k2 k3 3)
      go_wp2_with (go_at_call 41; refine (or_int V.heap.size [k0, k1', k2, k3] _ HROW.out (by simp)).mono ?_; rintro _ w1 ⟨rfl, rfl⟩)
      go_ret
      exact ⟨ret_i64 HV.out.symm, hb2⟩

set_option maxRecDepth 100000 in
set_option maxHeartbeats 3200000 in
theorem greatc_any (a b : Ck) (w : World) :
    Calls Tryd.prog 19 #[ckV a, ckV b] w fun e w' => e = .returned (ckV (grC a b)) ∧ Below w.heap.size w w' := by
  have HC := Lib.hid (cmpc_any a b)
  have HG : Hid (grC a b = if cmpC a b < 0 then b else a) := rfl
  generalize cmpC a b = k at HC HG
  generalize grC a b = G at HG ⊢
  obtain ⟨d, p, n, v, cr, ac, ex, ho, se, hp, ss⟩ := a
  obtain ⟨d', p', n', v', cr', ac', ex', ho', se', hp', ss'⟩ := b
  have hA := ((CkAt.new w ⟨d, p, n, v, cr, ac, ex, ho, se, hp, ss⟩ 23).keep ((Below.refl _ _).alloc (Nat.le_refl _) (.cells (ckCells ⟨d', p', n', v', cr', ac', ex', ho', se', hp', ss'⟩) 23))).keep ((Below.refl _ _).alloc (Nat.le_refl _) (.cells (ckCells ⟨⟨#[]⟩, ⟨#[]⟩, ⟨#[]⟩, ⟨#[]⟩, 0, 0, 0, false, false, false, 0⟩) 23))
  have hB := (CkAt.new (w.alloc (.cells (ckCells ⟨d, p, n, v, cr, ac, ex, ho, se, hp, ss⟩) 23)) ⟨d', p', n', v', cr', ac', ex', ho', se', hp', ss'⟩ 23).keep ((Below.refl _ _).alloc (Nat.le_refl _) (.cells (ckCells ⟨⟨#[]⟩, ⟨#[]⟩, ⟨#[]⟩, ⟨#[]⟩, 0, 0, 0, false, false, false, 0⟩) 23))
  have hZ := CkAt.new ((w.alloc (.cells (ckCells ⟨d, p, n, v, cr, ac, ex, ho, se, hp, ss⟩) 23)).alloc (.cells (ckCells ⟨d', p', n', v', cr', ac', ex', ho', se', hp', ss'⟩) 23)) ⟨⟨#[]⟩, ⟨#[]⟩, ⟨#[]⟩, ⟨#[]⟩, 0, 0, 0, false, false, false, 0⟩ 23
  have hF : ∀ i, (((w.alloc (.cells (ckCells ⟨d, p, n, v, cr, ac, ex, ho, se, hp, ss⟩) 23)).alloc (.cells (ckCells ⟨d', p', n', v', cr', ac', ex', ho', se', hp', ss'⟩) 23)).alloc (.cells (ckCells ⟨⟨#[]⟩, ⟨#[]⟩, ⟨#[]⟩, ⟨#[]⟩, 0, 0, 0, false, false, false, 0⟩) 23)).frozen? ⟨w.heap.size + 1 + 1, i, none⟩ = false := fun i => World.frozen?_alloc_at _ _ _ _ (by simp)
  have hlt : w.heap.size + 1 + 1 < (((w.alloc (.cells (ckCells ⟨d, p, n, v, cr, ac, ex, ho, se, hp, ss⟩) 23)).alloc (.cells (ckCells ⟨d', p', n', v', cr', ac', ex', ho', se', hp', ss'⟩) 23)).alloc (.cells (ckCells ⟨⟨#[]⟩, ⟨#[]⟩, ⟨#[]⟩, ⟨#[]⟩, 0, 0, 0, false, false, false, 0⟩) 23)).heap.size := by simp
  have hb0 := (((Below.refl w.heap.size w).alloc (Nat.le_refl _) (.cells (ckCells ⟨d, p, n, v, cr, ac, ex, ho, se, hp, ss⟩) 23)).alloc (by simp) (.cells (ckCells ⟨d', p', n', v', cr', ac', ex', ho', se', hp', ss'⟩) 23)).alloc (by simp; omega) (.cells (ckCells ⟨⟨#[]⟩, ⟨#[]⟩, ⟨#[]⟩, ⟨#[]⟩, 0, 0, 0, false, false, false, 0⟩) 23)
  rw [show ∀ o : Obj, (w.alloc o).heap.size = w.heap.size + 1 from fun o => by simp] at hB
  rw [show ∀ o o' : Obj, ((w.alloc o).alloc o').heap.size = w.heap.size + 1 + 1 from fun o o' => by simp] at hZ
  simp only [ckCells] at hA hB hZ hF hlt hb0
  go_enter Tryd.func19, Tryd.ntmps19
  go_wp2_with fail
  refine (HC.out _).mono ?_
  rintro _ w1 ⟨rfl, hb⟩
  have hb1 := chain hb0 hb
  replace hA := hA.keep hb
  replace hB := hB.keep hb
  replace hZ := hZ.keep hb
  have hF1 : ∀ i, w1.frozen? ⟨w.heap.size + 1 + 1, i, none⟩ = false := fun i => by rw [hb.frozen (p := ⟨w.heap.size + 1 + 1, i, none⟩) hlt]; exact hF i
  clear hb hb0 HC hlt hF
  obtain ⟨a0, a1, a2, a3, a4, a5, a6, a7, a8, a9, a10⟩ := hA
  obtain ⟨b0, b1, b2, b3, b4, b5, b6, b7, b8, b9, b10⟩ := hB
  obtain ⟨z0, z1, z2, z3, z4, z5, z6, z7, z8, z9, z10⟩ := hZ
  by_cases hk : k < 0
  · have hk' : decide (k < 0) = true := decide_eq_true hk
    have HG2 : Hid (G = ⟨d', p', n', v', cr', ac', ex', ho', se', hp', ss'⟩) := by show _ = _; rw [HG.out, if_pos hk]
    clear HG
    go_wp2
    (try simp only [Exit.inBlock, Exit.then])
    refine bodyPost_ret (v := ckV ⟨d', p', n', v', cr', ac', ex', ho', se', hp', ss'⟩) (by rw [results_cellK rfl]; go_simp) rfl ?_
    exact ⟨by rw [HG2.out], store11 hb1 (by omega) _ _ _ _ _ _ _ _ _ _ _⟩
  · have hk' : decide (k < 0) = false := decide_eq_false hk
    have HG2 : Hid (G = ⟨d, p, n, v, cr, ac, ex, ho, se, hp, ss⟩) := by show _ = _; rw [HG.out, if_neg hk]
    clear HG
    go_wp2
    (try simp only [Exit.inBlock, Exit.then])
    refine bodyPost_ret (v := ckV ⟨d, p, n, v, cr, ac, ex, ho, se, hp, ss⟩) (by rw [results_cellK rfl]; go_simp) rfl ?_
    exact ⟨by rw [HG2.out], store11 hb1 (by omega) _ _ _ _ _ _ _ _ _ _ _⟩
end Go.Proofs.YtkpdejnhjbojpaaDoor
