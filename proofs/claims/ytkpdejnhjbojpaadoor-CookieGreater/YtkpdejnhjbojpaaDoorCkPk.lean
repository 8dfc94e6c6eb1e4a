/-
  The program's keys of cookies: texts, Of, seen, rest, Key.Cmp: contracts.
-/
import Derived.Test.YtkpdejnhjbojpaaDoorCkPc
import Derived.Test.YtkpdejnhjbojpaaDoorBasePair
namespace Go.Proofs.YtkpdejnhjbojpaaDoor
open Go.RowKit
set_option linter.unusedVariables false

theorem KeyAt.keepN {m : Nat} {w w' : World} {g : Nat} {d p n : ByteArray} (h : KeyAt w g d p n) (hg : g < m) (hb : Below m w w') : KeyAt w' g d p n := by
  obtain ⟨c0, c1, c2⟩ := h
  refine ⟨?_, ?_, ?_⟩ <;> rw [hb.cell hg] <;> assumption

theorem CkAt.keepN {m : Nat} {w w' : World} {g : Nat} {c : Ck} (h : CkAt w g c) (hg : g < m) (hb : Below m w w') : CkAt w' g c := by
  obtain ⟨c0, c1, c2, c3, c4, c5, c6, c7, c8, c9, c10⟩ := h
  refine ⟨?_, ?_, ?_, ?_, ?_, ?_, ?_, ?_, ?_, ?_, ?_⟩ <;> rw [hb.cell hg] <;> assumption

set_option maxRecDepth 100000 in
theorem texts_any (d p n : ByteArray) (w : World) :
    Calls Tryd.prog 36 #[keyV d p n] w fun e w' => e = .returned (keyV d p n) ∧ Below w.heap.size w w' := by
  go_enter Tryd.func36, Tryd.ntmps36
  go_wp2
  (try simp only [Exit.inBlock, Exit.then])
  refine bodyPost_ret (v := keyV d p n) (by rw [results_cellK rfl]; go_simp) rfl ?_
  exact ⟨rfl, ((Below.refl _ _).alloc (Nat.le_refl _) _).alloc (by simp) _⟩

set_option maxRecDepth 100000 in
theorem of_any (c : Ck) (w : World) :
    Calls Tryd.prog 13 #[ckV c] w fun e w' => e = .returned (keyV c.dom c.path c.name) ∧ Below w.heap.size w w' := by
  obtain ⟨d, p, n, v, cr, ac, ex, ho, se, hp, ss⟩ := c
  go_enter Tryd.func13, Tryd.ntmps13
  go_wp2
  (try simp only [Exit.inBlock, Exit.then])
  refine bodyPost_ret (v := keyV d p n) (by rw [results_cellK rfl]; go_simp) rfl ?_
  exact ⟨rfl, ((Below.refl _ _).alloc (Nat.le_refl _) _).alloc (by simp) _⟩

set_option maxRecDepth 100000 in
theorem seen_any (c : Ck) (w : World) :
    Calls Tryd.prog 39 #[ckV c] w fun e w' => e = .returned (.agg #[.int .i64 c.cr, .int .i64 c.ac]) ∧ Below w.heap.size w w' := by
  obtain ⟨d, p, n, v, cr, ac, ex, ho, se, hp, ss⟩ := c
  go_enter Tryd.func39, Tryd.ntmps39
  go_wp2
  (try simp only [Exit.inBlock, Exit.then])
  refine bodyPost_ret (v := .agg #[.int .i64 cr, .int .i64 ac]) (by rw [results_cellK rfl]; go_simp) rfl ?_
  exact ⟨rfl, ((Below.refl _ _).alloc (Nat.le_refl _) _).alloc (by simp) _⟩

set_option maxRecDepth 100000 in
theorem counts_any (b : Bool) (w : World) :
    Calls Tryd.prog 64 #[.bool b] w fun e w' => e = .returned (.int .i64 (bitN b)) ∧ w' = w := by
  cases b
  · go_enter Tryd.func64, Tryd.ntmps64
    go_wp2
    go_ret
    exact ⟨rfl, rfl⟩
  · go_enter Tryd.func64, Tryd.ntmps64
    go_wp2
    go_ret
    exact ⟨rfl, rfl⟩

set_option maxRecDepth 100000 in
set_option maxHeartbeats 1600000 in
theorem rest_any (c : Ck) (w : World) :
    Calls Tryd.prog 40 #[ckV c] w fun e w' => e = .returned (.agg #[.int .i64 c.ex, .int .i64 (bitN c.ho), .int .i64 (bitN c.se), .int .i64 (bitN c.hp), .int .i64 c.ss]) ∧ Below w.heap.size w w' := by
  have ga := (CkAt.new w c 23).keep ((Below.refl _ _).alloc (Nat.le_refl _) (.cells #[.int .i64 0, .int .i64 0, .int .i64 0, .int .i64 0, .int .i64 0] 57))
  have gz := RecL.new (w.alloc (.cells (ckCells c) 23)) [.int .i64 0, .int .i64 0, .int .i64 0, .int .i64 0, .int .i64 0] 57
  have hb0 := ((Below.refl w.heap.size w).alloc (Nat.le_refl _) (.cells (ckCells c) 23)).alloc (by simp) (.cells #[.int .i64 0, .int .i64 0, .int .i64 0, .int .i64 0, .int .i64 0] 57)
  rw [show ∀ o : Obj, (w.alloc o).heap.size = w.heap.size + 1 from fun o => by simp] at gz
  obtain ⟨d, p, n, v, cr, ac, ex, ho, se, hp, ss⟩ := c
  simp only [ckCells] at ga gz hb0
  go_enter Tryd.func40, Tryd.ntmps40
  go_wp2_with (with_reducible refine wp_halt ?_)
  refine Halt.on ?_
  generalize hW : (w.alloc (.cells #[.string d, .string p, .string n, .string v, .int .i64 cr, .int .i64 ac, .int .i64 ex, .bool ho, .bool se, .bool hp, .int .i64 ss] 23)).alloc (.cells #[.int .i64 0, .int .i64 0, .int .i64 0, .int .i64 0, .int .i64 0] 57) = W at *
  clear hW
  have p6 : ∀ x : Ext W, x.world.cell? ⟨w.heap.size, 6, none⟩ = some (.int .i64 ex) := fun x => (ga.keep x.below).2.2.2.2.2.2.1
  have p7 : ∀ x : Ext W, x.world.cell? ⟨w.heap.size, 7, none⟩ = some (.bool ho) := fun x => (ga.keep x.below).2.2.2.2.2.2.2.1
  have p8 : ∀ x : Ext W, x.world.cell? ⟨w.heap.size, 8, none⟩ = some (.bool se) := fun x => (ga.keep x.below).2.2.2.2.2.2.2.2.1
  have p9 : ∀ x : Ext W, x.world.cell? ⟨w.heap.size, 9, none⟩ = some (.bool hp) := fun x => (ga.keep x.below).2.2.2.2.2.2.2.2.2.1
  have p10 : ∀ x : Ext W, x.world.cell? ⟨w.heap.size, 10, none⟩ = some (.int .i64 ss) := fun x => (ga.keep x.below).2.2.2.2.2.2.2.2.2.2
  have GZ := Lib.hid gz
  clear ga gz
  refine wp_region_lastL (z := 17) (r := 1) (by kernel_rfl) (by kernel_rfl) (by dsimp only [List.take]) (by dsimp only [List.drop]) ?_
  repeat (go_big_quiet_step (first
    | (go_at_call 64; refine (counts_any _ _).mono ?_; rintro _ w1 ⟨rfl, rfl⟩; exact ⟨rfl, Ext.same _ rfl⟩)))
  refine wpQuiet_nil ?_
  rintro _ ⟨x, rfl⟩
  have hb1 := chain hb0 x.below
  have gz := GZ.out.keep x.below
  clear p6 p7 p8 p9 p10 GZ hb0
  generalize x.world = V at hb1 gz ⊢
  obtain ⟨zc, zf, -⟩ := gz
  have z0 := zc 0 _ rfl
  have z1 := zc 1 _ rfl
  have z2 := zc 2 _ rfl
  have z3 := zc 3 _ rfl
  have z4 := zc 4 _ rfl
  have hF : ∀ i, V.frozen? ⟨w.heap.size + 1, i, none⟩ = false := zf
  clear zc zf
  go_wp2
  (try simp only [Exit.inBlock, Exit.then])
  refine bodyPost_ret (v := .agg #[.int .i64 ex, .int .i64 (bitN ho), .int .i64 (bitN se), .int .i64 (bitN hp), .int .i64 ss]) (by rw [results_cellK rfl]; go_simp) rfl ?_
  exact ⟨rfl, setL_below (w.heap.size + 1) (by omega) [.int .i64 ex, .int .i64 (bitN ho), .int .i64 (bitN se), .int .i64 (bitN hp), .int .i64 ss] 0 V hb1⟩

theorem firstK_at (a b : Ck) : cmpK a b = firstZ [cmpT a.dom.data.toList b.dom.data.toList, cmpT a.path.data.toList b.path.data.toList, cmpT a.name.data.toList b.name.data.toList] := by
  have e : ∀ x : Int, (if x = 0 then 0 else x) = x := fun x => by split <;> simp_all
  rw [cmpK_at]
  simp only [firstZ, e]

set_option maxRecDepth 100000 in
set_option maxHeartbeats 3200000 in
theorem keyc_any (a b : Ck) (w : World) : Calls Tryd.prog 14 #[keyV a.dom a.path a.name, keyV b.dom b.path b.name] w fun e w' => e = .returned (.int .i64 (cmpK a b)) ∧ Below w.heap.size w w' := by
  have HV := Lib.hid (firstK_at a b)
  generalize cmpK a b = R at HV ⊢
  obtain ⟨d, p, n, v, cr, ac, ex, ho, se, hp, ss⟩ := a
  obtain ⟨d', p', n', v', cr', ac', ex', ho', se', hp', ss'⟩ := b
  have h1 := (KeyAt.new w d p n 27).keep ((Below.refl _ _).alloc (Nat.le_refl _) (.cells #[.string d', .string p', .string n'] 27))
  have h2 := KeyAt.new (w.alloc (.cells #[.string d, .string p, .string n] 27)) d' p' n' 27
  have hb0 := ((Below.refl w.heap.size w).alloc (Nat.le_refl _) (.cells #[.string d, .string p, .string n] 27)).alloc (by simp) (.cells #[.string d', .string p', .string n'] 27)
  rw [show ∀ o : Obj, (w.alloc o).heap.size = w.heap.size + 1 from fun o => by simp] at h2
  have HT0 := Lib.hid (texts_any d p n)
  have HT1 := Lib.hid (texts_any d' p' n')
  have H1 := Lib.hid h1
  have H2 := Lib.hid h2
  have HB0 := Lib.hid hb0
  clear h1 h2 hb0
  go_enter Tryd.func14, Tryd.ntmps14
  go_wp2_with (with_reducible refine wp_halt ?_)
  refine Halt.on ?_
  refine wp_region_inv (fun L a W => ∃ v0 v1 v2 v3 v4 v5, a = { tmps := #[keyV d p n, keyV d' p' n', .pointer (some ⟨w.heap.size, 0, none⟩), .pointer (some ⟨w.heap.size + 1, 0, none⟩), .int .i64 0, v4, v5, v0, v1, v2, v3, undef, undef, undef], defers := [] } ∧ PairI (fun W => KeyAt W w.heap.size d p n ∧ KeyAt W (w.heap.size + 1) d' p' n') (keyV d p n) (keyV d p n) (keyV d' p' n') (keyV d' p' n') [.string d, .string p, .string n] [.string d', .string p', .string n'] (w.heap.size + 2) (w.heap.size) w L v0 v1 v2 v3 v4 v5 W) (by kernel_rfl) (by kernel_rfl) ?_ ?_ ?_
  · refine ⟨undef, undef, undef, undef, undef, undef, rfl, PairI.start (fun W W' hs hb hg => ?_) ⟨H1.out, H2.out⟩ HB0.out (by omega) (by simp)⟩
    exact ⟨hg.1.keepN (by omega) hb, hg.2.keepN (by omega) hb⟩
  · intro i o ho L a W hI hn hdep K hK
    obtain ⟨v0, v1, v2, v3, v4, v5, rfl, hI⟩ := hI
    have HK := Lib.hid hK
    have HI := Lib.hid hI
    have hi : i < 8 := (Array.getElem?_eq_some_iff.1 ho).1
    clear hK hI H1 H2 HB0 HV
    rcases (show i = 0 ∨ i = 1 ∨ i = 2 ∨ i = 3 ∨ i = 4 ∨ i = 5 ∨ i = 6 ∨ i = 7 from by omega) with rfl | rfl | rfl | rfl | rfl | rfl | rfl | rfl
    · simp only [List.getElem?_toArray, List.getElem?_cons_zero, Option.some.injEq] at ho
      subst ho
      obtain ⟨p0, p1, p2⟩ := HI.out.g.1
      clear hdep hi
      go_simp
      exact HK.out.out _ _ ⟨_, v1, v2, v3, v4, v5, rfl, HI.out.s0⟩
    · simp only [List.getElem?_toArray, List.getElem?_cons_succ, List.getElem?_cons_zero, Option.some.injEq] at ho
      subst ho
      have d0 : L 0 = true := hdep ⟨0, Ground.data⟩ (by simp) rfl
      have e := HI.out.h0 d0
      subst e
      clear hdep hi
      go_simp
      refine (HT0.out _).mono ?_
      rintro _ W1 ⟨rfl, hb⟩
      go_wp2_with fail
      exact HK.out.out _ _ ⟨_, _, v2, v3, v4, v5, rfl, HI.out.s1 hb⟩
    · simp only [List.getElem?_toArray, List.getElem?_cons_succ, List.getElem?_cons_zero, Option.some.injEq] at ho
      subst ho
      obtain ⟨p0, p1, p2⟩ := HI.out.g.2
      clear hdep hi
      go_simp
      exact HK.out.out _ _ ⟨v0, v1, _, v3, v4, v5, rfl, HI.out.s2⟩
    · simp only [List.getElem?_toArray, List.getElem?_cons_succ, List.getElem?_cons_zero, Option.some.injEq] at ho
      subst ho
      have d0 : L 2 = true := hdep ⟨2, Ground.data⟩ (by simp) rfl
      have e := HI.out.h2 d0
      subst e
      clear hdep hi
      go_simp
      refine (HT1.out _).mono ?_
      rintro _ W1 ⟨rfl, hb⟩
      go_wp2_with fail
      exact HK.out.out _ _ ⟨v0, v1, _, _, v4, v5, rfl, HI.out.s3 hb⟩
    · simp only [List.getElem?_toArray, List.getElem?_cons_succ, List.getElem?_cons_zero, Option.some.injEq] at ho
      subst ho
      clear hdep hi
      go_simp
      exact HK.out.out _ _ ⟨v0, v1, v2, v3, _, v5, rfl, HI.out.s4 hn [.string ByteArray.empty, .string ByteArray.empty, .string ByteArray.empty] 50 rfl⟩
    · simp only [List.getElem?_toArray, List.getElem?_cons_succ, List.getElem?_cons_zero, Option.some.injEq] at ho
      subst ho
      clear hdep hi
      go_simp
      exact HK.out.out _ _ ⟨v0, v1, v2, v3, v4, _, rfl, HI.out.s5 hn [.string ByteArray.empty, .string ByteArray.empty, .string ByteArray.empty] 50 rfl⟩
    · simp only [List.getElem?_toArray, List.getElem?_cons_succ, List.getElem?_cons_zero, Option.some.injEq] at ho
      subst ho
      have d4 : L 4 = true := hdep ⟨4, Ground.data⟩ (by simp) rfl
      have d1 : L 1 = true := hdep ⟨1, Ground.data⟩ (by simp) rfl
      have e := HI.out.h1 d1
      subst e
      obtain ⟨g, q, e, hg2, hl2, hr, _⟩ := HI.out.h4 d4
      subst e
      obtain ⟨x0, c0⟩ := hr.has 0 (by rw [hl2]; exact (by decide : (0 : Nat) < 3))
      have f0 := hr.2.1 0
      obtain ⟨x1, c1⟩ := hr.has 1 (by rw [hl2]; exact (by decide : (1 : Nat) < 3))
      have f1 := hr.2.1 1
      obtain ⟨x2, c2⟩ := hr.has 2 (by rw [hl2]; exact (by decide : (2 : Nat) < 3))
      have f2 := hr.2.1 2
      have HR := Lib.hid hr
      clear hr hdep hi
      go_simp
      exact HK.out.out _ _ ⟨v0, _, v2, v3, _, v5, rfl, HI.out.s6 d4 hg2 HR.out hl2⟩
    · simp only [List.getElem?_toArray, List.getElem?_cons_succ, List.getElem?_cons_zero, Option.some.injEq] at ho
      subst ho
      have d4 : L 5 = true := hdep ⟨5, Ground.data⟩ (by simp) rfl
      have d1 : L 3 = true := hdep ⟨3, Ground.data⟩ (by simp) rfl
      have e := HI.out.h3 d1
      subst e
      obtain ⟨g, q, e, hg2, hl2, hr, _⟩ := HI.out.h5 d4
      subst e
      obtain ⟨x0, c0⟩ := hr.has 0 (by rw [hl2]; exact (by decide : (0 : Nat) < 3))
      have f0 := hr.2.1 0
      obtain ⟨x1, c1⟩ := hr.has 1 (by rw [hl2]; exact (by decide : (1 : Nat) < 3))
      have f1 := hr.2.1 1
      obtain ⟨x2, c2⟩ := hr.has 2 (by rw [hl2]; exact (by decide : (2 : Nat) < 3))
      have f2 := hr.2.1 2
      have HR := Lib.hid hr
      clear hr hdep hi
      go_simp
      exact HK.out.out _ _ ⟨v0, v1, v2, _, v4, _, rfl, HI.out.s7 d4 hg2 HR.out hl2⟩
  · intro L a W hI hall
    obtain ⟨v0, v1, v2, v3, v4, v5, rfl, hI⟩ := hI
    obtain ⟨rfl, rfl, rfl, rfl, g, k, rfl, rfl, hg, hk, hgk, RG, RK, hGG, hbe⟩ := hI.done (fun j hj => hall j (by simpa using hj))
    clear hI hall
    clear H1 H2 HB0 HT0 HT1 hGG
    have g0 : ∀ x : Ext W, x.world.cell? ⟨g, 0, none⟩ = some (.string d) := fun x => (RG.keep x.below).1 0 _ rfl
    have HC : Hid (∀ x : Ext W, TxtPair x.world g k [cmpT d.data.toList d'.data.toList, cmpT p.data.toList p'.data.toList, cmpT n.data.toList n'.data.toList]) := Lib.hid fun x j hj => by
      have a := (RG.keep x.below).1
      have b := (RK.keep x.below).1
      rcases (show j = 0 ∨ j = 1 ∨ j = 2 by simp only [List.length_cons, List.length_nil] at hj; omega) with rfl | rfl | rfl
      · exact ⟨d, d', a 0 _ rfl, b 0 _ rfl, rfl⟩
      · exact ⟨p, p', a 1 _ rfl, b 1 _ rfl, rfl⟩
      · exact ⟨n, n', a 2 _ rfl, b 2 _ rfl, rfl⟩
    clear RG RK
    go_wp2_with (with_reducible refine wp_halt ?_)
    refine Halt.on ?_
    refine wp_region_ext (by kernel_rfl) (by kernel_rfl) ?_
    repeat (go_big_quiet_step (first
      | (go_at_call 37; refine (cmp_texts g k [cmpT d.data.toList d'.data.toList, cmpT p.data.toList p'.data.toList, cmpT n.data.toList n'.data.toList] _ (HC.out _) (by simp)).mono ?_; rintro _ w1 ⟨rfl, rfl⟩; exact ⟨rfl, Ext.same _ rfl⟩)))
    refine wpQuiet_nil ?_
    rintro _ ⟨x, rfl⟩
    have hb1 := chain hbe x.below
    generalize x.world = V at hb1 ⊢
    go_wp2
    go_ret
    exact ⟨ret_i64 HV.out.symm, hb1⟩
end Go.Proofs.YtkpdejnhjbojpaaDoor
