/-
  Package date: Cookie: a contract.
  Package date's contracts, in the words of the statements' proofs.
  alive of cracknellaw10: a contract.
-/
import Derived.Test.YtmmkokomffclmaaDoorDatQa
import Derived.Test.YtmmkokomffclmaaDoorDatRefC
import Derived.Test.YtmmkokomffclmaaDoorCivP4
import Derived.Test.YtmmkokomffclmaaDoorDatIs
import Derived.Test.YtmmkokomffclmaaDoorDatQb
import Derived.Laws.EntriesVeiled
namespace Go.Proofs.YtmmkokomffclmaaDoor
open Go.RowKit Go.Shelf
attribute [local go_sem] Oper.semAt_some
set_option linter.unusedVariables false

/-- take, as a value; n is the clock's block. -/
abbrev takeV (n : Nat) : Value := .func (.func 42) #[] #[.pointer (some ⟨n + 1 + 1, 0, none⟩), .pointer (some ⟨n + 1 + 1 + 1 + 1, 0, none⟩), .pointer (some ⟨n + 1 + 1 + 1 + 1 + 1, 0, none⟩)]
/-- all, as a value. -/
abbrev allV (n : Nat) : Value := .func (.func 43) #[] #[.pointer (some ⟨n + 1 + 1 + 1 + 1 + 1, 0, none⟩)]
/-- The world where once is called. -/
abbrev rowW (w : World) : World :=
  (w.alloc (.cells #[.int .i64 0, .int .i64 0, .int .i64 0, .int .i64 0, .int .i64 0, .int .i64 0] 34)).alloc (.cells #[.func (.func 22) #[] #[], .func (.func 23) #[] #[], .func (.func 24) #[] #[], .func (.func 25) #[] #[]] 64)

/-- The world where the loop begins. -/
theorem cook_world (w w1 w2 : World) (s : ByteArray) (h1 : w1 = onceW (rowW w) (w.heap.size + 1)) (h2 : w2 = (w1.alloc (.cells #[takeV w.heap.size] 35)).alloc (.cells #[.string s] 9)) :
    w1.heap.size = w.heap.size + 6 ∧ w2.heap.size = w.heap.size + 8 ∧ HoldF w2 w.heap.size fd0 ∧ w2.cell? ⟨w.heap.size + 6, 0, none⟩ = some (takeV w.heap.size) ∧ w2.cell? ⟨w.heap.size + 7, 0, none⟩ = some (.string s) ∧ Below w.heap.size w w2 := by
  have hz1 : w1.heap.size = w.heap.size + 6 := by rw [h1]; simp
  have hb1 : ∀ (W : World) (o : Obj), Below W.heap.size W (W.alloc o) := fun W o => (Below.refl _ _).alloc (Nat.le_refl _) o
  have hB : Below w.heap.size w w2 := by
    rw [h2, h1]
    exact chain (chain (chain (chain (chain (chain (chain (hb1 w _) (hb1 _ _)) (hb1 _ _)) (hb1 _ _)) (hb1 _ _)) (hb1 _ _)) (hb1 _ _)) (hb1 _ _)
  have hb12 : Below w1.heap.size w1 w2 := by rw [h2]; exact chain (hb1 _ _) (hb1 _ _)
  have hold : HoldF w1 w.heap.size fd0 := by
    unfold onceW rowW at h1
    obtain ⟨A, hA⟩ : ∃ A, A = w.alloc (.cells #[.int .i64 0, .int .i64 0, .int .i64 0, .int .i64 0, .int .i64 0, .int .i64 0] 34) := ⟨_, rfl⟩
    rw [← hA] at h1
    obtain ⟨B, hBB⟩ : ∃ B, B = A.alloc (.cells #[.func (.func 22) #[] #[], .func (.func 23) #[] #[], .func (.func 24) #[] #[], .func (.func 25) #[] #[]] 64) := ⟨_, rfl⟩
    rw [← hBB] at h1
    obtain ⟨C, hC⟩ : ∃ C, C = B.alloc (.cells #[.slice (some ⟨w.heap.size + 1, 0, none⟩) 4 4] 62) := ⟨_, rfl⟩
    rw [← hC] at h1
    obtain ⟨D, hD⟩ : ∃ D, D = C.alloc (.cells #[.bool false, .bool false, .bool false, .bool false] 4) := ⟨_, rfl⟩
    rw [← hD] at h1
    have zA : A.heap.size = w.heap.size + 1 := by rw [hA]; simp
    have zB : B.heap.size = w.heap.size + 2 := by rw [hBB]; simp [zA]
    have zC : C.heap.size = w.heap.size + 3 := by rw [hC]; simp [zB]
    have zD : D.heap.size = w.heap.size + 4 := by rw [hD]; simp [zC]
    rw [zB] at h1
    obtain ⟨E, hE⟩ : ∃ E, E = D.alloc (.cells #[.slice (some ⟨w.heap.size + 2 + 1, 0, none⟩) 4 4] 63) := ⟨_, rfl⟩
    rw [← hE] at h1
    have zE : E.heap.size = w.heap.size + 5 := by rw [hE]; simp [zD]
    have kE : Below E.heap.size E w1 := by rw [h1]; exact hb1 _ _
    have kD : Below D.heap.size D w1 := by rw [hE] at kE; exact chain (hb1 _ _) kE
    have kC : Below C.heap.size C w1 := by rw [hD] at kD; exact chain (hb1 _ _) kD
    have kB : Below B.heap.size B w1 := by rw [hC] at kC; exact chain (hb1 _ _) kC
    have kA : Below A.heap.size A w1 := by rw [hBB] at kB; exact chain (hb1 _ _) kB
    have fz : ∀ (V V' : World) (g j : Nat), Below V.heap.size V V' → g < V.heap.size → V.frozen? ⟨g, j, none⟩ = false → V'.frozen? ⟨g, j, none⟩ = false := fun V V' g j hb hg hf => by
      rw [hb.frozen (p := ⟨g, j, none⟩) hg]; exact hf
    refine ⟨ClkW.keep ⟨?_, fun j hj => ?_⟩ kA, fun k hk => cell_keep (w := B) ?_ kB, cell_keep (w := C) ?_ kC, fun k hk => ⟨cell_keep (w := D) ?_ kD, fz D _ _ _ kD (by omega) ?_⟩, cell_keep (w := E) ?_ kE, ?_, ?_⟩
    · rw [hA]; exact ClkAt.new w 0 0 0 0 0 0 34
    · rw [hA]
      rcases (show j = 0 ∨ j = 1 ∨ j = 2 ∨ j = 3 ∨ j = 4 ∨ j = 5 from by omega) with rfl | rfl | rfl | rfl | rfl | rfl <;> simp
    · rw [hBB, ← zA]
      rcases four hk with rfl | rfl | rfl | rfl <;> simp [rdN]
    · rw [hC, ← zB]; simp
    · rw [hD, ← zC]
      rcases four hk with rfl | rfl | rfl | rfl <;> simp [flF, fd0]
    · rw [hD, ← zC]
      rcases four hk with rfl | rfl | rfl | rfl <;> simp
    · rw [hE, ← zD]; simp
    · rw [h1, ← zE]; simp [leftF, oneF, fd0]
    · rw [h1, ← zE]; simp
  refine ⟨hz1, ?_, hold.keep hb12, ?_, ?_, hB⟩
  · rw [h2]; simp [hz1]
  · rw [h2]
    have e : w.heap.size + 6 = w1.heap.size := hz1.symm
    rw [e]
    refine cell_keep ?_ (hb1 _ _)
    simp
  · rw [h2]
    have e : w.heap.size + 7 = w1.heap.size + 1 := by omega
    rw [e]
    have e2 : (w1.alloc (.cells #[takeV w.heap.size] 35)).heap.size = w1.heap.size + 1 := by simp
    rw [← e2]
    simp

theorem Hold.blocks {w w' : World} {n : Nat} {fl : Nat → Bool} {left : Int} {c : Clk} (h : Hold w n fl left c) (hb : ∀ k, k < n + 6 → w'.heap[k]? = w.heap[k]?) : Hold w' n fl left c := by
  have ce : ∀ (b j : Nat) (v : Value), b < n + 6 → w.cell? ⟨b, j, none⟩ = some v → w'.cell? ⟨b, j, none⟩ = some v := fun b j v hbn hv => by rw [World.cell?_of_block (w := w) (hb b hbn)]; exact hv
  have fr : ∀ (b j : Nat), b < n + 6 → w'.frozen? ⟨b, j, none⟩ = w.frozen? ⟨b, j, none⟩ := fun b j hbn => World.frozen?_of_block (w := w) (hb b hbn)
  obtain ⟨c0, c1, c2, c3, c4, c5⟩ := h.clk.1
  exact ⟨⟨⟨ce _ _ _ (by omega) c0, ce _ _ _ (by omega) c1, ce _ _ _ (by omega) c2, ce _ _ _ (by omega) c3, ce _ _ _ (by omega) c4, ce _ _ _ (by omega) c5⟩, fun j hj => by rw [fr _ _ (by omega)]; exact h.clk.2 j hj⟩,
    fun k hk => ce _ _ _ (by omega) (h.row k hk), ce _ _ _ (by omega) h.rows, fun k hk => ⟨ce _ _ _ (by omega) (h.had k hk).1, by rw [fr _ _ (by omega)]; exact (h.had k hk).2⟩, ce _ _ _ (by omega) h.hads,
    ce _ _ _ (by omega) h.left.1, by rw [fr _ _ (by omega)]; exact h.left.2⟩

/-- What the loop holds. -/
def CookI (w : World) (pre : List Word) (W : World) : Prop :=
  HoldF W w.heap.size ((plainW pre).foldl nextF fd0) ∧ W.cell? ⟨w.heap.size + 6, 0, none⟩ = some (takeV w.heap.size) ∧ Below w.heap.size w W ∧ w.heap.size + 8 ≤ W.heap.size

theorem cookI_own (w : World) (B : Nat) (hB : w.heap.size + 8 ≤ B) : OwnFrom B (CookI w) := fun s W W' row hs hgr hr => by
  obtain ⟨hh, hbox, hbe, hz⟩ := hs
  have hbl : ∀ k, k < w.heap.size + 8 → W'.heap[k]? = W.heap[k]? := fun k hk => hgr.block k (by omega) (fun e => by have := (hr k e.symm).1; omega)
  refine ⟨hh.blocks fun k hk => hbl k (by omega), ?_, hbe.trans ⟨hgr.os, hgr.tape, hgr.output, hgr.size, fun k hk => hbl k (by omega)⟩, Nat.le_trans hz hgr.size⟩
  rw [World.cell?_of_block (w := W) (hbl (w.heap.size + 6) (by omega))]
  exact hbox

theorem left_all (F : Fd) (h : leftF F = 0) : F.time = true ∧ F.day = true ∧ F.month = true ∧ F.year = true := by
  unfold leftF oneF at h
  cases h1 : F.time <;> cases h2 : F.day <;> cases h3 : F.month <;> cases h4 : F.year <;> rw [h1, h2, h3, h4] at h <;> simp at h <;> simp
theorem left_some (F : Fd) (h : ¬ leftF F = 0) : F.time = false ∨ F.day = false ∨ F.month = false ∨ F.year = false := by
  cases h1 : F.time <;> cases h2 : F.day <;> cases h3 : F.month <;> cases h4 : F.year <;> simp
  exact h (by unfold leftF oneF; rw [h1, h2, h3, h4]; rfl)

theorem fold_snoc (pre : List Word) (x : Word) : (plainW (pre ++ [x])).foldl nextF fd0 = nextF ((plainW pre).foldl nextF fd0) x.1.data.toList := by
  rw [plainW_snoc, List.foldl_append]
  rfl

/-- What all that was found comes to. -/
theorem cookieF_all (F : Fd) (h : leftF F = 0) : cookieF F = if 1601 ≤ (clkF F).y ∧ IsClock (clkF F).y (clkF F).m (clkF F).d (clkF F).h (clkF F).i (clkF F).s then (secs (clkF F).y (clkF F).m (clkF F).d (clkF F).h (clkF F).i (clkF F).s, true) else (0, false) := by
  obtain ⟨h1, h2, h3, h4⟩ := left_all F h
  obtain ⟨ft, fdd, fm, fy, FY, FM, FD, Fh, Fi, Fs⟩ := F
  subst h1 h2 h3 h4
  exact cookieF_at FY FM FD Fh Fi Fs _ rfl

set_option maxRecDepth 100000 in
set_option maxHeartbeats 4000000 in
theorem pcookie_any (s : ByteArray) (w : World) (hs : s.size ≤ 1000000) (hT : DTabs w) :
    Calls Tryd.prog 11 #[.string s] w fun e w' => e = .returned (.tuple #[.int .i64 (cookieL s.data.toList).1, .bool (cookieL s.data.toList).2]) ∧ Below w.heap.size w w' := by
  refine (callsIn_wide (n := 3)).1 ?_
  have hro : Fence.wide.round = none := rfl
  refine callsIn_of_wp_marks Tryd.func11 rfl trivial ?_ hro
  simp only [Tryd.ntmps11, List.size_toArray, List.length_cons, List.length_nil, Nat.reduceAdd, Nat.reduceSub, Array.replicate_succ, Array.replicate_zero, List.push_toArray, List.append_toArray, List.nil_append, List.cons_append]
  gi_wp2_with fail
  refine ⟨trivial, ?_⟩
  refine (callsIn_wide.2 (once_any _ _)).mono ?_
  rintro e w1 ⟨rfl, hw1⟩
  have HW1 := Lib.hid hw1
  clear hw1
  gi_wp2_with fail
  refine ⟨trivial, ?_⟩
  refine (callsIn_wide.2 (words_any s _)).mono ?_
  rintro e w2 ⟨rfl, hw2⟩
  have HW2 := Lib.hid hw2
  clear hw2
  gi_wp2
  obtain ⟨hz1, hz2, hh0, hbox0, hstr0, hB0⟩ := cook_world w w1 w2 s HW1.out HW2.out
  rw [hz1]
  have HTT := Lib.hid hT
  clear HW1 HW2 hz1 hT
  refine wpIn_rangeFunc_ownG hro (by decide) (gf := 47) (lb := #[.pointer (some ⟨w.heap.size + 7, 0, none⟩)]) rfl trivial (enters_of Tryd.func47 (by kernel_rfl) rfl)
    (words_stops 2 (by decide) (w.heap.size + 7) s w2 (by omega) (by omega) hstr0) keepOne_t (keepOne_b (by omega)) (Below.refl _ _) (fun _ => rfl)
    (CookI w) (fun _ _ _ => False)
    (cookI_own w _ (by omega))
    (fun _ _ _ _ _ hs _ _ => hs)
    ⟨hh0, hbox0, hB0, by omega⟩
    (fun x => { tmps := #[.string s, undef, .int .i64 0, .bool false, .pointer (some ⟨w.heap.size, 0, none⟩), .pointer (some ⟨w.heap.size + 6, 0, none⟩), allV w.heap.size, .string x.1, .tuple #[takeV w.heap.size, allV w.heap.size], .slice (some ⟨w.heap.size + 1, 0, none⟩) 4 4, .tuple #[takeV w.heap.size, allV w.heap.size], takeV w.heap.size, allV w.heap.size, .string s, .func (.func 47) #[] #[.pointer (some ⟨w.heap.size + 7, 0, none⟩)], .string x.1, undef, undef, undef, undef, undef, undef, undef, undef, undef, undef, undef, undef, undef, undef, undef], defers := [] }) ?assign ?body ?done ?stop
  case assign =>
    intro l x W K hK
    unfold wordV
    gi_wp2
    exact hK
  case body =>
    rintro l pre x W ⟨hh, hbox, hB, hz⟩ hlt
    have HS := Lib.hid (fold_snoc pre x)
    obtain ⟨f, hf⟩ : ∃ f, f = (plainW pre).foldl nextF fd0 := ⟨_, rfl⟩
    rw [← hf] at hh HS
    have HTK := Lib.hid (take_any w.heap.size x.1 f W x.2 (HTT.out.keep hB).mon hh)
    clear hf
    gi_wp2_with fail
    refine ⟨trivial, ?_⟩
    refine (CallsIn.inRound l (callsIn_wide.2 HTK.out)).mono ?_
    rintro e w3 ⟨rfl, hh3, hk3⟩
    gi_wp2
    refine ⟨⟨hk3.size, fun k o hBk hko _ => ?_⟩, keepOne_block (hk3.block _ (by omega) (by omega) (by omega) (by omega)), ?_, hk3.cell hbox (by show w.heap.size + 6 ≠ w.heap.size; omega) (by show w.heap.size + 6 ≠ w.heap.size + 3; omega) (by show w.heap.size + 6 ≠ w.heap.size + 5; omega), hk3.below hB (Nat.le_refl _) (by omega), by have := hk3.size; omega⟩
    · rw [hk3.block k (Array.getElem?_eq_some_iff.1 hko).1 (by omega) (by omega) (by omega)]; exact hko
    · show HoldF w3 w.heap.size _
      rw [HS.out]
      exact hh3
  case done =>
    rintro D ys W hD hys ⟨hh, hbox, hB, hz⟩ hK
    have hDW : D < W.heap.size := (Array.getElem?_eq_some_iff.1 hK).1
    rw [hys] at hh
    have HR : Hid (cookieL s.data.toList = cookieF ((wordsL s.data.toList).foldl nextF fd0)) := rfl
    generalize (wordsL s.data.toList).foldl nextF fd0 = F at hh HR
    have HAL := Lib.hid (all_any w.heap.size F W hh)
    clear hbox
    by_cases hl : leftF F = 0
    · have HCF := Lib.hid (cookieF_all F hl)
      rw [hl] at HAL
      obtain ⟨⟨c0, c1, c2, c3, c4, c5⟩, _⟩ := hh.clk
      generalize clkF F = c at c0 c1 c2 c3 c4 c5 HCF
      obtain ⟨Y, M, D', H, I, S⟩ := c
      dsimp only at c0 c1 c2 c3 c4 c5 HCF
      clear hl hh
      by_cases hy : Y < 1601
      · have HE : Hid (cookieL s.data.toList = (0, false)) := by
          show _ = _
          rw [HR.out, HCF.out, if_neg (by omega)]
        clear HCF HR
        gi_wp2_with fail
        refine ⟨trivial, ?_⟩
        refine (callsIn_wide.2 HAL.out).mono ?_
        rintro e w3 ⟨rfl, rfl⟩
        gi_wp2
        refine ⟨by simp, .inl ⟨_, _, rfl, run_takeDeferred hK, ?_⟩⟩
        refine ⟨_, results_tmp2 rfl _ _ _, by (rw [HE.out] <;> rfl), hB.trans (belowK_b (w := w) (Nat.le_refl _) W D _ _ (by omega) hK rfl rfl)⟩
      · by_cases hc : IsClock Y M D' H I S
        · have HE : Hid (cookieL s.data.toList = (secs Y M D' H I S, true)) := by
            show _ = _
            rw [HR.out, HCF.out, if_pos ⟨by omega, hc⟩]
          have HEP := Lib.hid (epoch_yes Y M D' H I S W hc (HTT.out.keep hB).civ)
          clear HCF HR hc
          generalize secs Y M D' H I S = z at HE HEP
          gi_wp2_with fail
          refine ⟨trivial, ?_⟩
          refine (callsIn_wide.2 HAL.out).mono ?_
          rintro e w3 ⟨rfl, rfl⟩
          gi_wp2_with fail
          refine ⟨trivial, ?_⟩
          refine (callsIn_wide.2 HEP.out).mono ?_
          rintro e w4 ⟨rfl, hb4⟩
          replace hK := (hb4.block D hDW).trans hK
          replace hB := chain hB hb4
          have hz4 := hb4.size
          clear hb4
          gi_wp2
          refine ⟨by simp, .inl ⟨_, _, rfl, run_takeDeferred hK, ?_⟩⟩
          refine ⟨_, results_tmp2 rfl _ _ _, by (rw [HE.out] <;> rfl), hB.trans (belowK_b (w := w) (Nat.le_refl _) w4 D _ _ (by omega) hK rfl rfl)⟩
        · have HE : Hid (cookieL s.data.toList = (0, false)) := by
            show _ = _
            rw [HR.out, HCF.out, if_neg (fun h => hc h.2)]
          have HEP := Lib.hid (pepoch_no Y M D' H I S W hc (HTT.out.keep hB).civ)
          clear HCF HR hc
          gi_wp2_with fail
          refine ⟨trivial, ?_⟩
          refine (callsIn_wide.2 HAL.out).mono ?_
          rintro e w3 ⟨rfl, rfl⟩
          gi_wp2_with fail
          refine ⟨trivial, ?_⟩
          refine (callsIn_wide.2 HEP.out).mono ?_
          rintro e w4 ⟨rfl, hb4⟩
          replace hK := (hb4.block D hDW).trans hK
          replace hB := chain hB hb4
          have hz4 := hb4.size
          clear hb4
          gi_wp2
          refine ⟨by simp, .inl ⟨_, _, rfl, run_takeDeferred hK, ?_⟩⟩
          refine ⟨_, results_tmp2 rfl _ _ _, by (rw [HE.out] <;> rfl), hB.trans (belowK_b (w := w) (Nat.le_refl _) w4 D _ _ (by omega) hK rfl rfl)⟩
    · have HE : Hid (cookieL s.data.toList = (0, false)) := by
        show _ = _
        rw [HR.out]
        exact cookieF_no F (left_some F hl)
      have hlb : (leftF F == 0) = false := by simpa using hl
      rw [hlb] at HAL
      obtain ⟨⟨c0, c1, c2, c3, c4, c5⟩, _⟩ := hh.clk
      clear hl hlb hh HR
      gi_wp2_with fail
      refine ⟨trivial, ?_⟩
      refine (callsIn_wide.2 HAL.out).mono ?_
      rintro e w3 ⟨rfl, rfl⟩
      gi_wp2
      refine ⟨by simp, .inl ⟨_, _, rfl, run_takeDeferred hK, ?_⟩⟩
      refine ⟨_, results_tmp2 rfl _ _ _, by (rw [HE.out] <;> rfl), hB.trans (belowK_b (w := w) (Nat.le_refl _) W D _ _ (by omega) hK rfl rfl)⟩
  case stop =>
    rintro D c pre W _ _ h _
    exact h.elim
end Go.Proofs.YtmmkokomffclmaaDoor
namespace Go.Proofs.YtmmkokomffclmaaDoor
open Go.RowKit
set_option linter.unusedVariables false

theorem cookie_at {s : ByteArray} {i : Int} {b : Bool} (w : World) (hs : s.size ≤ 1000000) (h : cookieL s.data.toList = (i, b)) (hT : DTabs w) : Calls Tryd.prog 11 #[.string s] w fun e w' => e = .returned (.tuple #[.int .i64 i, .bool b]) ∧ Below w.heap.size w w' := by
  have := pcookie_any s w hs hT
  rw [h] at this
  exact this

theorem imf_is (t : Int) (S : ByteArray) (w : World) (h : IsImf t S) (hT : DTabs w) : Calls Tryd.prog 13 #[.int .i64 t] w fun e w' => e = .returned (.tuple #[.string S, .bool true]) ∧ Below w.heap.size w w' := by
  obtain ⟨x, y, m, d, h, i, s, hs, h0, hx, rfl⟩ := h
  exact pimf_yes t x y m d h i s w hs h0 hx hT

theorem imf_not (t : Int) (w : World) (h1 : -9223372036854775808 ≤ t) (h2 : t ≤ 9223372036854775807) (h : t < 0 ∨ 253402300799 < t) (hT : DTabs w) : Calls Tryd.prog 13 #[.int .i64 t] w fun e w' => e = .returned (.tuple #[.string ByteArray.empty, .bool false]) ∧ Below w.heap.size w w' :=
  pimf_no t w h1 h2 h

theorem iso_is (t : Int) (S : ByteArray) (w : World) (h : IsIso t S) (hT : DTabs w) : Calls Tryd.prog 15 #[.int .i64 t] w fun e w' => e = .returned (.tuple #[.string S, .bool true]) ∧ Below w.heap.size w w' := by
  obtain ⟨y, m, d, h, i, s, hs, h0, rfl⟩ := h
  exact piso_yes t y m d h i s w hs h0 hT.civ

theorem iso_not (t : Int) (w : World) (h1 : -9223372036854775808 ≤ t) (h2 : t ≤ 9223372036854775807) (h : t < 0 ∨ 253402300799 < t) (hT : DTabs w) : Calls Tryd.prog 15 #[.int .i64 t] w fun e w' => e = .returned (.tuple #[.string ByteArray.empty, .bool false]) ∧ Below w.heap.size w w' :=
  piso_no t w h1 h2 h

theorem uniso_is (t : Int) (S : ByteArray) (w : World) (h : IsIso t S) (hT : DTabs w) : Calls Tryd.prog 17 #[.string S] w fun e w' => e = .returned (.tuple #[.int .i64 t, .bool true]) ∧ Below w.heap.size w w' := by
  obtain ⟨y, m, d, h, i, s, hs, h0, rfl⟩ := h
  exact puniso_yes t y m d h i s w hs h0 hT.civ

theorem uniso_not (S : ByteArray) (w : World) (hS : S.size ≤ 1000000000000000) (hn : ∀ t, ¬ IsIso t S) (hT : DTabs w) : Calls Tryd.prog 17 #[.string S] w fun e w' => e = .returned (.tuple #[.int .i64 0, .bool false]) ∧ Below w.heap.size w w' :=
  puniso_no S w hS (fun t y m d h i s hs h0 e => hn t ⟨y, m, d, h, i, s, hs, h0, e⟩) hT.civ
end Go.Proofs.YtmmkokomffclmaaDoor
namespace Go.Proofs.YtmmkokomffclmaaDoor
open Go.RowKit
set_option linter.unusedVariables false

theorem av_cookie : cookieL [48, 56, 58, 52, 57, 58, 51, 55, 32, 54, 45, 110, 111, 118, 45, 57, 52] = (784111777, true) := by decide +kernel
theorem av_none : cookieL [50, 48, 50, 54, 45, 49, 49, 45, 49, 54, 84, 49, 50, 58, 48, 48, 58, 48, 48, 90] = (0, false) := by decide +kernel
theorem av_shows : Shows 784111777 1994 11 6 8 49 37 := ⟨by decide, by decide⟩
theorem av_imf : IsImf 784111777 ⟨#[83, 117, 110, 44, 32, 48, 54, 32, 78, 111, 118, 32, 49, 57, 57, 52, 32, 48, 56, 58, 52, 57, 58, 51, 55, 32, 71, 77, 84]⟩ :=
  ⟨0, 1994, 11, 6, 8, 49, 37, av_shows, by decide, by decide, by kernel_rfl⟩
theorem av_iso : IsIso 784111777 ⟨#[49, 57, 57, 52, 45, 49, 49, 45, 48, 54, 84, 48, 56, 58, 52, 57, 58, 51, 55, 90]⟩ :=
  ⟨1994, 11, 6, 8, 49, 37, av_shows, by decide, by kernel_rfl⟩
theorem av_back : IsIso 1794830400 ⟨#[50, 48, 50, 54, 45, 49, 49, 45, 49, 54, 84, 49, 50, 58, 48, 48, 58, 48, 48, 90]⟩ :=
  ⟨2026, 11, 16, 12, 0, 0, ⟨by decide, by decide⟩, by decide, by kernel_rfl⟩

set_option maxRecDepth 100000 in
set_option maxHeartbeats 1600000 in
theorem alive_any (w : World) (hT : DTabs w) : Calls Tryd.prog 10 #[] w fun e w' => e = .returned (.bool true) ∧ Below w.heap.size w w' := by
  go_enter Tryd.func10, Tryd.ntmps10
  go_wp2_with fail
  refine (cookie_at _ (by decide) av_cookie hT).mono ?_
  rintro _ w1 ⟨rfl, hb1⟩
  replace hT := hT.keep hb1
  go_wp2_with fail
  refine (cookie_at _ (by decide) av_none hT).mono ?_
  rintro _ w2 ⟨rfl, hb⟩
  replace hT := hT.keep hb
  have hb2 := chain hb1 hb
  clear hb hb1
  go_wp2_with fail
  refine (imf_is _ _ _ av_imf hT).mono ?_
  rintro _ w1 ⟨rfl, hb⟩
  replace hT := hT.keep hb
  have hb1 := chain hb2 hb
  clear hb hb2
  go_wp2_with fail
  refine (iso_is _ _ _ av_iso hT).mono ?_
  rintro _ w2 ⟨rfl, hb⟩
  replace hT := hT.keep hb
  have hb2 := chain hb1 hb
  clear hb hb1
  go_wp2_with fail
  refine (uniso_is _ _ _ av_back hT).mono ?_
  rintro _ w1 ⟨rfl, hb⟩
  replace hT := hT.keep hb
  have hb1 := chain hb2 hb
  clear hb hb2
  go_wp2_with fail
  refine (imf_not _ _ (by decide) (by decide) (by decide) hT).mono ?_
  rintro _ w2 ⟨rfl, hb⟩
  have hb2 := chain hb1 hb
  clear hb hb1 hT
  go_wp2
  go_ret
  exact ⟨rfl, hb2⟩
end Go.Proofs.YtmmkokomffclmaaDoor
