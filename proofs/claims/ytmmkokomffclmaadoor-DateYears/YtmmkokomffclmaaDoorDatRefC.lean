/-
  The document's own answers (package cracknelref10): Cookie: a contract.
-/
import Derived.Test.YtmmkokomffclmaaDoorDatRefN
import Derived.Test.YtmmkokomffclmaaDoorDatRefW
import Derived.Test.YtmmkokomffclmaaDoorCivRepoch
import Derived.Deep.CutRange
import Derived.Deep.CutBlock
namespace Go.Proofs.YtmmkokomffclmaaDoor
open Go.RowKit
set_option linter.unusedVariables false

theorem rowS_cells {w : World} {base : Nat} {v : Value} {l : List ByteArray} (h : RowS w base v l) : ∃ ao n cap, v = .slice ao n cap ∧ n = l.length ∧ (n = 0 ∨ ∃ g, ao = some ⟨g, 0, none⟩ ∧ base ≤ g ∧ ∀ j (hj : j < l.length), w.cell? ⟨g, j, none⟩ = some (.string l[j])) := by
  have h0 := h
  obtain ⟨_, ⟨rfl, hn⟩ | ⟨g, cap, cur, rfl, hbg, _, _⟩⟩ := h
  · exact ⟨none, 0, 0, rfl, hn.symm, .inl rfl⟩
  · refine ⟨_, _, cap, rfl, rfl, .inr ⟨g, rfl, hbg, fun j hj => ?_⟩⟩
    have hc := World.ownsRow.cellAt h0 j (by omega)
    rw [hc]
    simp [strV, List.getElem?_eq_getElem hj]

theorem wsB_len (l : List (List UInt8)) : (wsB l).length = l.length := List.length_map _
theorem wsB_at (l : List (List UInt8)) (k : Nat) (h : k < l.length) : (wsB l)[k]'(by rw [wsB_len]; exact h) = ⟨l[k].toArray⟩ := by simp [wsB]

theorem nextF_Y (f : Fd) (l : List UInt8) (h : 0 ≤ f.Y ∧ f.Y ≤ 9999) : 0 ≤ (nextF f l).Y ∧ (nextF f l).Y ≤ 9999 := by
  unfold nextF
  split
  · exact h
  · split
    · exact h
    · split
      · exact h
      · split
        · rename_i h4
          have hl : (l.take (digN l)).length ≤ 4 := by rw [List.length_take]; omega
          have := valN_lt _ (digN_all l)
          have h5 := Nat.lt_of_lt_of_le this (Nat.pow_le_pow_right (n := 10) (by decide) hl)
          have h6 : valN (l.take (digN l)) < 10000 := h5
          constructor
          · show (0 : Int) ≤ (valN (l.take (digN l)) : Int); omega
          · show (valN (l.take (digN l)) : Int) ≤ 9999; omega
        · exact h

theorem fold_Y : ∀ (ws : List (List UInt8)) (f : Fd), 0 ≤ f.Y ∧ f.Y ≤ 9999 → 0 ≤ (ws.foldl nextF f).Y ∧ (ws.foldl nextF f).Y ≤ 9999
  | [], f, h => h
  | w :: t, f, h => fold_Y t (nextF f w) (nextF_Y f w h)

theorem words_len (l : List UInt8) : ∀ word, (∀ w ∈ wordsG word l, w.length ≤ word.length + l.length) ∧ (wordsG word l).length ≤ l.length + 1 := by
  induction l with
  | nil =>
    intro word
    show (∀ w ∈ flushW word, _) ∧ (flushW word).length ≤ _
    unfold flushW
    split
    · exact ⟨(fun w h => by cases h), by simp⟩
    · exact ⟨(fun w h => by simp at h; subst h; simp), by simp⟩
  | cons c t ih =>
    intro word
    by_cases h : partC c = true
    · rw [wordsG_part _ _ _ h]
      obtain ⟨i1, i2⟩ := ih []
      refine ⟨fun w hw => ?_, ?_⟩
      · rcases List.mem_append.1 hw with hw | hw
        · unfold flushW at hw
          split at hw
          · cases hw
          · simp at hw; subst hw; simp
        · have := i1 w hw
          simp at this ⊢
          omega
      · rw [List.length_append]
        have : (flushW word).length ≤ 1 := by unfold flushW; split <;> simp
        simp at i2 ⊢
        omega
    · have h' : partC c = false := by simpa using h
      rw [wordsG_keep _ _ _ h']
      obtain ⟨i1, i2⟩ := ih (word ++ [c])
      refine ⟨fun w hw => ?_, ?_⟩
      · have := i1 w hw
        simp at this ⊢
        omega
      · simp at i2 ⊢
        omega

theorem fold_step (ws : List (List UInt8)) (k : Nat) (h : k < ws.length) : (ws.take (k + 1)).foldl nextF fd0 = nextF ((ws.take k).foldl nextF fd0) ws[k] := by
  rw [List.take_succ_eq_append_getElem h, List.foldl_append]
  rfl

theorem cell_keepC {w w' : World} {p : Addr} {v : Value} (h : w.cell? p = some v) (hb : Below w.heap.size w w') : w'.cell? p = some v := by
  rw [hb.cell (World.block_lt_of_cell? w p h)]; exact h
theorem cell_set_ne {w : World} {b g j k : Nat} {u v : Value} (h : w.cell? ⟨b, j, none⟩ = some u) (hne : ¬ b = g) : (w.setCell ⟨g, k, none⟩ v).cell? ⟨b, j, none⟩ = some u := by
  rw [World.cell?_setCell_other w _ _ _ (fun h => by injection h with h1 _ _; exact hne (by first | exact h1 | exact h1.symm))]; exact h

theorem below_put {w0 w : World} {n g : Nat} {v0 v1 v2 v3 v4 v5 v6 v7 v8 v9 : Value} (hb : Below n w0 w) (hg : n ≤ g) : Below n w0 ((((((((((w.setCell ⟨g, 0, none⟩ v0).setCell ⟨g, 1, none⟩ v1).setCell ⟨g, 2, none⟩ v2).setCell ⟨g, 3, none⟩ v3).setCell ⟨g, 4, none⟩ v4).setCell ⟨g, 5, none⟩ v5).setCell ⟨g, 6, none⟩ v6).setCell ⟨g, 7, none⟩ v7).setCell ⟨g, 8, none⟩ v8).setCell ⟨g, 9, none⟩ v9) :=
  (((((((((hb.setCell (p := ⟨g, 0, none⟩) hg v0).setCell (p := ⟨g, 1, none⟩) hg v1).setCell (p := ⟨g, 2, none⟩) hg v2).setCell (p := ⟨g, 3, none⟩) hg v3).setCell (p := ⟨g, 4, none⟩) hg v4).setCell (p := ⟨g, 5, none⟩) hg v5).setCell (p := ⟨g, 6, none⟩) hg v6).setCell (p := ⟨g, 7, none⟩) hg v7).setCell (p := ⟨g, 8, none⟩) hg v8).setCell (p := ⟨g, 9, none⟩) hg v9

theorem cell_put {w : World} {b g j : Nat} {u v0 v1 v2 v3 v4 v5 v6 v7 v8 v9 : Value} (h : w.cell? ⟨b, j, none⟩ = some u) (hne : ¬ b = g) : ((((((((((w.setCell ⟨g, 0, none⟩ v0).setCell ⟨g, 1, none⟩ v1).setCell ⟨g, 2, none⟩ v2).setCell ⟨g, 3, none⟩ v3).setCell ⟨g, 4, none⟩ v4).setCell ⟨g, 5, none⟩ v5).setCell ⟨g, 6, none⟩ v6).setCell ⟨g, 7, none⟩ v7).setCell ⟨g, 8, none⟩ v8).setCell ⟨g, 9, none⟩ v9).cell? ⟨b, j, none⟩ = some u :=
  cell_set_ne (cell_set_ne (cell_set_ne (cell_set_ne (cell_set_ne (cell_set_ne (cell_set_ne (cell_set_ne (cell_set_ne (cell_set_ne (h) hne) hne) hne) hne) hne) hne) hne) hne) hne) hne

theorem cookieF_no (F : Fd) (h : F.time = false ∨ F.day = false ∨ F.month = false ∨ F.year = false) : cookieF F = (0, false) := by
  unfold cookieF
  rw [if_neg]
  rintro ⟨h1, h2, h3, h4, _⟩
  rcases h with h | h | h | h
  · rw [h] at h1; cases h1
  · rw [h] at h2; cases h2
  · rw [h] at h3; cases h3
  · rw [h] at h4; cases h4

theorem cookieF_at (FY FM FD Fh Fi Fs Y : Int) (hY : yearOf FY = Y) :
    cookieF ⟨true, true, true, true, FY, FM, FD, Fh, Fi, Fs⟩ = if 1601 ≤ Y ∧ IsClock Y FM FD Fh Fi Fs then (secs Y FM FD Fh Fi Fs, true) else (0, false) := by
  unfold cookieF
  subst hY
  simp only [true_and]

theorem ret_both {i j : Int} {b c : Bool} (h : (i, b) = (j, c)) : Ending.returned (.tuple #[.int .i64 i, .bool b]) = .returned (.tuple #[.int .i64 j, .bool c]) := by
  injection h with h1 h2
  rw [h1, h2]

def CookAt (ws : List (List UInt8)) (g b : Nat) (w0 : World) (gk : Nat) (i : Value) (wr : World) : Prop :=
  ∃ k : Nat, i = .int .i64 (k : Int) ∧ k + gk = ws.length + 1 ∧ 1 ≤ gk ∧ FdAt wr g ((ws.take k).foldl nextF fd0) ∧ (∀ j (hj : j < ws.length), wr.cell? ⟨b, j, none⟩ = some (.string ⟨ws[j].toArray⟩)) ∧ Below w0.heap.size w0 wr

set_option maxRecDepth 100000 in
set_option maxHeartbeats 3200000 in
theorem rcookie_any (s : ByteArray) (w : World) (hs : s.size ≤ 1000000) :
    Calls Tryd.prog 12 #[.string s] w fun e w' => e = .returned (.tuple #[.int .i64 (cookieL s.data.toList).1, .bool (cookieL s.data.toList).2]) ∧ Below w.heap.size w w' := by
  have HW := Lib.hid (rwords_any s · (by omega))
  obtain ⟨ws, hws⟩ : ∃ ws, ws = wordsL s.data.toList := ⟨_, rfl⟩
  obtain ⟨l1, l2⟩ := words_len s.data.toList []
  have l1' : ∀ x ∈ ws, x.length ≤ 1000000 := fun x hx => by rw [hws] at hx; have := l1 x hx; rw [list_len] at this; simp at this; omega
  have l2' : ws.length ≤ 1000001 := by rw [hws]; show (wordsG [] s.data.toList).length ≤ _; rw [list_len] at l2; omega
  rw [← hws] at HW
  have HWS := Lib.hid hws
  obtain ⟨ci, hci⟩ : ∃ ci, ci = (cookieL s.data.toList).1 := ⟨_, rfl⟩
  obtain ⟨cb, hcb⟩ : ∃ cb, cb = (cookieL s.data.toList).2 := ⟨_, rfl⟩
  rw [← hci, ← hcb]
  have HCV : Hid ((ci, cb) = cookieL s.data.toList) := by show _ = _; rw [hci, hcb]
  clear hci hcb
  have HL1 := Lib.hid l1'
  clear l1 l2 l1' hws
  have hA := FdAt.new w fd0 46
  have hb0 := (Below.refl w.heap.size w).alloc (Nat.le_refl _) (.cells #[.bool false, .bool false, .bool false, .bool false, .int .i64 0, .int .i64 0, .int .i64 0, .int .i64 0, .int .i64 0, .int .i64 0] 46)
  go_enter Tryd.func12, Tryd.ntmps12
  go_wp2_with fail
  refine (HW.out _).mono ?_
  rintro _ w1 ⟨⟨v, rfl, hrow⟩, hb⟩
  have hA1 := hA.keep hb
  have hb1 := chain hb0 hb
  obtain ⟨ao, n, cap, rfl, hn, hcells⟩ := rowS_cells hrow
  rw [wsB_len] at hn
  subst hn
  obtain ⟨b, hbg, hao, hcell⟩ : ∃ b, ¬ b = w.heap.size ∧ (ws.length = 0 ∨ ao = some ⟨b, 0, none⟩) ∧ ∀ j (hj : j < ws.length), w1.cell? ⟨b, j, none⟩ = some (.string ⟨ws[j].toArray⟩) := by
    rcases hcells with h | ⟨b, h1, h2, h3⟩
    · exact ⟨w.heap.size + 1, by omega, .inl h, fun j hj => by omega⟩
    · have e1 : ∀ (W : World) (o : Obj), (W.alloc o).heap.size = W.heap.size + 1 := fun W o => by simp
      rw [e1] at h2
      exact ⟨b, by omega, .inr h1, fun j hj => by have := h3 j (by rw [wsB_len]; exact hj); rw [wsB_at ws j hj] at this; exact this⟩
  clear hcells hrow hb0 hA hb HW
  go_wp2_with fail
  go_loopg [6] (ws.length + 1) (fun gk i wr => CookAt ws w.heap.size b w gk i wr)
  case atStart => exact ⟨0, rfl, by omega, by omega, hA1, hcell, hb1⟩
  case round =>
    clear hA1 hcell hb1
    obtain ⟨k, rfl, hk, hg1, hfd, hc, hbe⟩ := hrel
    obtain ⟨F, hF⟩ : ∃ F, F = (ws.take k).foldl nextF fd0 := ⟨_, rfl⟩
    rw [← hF] at hfd
    have HF := Lib.hid hF
    have HC := Lib.hid hc
    clear hF
    obtain ⟨⟨c0, c1, c2, c3, c4, c5, c6, c7, c8, c9⟩, _⟩ := id hfd
    obtain ⟨f0, f1, f2, f3, f4, f5, f6, f7, f8, f9⟩ := hfd.facts
    have HFD := Lib.hid hfd
    by_cases hlt : k < ws.length
    · have hao2 : ao = some ⟨b, 0, none⟩ := by
        rcases hao with h | h
        · omega
        · exact h
      subst hao2
      have d0 := hc k hlt
      obtain ⟨wd, hwd⟩ : ∃ wd : ByteArray, wd = ⟨ws[k].toArray⟩ := ⟨_, rfl⟩
      rw [← hwd] at d0
      have hwl : wd.data.toList = ws[k] := by rw [hwd]
      have hws : wd.size ≤ 1000000 := by rw [← list_len, hwl]; exact HL1.out _ (List.getElem_mem _)
      have HN := Lib.hid (rnext_any F wd · (by omega))
      have HST : Hid (nextF F wd.data.toList = (ws.take (k + 1)).foldl nextF fd0) := by
        show _ = _
        rw [hwl, HF.out]
        exact (fold_step ws k hlt).symm
      obtain ⟨G, hG⟩ : ∃ G, G = nextF F wd.data.toList := ⟨_, rfl⟩
      rw [← hG] at HN HST
      clear hao hc hwd hwl hG hfd
      obtain ⟨Ft, Fd', Fm, Fy, FY, FM, FD, Fh, Fi, Fs⟩ := F
      obtain ⟨Gt, Gd', Gm, Gy, GY, GM, GD, Gh, Gi, Gs⟩ := G
      have hkl : (k : Int) < (ws.length : Int) := by omega
      go_upto_block 1 with (fail)
      go_cut [6] from 9 to 20 (fun v6 wx => v6 = .int .i64 (k : Int) ∧ FdAt wx w.heap.size ⟨Gt, Gd', Gm, Gy, GY, GM, GD, Gh, Gi, Gs⟩ ∧ (∀ j (hj : j < ws.length), wx.cell? ⟨b, j, none⟩ = some (.string ⟨ws[j].toArray⟩)) ∧ Below w.heap.size w wx)
      case first =>
        go_wp2_with (with_reducible refine wp_halt ?_)
        refine Halt.on ?_
        go_region_with (go_at_call 29; (with_reducible refine (HN.out _).mono ?_); rintro _ w2 ⟨rfl, hb⟩; have hA2 : FdAt w2 w.heap.size ⟨Ft, Fd', Fm, Fy, FY, FM, FD, Fh, Fi, Fs⟩ := (by first | exact HFD.out.keep hb | exact HFD.out.drew.keep hb); have hb2 : Below w.heap.size w w2 := (by first | exact chain hbe hb | exact chain hbe.drew hb); have hd2 := hA2.1; have hd3 := hA2.facts; have hcw : ∀ j (hj : j < ws.length), w2.cell? ⟨b, j, none⟩ = some (.string ⟨ws[j].toArray⟩) := (fun j hj => by first | exact cell_keepC (w := wr) (HC.out j hj) hb | exact cell_keepC (w := wr.drew) (by simpa using HC.out j hj) hb); have HCW := Lib.hid hcw; have HA2 := Lib.hid hA2; clear hcw; obtain ⟨a0, a1, a2, a3, a4, a5, a6, a7, a8, a9⟩ := hd2; obtain ⟨p0, p1, p2, p3, p4, p5, p6, p7, p8, p9⟩ := hd3)
        all_goals
          go_wp2_with fail
          go_meet
          exact ⟨rfl, HA2.out.put, fun j hj => cell_put (HCW.out j hj) hbg, below_put hb2 (Nat.le_refl _)⟩
      case rest =>
        obtain ⟨rfl, hA3, hC3, hb3⟩ := hcut
        rw [HST.out] at hA3
        have HA3 := Lib.hid hA3
        have HC3 := Lib.hid hC3
        clear hA3 hC3
        go_wp2
        go_roundg (gk - 1)
        case measure => omega
        case rel => exact ⟨k + 1, by go_num, by omega, by omega, HA3.out, HC3.out, hb3⟩
    · have ek : k = ws.length := by omega
      subst ek
      have HX : Hid (cookieF F = (ci, cb)) := by
        show _ = _
        rw [HCV.out]
        unfold cookieL
        rw [← HWS.out, HF.out, List.take_length]
      have hY : 0 ≤ F.Y ∧ F.Y ≤ 9999 := by
        rw [HF.out]
        exact fold_Y _ fd0 ⟨by decide, by decide⟩
      clear hc hfd HC HL1 HFD hao HF HCV HWS
      obtain ⟨Ft, Fd', Fm, Fy, FY, FM, FD, Fh, Fi, Fs⟩ := F
      have hY1 : 0 ≤ FY := hY.1
      have hY2 : FY ≤ 9999 := hY.2
      clear hY
      have hno : (Ft = false ∨ (Ft = true ∧ Fd' = false) ∨ (Ft = true ∧ Fd' = true ∧ Fm = false) ∨ (Ft = true ∧ Fd' = true ∧ Fm = true ∧ Fy = false)) ∨ (Ft = true ∧ Fd' = true ∧ Fm = true ∧ Fy = true) := by
        cases Ft <;> cases Fd' <;> cases Fm <;> cases Fy <;> simp
      rcases hno with (rfl | ⟨rfl, rfl⟩ | ⟨rfl, rfl, rfl⟩ | ⟨rfl, rfl, rfl, rfl⟩) | ⟨rfl, rfl, rfl, rfl⟩
      case _ =>
        go_wp2
        go_ret2
        exact ⟨ret_both (by rw [← HX.out, cookieF_no _ (.inl rfl)]), hbe⟩
      case _ =>
        go_wp2
        go_ret2
        exact ⟨ret_both (by rw [← HX.out, cookieF_no _ (.inr (.inl rfl))]), hbe⟩
      case _ =>
        go_wp2
        go_ret2
        exact ⟨ret_both (by rw [← HX.out, cookieF_no _ (.inr (.inr (.inl rfl)))]), hbe⟩
      case _ =>
        go_wp2
        go_ret2
        exact ⟨ret_both (by rw [← HX.out, cookieF_no _ (.inr (.inr (.inr rfl)))]), hbe⟩
      rcases (show (70 ≤ FY ∧ FY ≤ 99) ∨ (¬ 70 ≤ FY ∧ FY ≤ 69) ∨ (70 ≤ FY ∧ ¬ FY ≤ 99 ∧ ¬ FY ≤ 69 ∧ FY < 1601) ∨ (70 ≤ FY ∧ ¬ FY ≤ 99 ∧ ¬ FY ≤ 69 ∧ ¬ FY < 1601) by omega) with ⟨y1, y2⟩ | ⟨y1, y2⟩ | ⟨y1, y2, y3, y4⟩ | ⟨y1, y2, y3, y4⟩
      case _ =>
        have HX2 : Hid ((if 1601 ≤ FY + 1900 ∧ IsClock (FY + 1900) FM FD Fh Fi Fs then (secs (FY + 1900) FM FD Fh Fi Fs, true) else (0, false)) = (ci, cb)) := by
          show _ = _
          rw [← HX.out]
          exact (cookieF_at FY FM FD Fh Fi Fs _ (by unfold yearOf; rw [if_pos (by omega)])).symm
        clear HX
        by_cases hck : IsClock (FY + 1900) FM FD Fh Fi Fs
        · have HE := Lib.hid (repoch_yes (FY + 1900) FM FD Fh Fi Fs · hck)
          rw [if_pos ⟨by omega, hck⟩] at HX2
          clear hck
          go_wp2_with fail
          with_reducible refine (HE.out _).mono ?_
          rintro _ w2 ⟨rfl, hb⟩
          have hbz := chain (hbe.setCell (p := ⟨w.heap.size, 4, none⟩) (Nat.le_refl _) _) hb
          clear hb hbe
          go_wp2
          go_ret2
          exact ⟨ret_both HX2.out, hbz⟩
        · have HE := Lib.hid (repoch_no (FY + 1900) FM FD Fh Fi Fs · hck)
          rw [if_neg (fun h => hck h.2)] at HX2
          clear hck
          go_wp2_with fail
          with_reducible refine (HE.out _).mono ?_
          rintro _ w2 ⟨rfl, hb⟩
          have hbz := chain (hbe.setCell (p := ⟨w.heap.size, 4, none⟩) (Nat.le_refl _) _) hb
          clear hb hbe
          go_wp2
          go_ret2
          exact ⟨ret_both HX2.out, hbz⟩
      case _ =>
        have HX2 : Hid ((if 1601 ≤ FY + 2000 ∧ IsClock (FY + 2000) FM FD Fh Fi Fs then (secs (FY + 2000) FM FD Fh Fi Fs, true) else (0, false)) = (ci, cb)) := by
          show _ = _
          rw [← HX.out]
          exact (cookieF_at FY FM FD Fh Fi Fs _ (by unfold yearOf; rw [if_neg (by omega), if_pos (by omega)])).symm
        clear HX
        by_cases hck : IsClock (FY + 2000) FM FD Fh Fi Fs
        · have HE := Lib.hid (repoch_yes (FY + 2000) FM FD Fh Fi Fs · hck)
          rw [if_pos ⟨by omega, hck⟩] at HX2
          clear hck
          go_wp2_with fail
          with_reducible refine (HE.out _).mono ?_
          rintro _ w2 ⟨rfl, hb⟩
          have hbz := chain (hbe.setCell (p := ⟨w.heap.size, 4, none⟩) (Nat.le_refl _) _) hb
          clear hb hbe
          go_wp2
          go_ret2
          exact ⟨ret_both HX2.out, hbz⟩
        · have HE := Lib.hid (repoch_no (FY + 2000) FM FD Fh Fi Fs · hck)
          rw [if_neg (fun h => hck h.2)] at HX2
          clear hck
          go_wp2_with fail
          with_reducible refine (HE.out _).mono ?_
          rintro _ w2 ⟨rfl, hb⟩
          have hbz := chain (hbe.setCell (p := ⟨w.heap.size, 4, none⟩) (Nat.le_refl _) _) hb
          clear hb hbe
          go_wp2
          go_ret2
          exact ⟨ret_both HX2.out, hbz⟩
      case _ =>
        have HX2 : Hid ((0, false) = (ci, cb)) := by
          show _ = _
          rw [← HX.out, cookieF_at FY FM FD Fh Fi Fs FY (by unfold yearOf; rw [if_neg (by omega), if_neg (by omega)]), if_neg (fun h => by omega)]
        clear HX
        go_wp2
        go_ret2
        exact ⟨ret_both HX2.out, hbe⟩
      case _ =>
        have HX2 : Hid ((if 1601 ≤ FY ∧ IsClock (FY) FM FD Fh Fi Fs then (secs (FY) FM FD Fh Fi Fs, true) else (0, false)) = (ci, cb)) := by
          show _ = _
          rw [← HX.out]
          exact (cookieF_at FY FM FD Fh Fi Fs _ (by unfold yearOf; rw [if_neg (by omega), if_neg (by omega)])).symm
        clear HX
        by_cases hck : IsClock (FY) FM FD Fh Fi Fs
        · have HE := Lib.hid (repoch_yes (FY) FM FD Fh Fi Fs · hck)
          rw [if_pos ⟨by omega, hck⟩] at HX2
          clear hck
          go_wp2_with fail
          with_reducible refine (HE.out _).mono ?_
          rintro _ w2 ⟨rfl, hb⟩
          have hbz := chain hbe hb
          clear hb hbe
          go_wp2
          go_ret2
          exact ⟨ret_both HX2.out, hbz⟩
        · have HE := Lib.hid (repoch_no (FY) FM FD Fh Fi Fs · hck)
          rw [if_neg (fun h => hck h.2)] at HX2
          clear hck
          go_wp2_with fail
          with_reducible refine (HE.out _).mono ?_
          rintro _ w2 ⟨rfl, hb⟩
          have hbz := chain hbe hb
          clear hb hbe
          go_wp2
          go_ret2
          exact ⟨ret_both HX2.out, hbz⟩
end Go.Proofs.YtmmkokomffclmaaDoor
