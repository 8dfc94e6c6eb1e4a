/-
  The document's own answers (package cracknelref10): month: a contract.
-/
import Derived.Test.YtmmkokomffclmaaDoorDatRefT
import Derived.Test.YtmmkokomffclmaaDoorAscLow
import Derived.Test.YtmmkokomffclmaaDoorBaseDraw
import Derived.Deep.RegionHeld3
namespace Go.Proofs.YtmmkokomffclmaaDoor
open Go.RowKit
set_option linter.unusedVariables false

theorem lowD_lowC : lowD = lowC := rfl

/-- The month's name in place k. -/
def monB (k : Nat) : ByteArray := ⟨(monthsL.getD k []).toArray⟩

theorem months_cells (w : World) (k : Nat) (hk : k < 12) : (w.alloc (.cells #[.string ⟨#[106, 97, 110]⟩, .string ⟨#[102, 101, 98]⟩, .string ⟨#[109, 97, 114]⟩, .string ⟨#[97, 112, 114]⟩, .string ⟨#[109, 97, 121]⟩, .string ⟨#[106, 117, 110]⟩, .string ⟨#[106, 117, 108]⟩, .string ⟨#[97, 117, 103]⟩, .string ⟨#[115, 101, 112]⟩, .string ⟨#[111, 99, 116]⟩, .string ⟨#[110, 111, 118]⟩, .string ⟨#[100, 101, 99]⟩] 9)).cell? ⟨w.heap.size, k, none⟩ = some (.string (monB k)) := by
  rw [cell_of_row _ _ _ _ _ _ (heap_alloc_new w _)]
  rcases (show k = 0 ∨ k = 1 ∨ k = 2 ∨ k = 3 ∨ k = 4 ∨ k = 5 ∨ k = 6 ∨ k = 7 ∨ k = 8 ∨ k = 9 ∨ k = 10 ∨ k = 11 from by omega) with rfl | rfl | rfl | rfl | rfl | rfl | rfl | rfl | rfl | rfl | rfl | rfl <;> rfl

theorem placeOf_at (x : List UInt8) (l : List (List UInt8)) (k : Nat) (h : k < l.length) : placeOf x (l.drop k) k = if x = l.getD k [] then k + 1 else placeOf x (l.drop (k + 1)) (k + 1) := by
  rw [List.drop_eq_getElem_cons h]
  have e : l.getD k [] = l[k] := by rw [List.getD_eq_getElem?_getD, List.getElem?_eq_getElem h]; rfl
  rw [e]
  rfl

def MonthAt (key : List UInt8) (g : Nat) (w0 : World) (gk : Nat) (i : Value) (wr : World) : Prop :=
  ∃ k : Nat, i = .int .i64 (k : Int) ∧ k + gk = 13 ∧ 1 ≤ gk ∧ placeOf key monthsL 0 = placeOf key (monthsL.drop k) k ∧ (∀ j, j < 12 → wr.cell? ⟨g, j, none⟩ = some (.string (monB j))) ∧ Below g w0 wr

theorem mon_keep {W0 W W' : World} {p : Addr} {v : Value} (hb : Below W.heap.size W W') (h : W.cell? p = some v ∧ Below W0.heap.size W0 W) : W'.cell? p = some v ∧ Below W0.heap.size W0 W' :=
  ⟨by rw [hb.cell (World.block_lt_of_cell? W p h.1)]; exact h.1, chain h.2 hb⟩
theorem mon_drew {W0 W : World} {p : Addr} {v : Value} (h : W.cell? p = some v ∧ Below W0.heap.size W0 W) : W.drew.cell? p = some v ∧ Below W0.heap.size W0 W.drew := ⟨by simpa using h.1, h.2.drew⟩

set_option maxRecDepth 100000 in
set_option maxHeartbeats 1600000 in
theorem rmonth_long (s : ByteArray) (w : World) (hs : s.size ≤ 1000000000) (h3 : 3 ≤ s.size) :
    Calls Tryd.prog 53 #[.string s] w fun e w' => e = .returned (.int .i64 (monthL s.data.toList : Nat)) ∧ Below w.heap.size w w' := by
  have hk0 : Hid (monthL s.data.toList = placeOf ((s.data.toList.take 3).map lowD) monthsL 0) := by
    show _ = _
    unfold monthL
    rw [if_pos (by rw [list_len]; exact h3)]
  have hkey : (lowB (s.extract 0 3)).data.toList = (s.data.toList.take 3).map lowD := by
    rw [lowD_lowC, ← pref_list]
    simp [lowB]
  obtain ⟨key, hkk⟩ : ∃ key, key = (s.data.toList.take 3).map lowD := ⟨_, rfl⟩
  rw [← hkk] at hk0 hkey
  have HK := Lib.hid hkey
  have hes : (s.extract 0 3).size = 3 := by rw [ByteArray.size_extract]; omega
  have h3' : (3 : Int) ≤ (s.size : Int) := by omega
  have h3d : decide ((3 : Int) ≤ (s.size : Int)) = true := by simpa using h3'
  clear hkk hkey
  have hm := months_cells w
  have hb0 := (Below.refl w.heap.size w).alloc (Nat.le_refl _) (.cells #[.string ⟨#[106, 97, 110]⟩, .string ⟨#[102, 101, 98]⟩, .string ⟨#[109, 97, 114]⟩, .string ⟨#[97, 112, 114]⟩, .string ⟨#[109, 97, 121]⟩, .string ⟨#[106, 117, 110]⟩, .string ⟨#[106, 117, 108]⟩, .string ⟨#[97, 117, 103]⟩, .string ⟨#[115, 101, 112]⟩, .string ⟨#[111, 99, 116]⟩, .string ⟨#[110, 111, 118]⟩, .string ⟨#[100, 101, 99]⟩] 9)
  have HM := Lib.hid hm
  clear hm
  go_enter Tryd.func53, Tryd.ntmps53
  go_wp2
  go_loopg [4] 13 (fun gk i wr => MonthAt key w.heap.size w gk i wr)
  case atStart => exact ⟨0, rfl, by omega, by omega, rfl, HM.out, hb0⟩
  case round =>
    clear HM hb0
    obtain ⟨k, rfl, hk, hg1, hinv, hc, hbe⟩ := hrel
    have HI := Lib.hid hinv
    have HC := Lib.hid hc
    clear hinv
    by_cases hlt : k < 12
    · have c0 := hc k hlt
      have HP := Lib.hid (placeOf_at key monthsL k hlt)
      clear hc
      obtain ⟨nm, hnm⟩ : ∃ nm, nm = monB k := ⟨_, rfl⟩
      rw [← hnm] at c0
      have HNM := Lib.hid hnm
      clear hnm
      obtain ⟨low, hlow⟩ : ∃ low, low = lowB (s.extract 0 3) := ⟨_, rfl⟩
      have HL := Lib.hid (rlower_any (s.extract 0 3) · (by omega))
      rw [← hlow] at HL HK
      clear hlow
      obtain ⟨q, hq⟩ : ∃ q, q = (low.toList == nm.toList) := ⟨_, rfl⟩
      have HQ := Lib.hid hq
      replace hq := hq.symm
      have HE : Hid (q = decide (key = monthsL.getD k [])) := by
        show _ = _
        rw [HQ.out, eq_toList, Bool.eq_iff_iff, decide_eq_true_eq, decide_eq_true_eq, HNM.out, ← HK.out]
        constructor
        · intro h; rw [h]; simp [monB]
        · intro h; exact ba_ext (by rw [h]; simp [monB])
      cases q
      · have HF : Hid (placeOf key monthsL 0 = placeOf key (monthsL.drop (k + 1)) (k + 1)) := by
          show _ = _
          rw [HI.out, HP.out, if_neg (of_decide_eq_false HE.out.symm)]
        clear HI HP
        go_wp2_with (with_reducible refine wp_halt ?_)
        refine Halt.on ?_
        obtain ⟨W0, hW0⟩ : ∃ W0, W0 = wr := ⟨_, rfl⟩
        have hS : wr.cell? ⟨w.heap.size, k, none⟩ = some (.string nm) ∧ Below W0.heap.size W0 wr := ⟨c0, by rw [hW0]; exact Below.refl _ _⟩
        have HFI : Hid (∀ W, (W.cell? ⟨w.heap.size, k, none⟩ = some (.string nm) ∧ Below W0.heap.size W0 W) → ((∀ j, j < 12 → W.cell? ⟨w.heap.size, j, none⟩ = some (.string (monB j))) ∧ Below w.heap.size w W)) := by
          intro W hW
          rw [hW0] at hW
          exact ⟨fun j hj => by rw [hW.2.cell (World.block_lt_of_cell? wr _ (HC.out j hj))]; exact HC.out j hj, chain hbe hW.2⟩
        clear hW0
        go_region_held3 (fun W => W.cell? ⟨w.heap.size, k, none⟩ = some (.string nm) ∧ Below W0.heap.size W0 W) (first | assumption | (refine mon_drew ?_; assumption)) (first
          | (go_at_call 19; ((with_reducible refine (HL.out _).mono ?_); rintro _ _ ⟨rfl, hb⟩; have hS1 := mon_keep (p := ⟨w.heap.size, k, none⟩) (v := .string nm) (W0 := W0) hb (by assumption); clear hb)))
        all_goals
          go_wp2
          go_roundg (gk - 1)
          case measure => omega
          case rel =>
            obtain ⟨p1, p2⟩ := HFI.out _ (by assumption)
            exact ⟨k + 1, by go_num, by omega, by omega, HF.out, p1, p2⟩
      · have HF : Hid (monthL s.data.toList = k + 1) := by
          show _ = _
          rw [hk0.out, HI.out, HP.out, if_pos (of_decide_eq_true HE.out.symm)]
        clear HI HP
        go_wp2_with (with_reducible refine wp_halt ?_)
        refine Halt.on ?_
        obtain ⟨W0, hW0⟩ : ∃ W0, W0 = wr := ⟨_, rfl⟩
        have hS : wr.cell? ⟨w.heap.size, k, none⟩ = some (.string nm) ∧ Below W0.heap.size W0 wr := ⟨c0, by rw [hW0]; exact Below.refl _ _⟩
        have HFI : Hid (∀ W, (W.cell? ⟨w.heap.size, k, none⟩ = some (.string nm) ∧ Below W0.heap.size W0 W) → ((∀ j, j < 12 → W.cell? ⟨w.heap.size, j, none⟩ = some (.string (monB j))) ∧ Below w.heap.size w W)) := by
          intro W hW
          rw [hW0] at hW
          exact ⟨fun j hj => by rw [hW.2.cell (World.block_lt_of_cell? wr _ (HC.out j hj))]; exact HC.out j hj, chain hbe hW.2⟩
        clear hW0
        go_region_held3 (fun W => W.cell? ⟨w.heap.size, k, none⟩ = some (.string nm) ∧ Below W0.heap.size W0 W) (first | assumption | (refine mon_drew ?_; assumption)) (first
          | (go_at_call 19; ((with_reducible refine (HL.out _).mono ?_); rintro _ _ ⟨rfl, hb⟩; have hS1 := mon_keep (p := ⟨w.heap.size, k, none⟩) (v := .string nm) (W0 := W0) hb (by assumption); clear hb)))
        all_goals
          go_wp2
          go_ret
          obtain ⟨p1, p2⟩ := HFI.out _ (by assumption)
          exact ⟨ret_i64 (by rw [HF.out]; omega), p2⟩
    · have ek : k = 12 := by omega
      subst ek
      have HF : Hid (monthL s.data.toList = 0) := by
        show _ = _
        rw [hk0.out, HI.out]
        rfl
      clear HI
      go_wp2
      go_ret
      exact ⟨ret_i64 (by rw [HF.out]; rfl), hbe⟩

set_option maxRecDepth 100000 in
set_option maxHeartbeats 1600000 in
theorem rmonth_short (s : ByteArray) (w : World) (h3 : s.size < 3) :
    Calls Tryd.prog 53 #[.string s] w fun e w' => e = .returned (.int .i64 (monthL s.data.toList : Nat)) ∧ Below w.heap.size w w' := by
  have hk0 : Hid (monthL s.data.toList = 0) := by
    show _ = _
    unfold monthL
    rw [if_neg (by rw [list_len]; omega)]
  have h3' : ¬ (3 : Int) ≤ (s.size : Int) := by omega
  have h3d : decide ((3 : Int) ≤ (s.size : Int)) = false := by simpa using h3'
  have hb0 := (Below.refl w.heap.size w).alloc (Nat.le_refl _) (.cells #[.string ⟨#[106, 97, 110]⟩, .string ⟨#[102, 101, 98]⟩, .string ⟨#[109, 97, 114]⟩, .string ⟨#[97, 112, 114]⟩, .string ⟨#[109, 97, 121]⟩, .string ⟨#[106, 117, 110]⟩, .string ⟨#[106, 117, 108]⟩, .string ⟨#[97, 117, 103]⟩, .string ⟨#[115, 101, 112]⟩, .string ⟨#[111, 99, 116]⟩, .string ⟨#[110, 111, 118]⟩, .string ⟨#[100, 101, 99]⟩] 9)
  go_enter Tryd.func53, Tryd.ntmps53
  go_wp2
  go_loopg [4] 13 (fun gk i wr => ∃ k : Nat, i = .int .i64 (k : Int) ∧ k + gk = 13 ∧ 1 ≤ gk ∧ Below w.heap.size w wr)
  case atStart => exact ⟨0, rfl, by omega, by omega, hb0⟩
  case round =>
    clear hb0
    obtain ⟨k, rfl, hk, hg1, hbe⟩ := hrel
    by_cases hlt : k < 12
    · go_wp2_with (with_reducible refine wp_halt ?_)
      refine Halt.on ?_
      go_region
      all_goals
        go_wp2
        go_roundg (gk - 1)
        case measure => omega
        case rel => exact ⟨k + 1, by go_num, by omega, by omega, hbe.drew⟩
    · go_wp2
      go_ret
      exact ⟨ret_i64 (by rw [hk0.out]; rfl), hbe⟩

theorem rmonth_any (s : ByteArray) (w : World) (hs : s.size ≤ 1000000000) :
    Calls Tryd.prog 53 #[.string s] w fun e w' => e = .returned (.int .i64 (monthL s.data.toList : Nat)) ∧ Below w.heap.size w w' := by
  rcases Nat.lt_or_ge s.size 3 with h | h
  · exact rmonth_short s w h
  · exact rmonth_long s w hs h
end Go.Proofs.YtmmkokomffclmaaDoor

