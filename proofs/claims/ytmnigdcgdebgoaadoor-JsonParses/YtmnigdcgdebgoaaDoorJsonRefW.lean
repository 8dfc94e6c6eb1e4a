/-
  The document's own reader of json: word, among, key.
-/
import Derived.Test.YtmnigdcgdebgoaaDoorJsonRefD
import Derived.Test.YtmnigdcgdebgoaaDoorJsA
import Derived.Test.YtmnigdcgdebgoaaDoorBaseRows
import Derived.Deep.DeepCutAuto
import Derived.IntWalk
namespace Go.Proofs.YtmnigdcgdebgoaaDoor
open Go.RowKit
set_option linter.unusedVariables false

theorem BoxS.drew {w : World} {B : Nat} {a b c d : Value} (h : BoxS w B a b c d) : BoxS w.drew B a b c d := ⟨h.at_⟩
theorem BoxR.drew {w : World} {B : Nat} {a b c d e : Value} (h : BoxR w B a b c d e) : BoxR w.drew B a b c d e := ⟨h.at_⟩

def wordN (k : Nat) : ByteArray := if k = 0 then ⟨#[110, 117, 108, 108]⟩ else if k = 1 then ⟨#[102, 97, 108, 115, 101]⟩ else ⟨#[116, 114, 117, 101]⟩
theorem wordN_list (k : Nat) (hk : k < 3) : (wordN k).data.toList = wordL (k + 1) := by
  have : k = 0 ∨ k = 1 ∨ k = 2 := by omega
  rcases this with rfl | rfl | rfl <;> rfl
theorem wordN_size (k : Nat) (hk : k < 3) : (wordN k).size = (wordL (k + 1)).length ∧ 1 ≤ (wordN k).size ∧ (wordN k).size ≤ 5 := by
  have : k = 0 ∨ k = 1 ∨ k = 2 := by omega
  rcases this with rfl | rfl | rfl <;> decide
theorem pref_extract (s : ByteArray) (k : Nat) (wd : ByteArray) (hk : k ≤ s.size) : wd.data.toList.isPrefixOf (restB s k) = true ↔ wd.size ≤ s.size - k ∧ s.extract k (k + wd.size) = wd := by
  rw [List.isPrefixOf_iff_prefix]
  constructor
  · rintro ⟨t, ht⟩
    have hl := congrArg List.length ht
    rw [List.length_append, list_len, restB_len] at hl
    refine ⟨by omega, ba_ext ?_⟩
    rw [extract_list, Nat.add_sub_cancel_left]
    show (restB s k).take _ = _
    rw [← ht, ← list_len wd, List.take_left]
  · rintro ⟨h1, h2⟩
    refine ⟨(restB s k).drop wd.size, ?_⟩
    have e : (s.extract k (k + wd.size)).data.toList = wd.data.toList := by rw [h2]
    rw [extract_list, Nat.add_sub_cancel_left] at e
    rw [← e]
    exact List.take_append_drop _ _

/-- What word tells, from the k-th word on. -/
def wordFrom (k d : Nat) (key l : List UInt8) : Nat × List It × List UInt8 :=
  if k = 0 then wordF d key l
  else if k = 1 then (if (wordL 2).isPrefixOf l then (0, [⟨d, 2, key, [], 0⟩], l.drop 5) else if (wordL 3).isPrefixOf l then (0, [⟨d, 3, key, [], 0⟩], l.drop 4) else (80, [], []))
  else if k = 2 then (if (wordL 3).isPrefixOf l then (0, [⟨d, 3, key, [], 0⟩], l.drop 4) else (80, [], []))
  else (80, [], [])
theorem wordFrom_step (k d : Nat) (key l : List UInt8) (hk : k < 3) : wordFrom k d key l = if (wordL (k + 1)).isPrefixOf l then (0, [⟨d, ((k : Nat) : Int) + 1, key, [], 0⟩], l.drop (wordL (k + 1)).length) else wordFrom (k + 1) d key l := by
  have : k = 0 ∨ k = 1 ∨ k = 2 := by omega
  rcases this with rfl | rfl | rfl <;> rfl

def RWordW (d : Nat) (key : List UInt8) (l : List UInt8) (A : Nat × List It × List UInt8) (W : World) (n : Nat) (v6 : Value) (wr : World) : Prop :=
  ∃ k : Nat, v6 = .int .i64 (k : Int) ∧ k + n = 3 ∧ wordFrom k d key l = A ∧ Below W.heap.size W wr

set_option maxRecDepth 100000 in
set_option maxHeartbeats 3200000 in
theorem rrword_any (s : ByteArray) (k : Nat) (ao : Option Addr) (m cap : Nat) (l : List It) (w : World) (hI : ItsAt w (.slice ao m cap) l) (hk : k ≤ s.size) (hs : s.size ≤ 1000000) (hl : l.length ≤ 1000000) (d : Nat) (key : ByteArray) :
    Calls Tryd.prog 66 #[stV s k (.slice ao m cap) 0, itA d 0 key ByteArray.empty 0] w fun r w' => RTells s w.heap.size l w (wordF d key.data.toList (restB s k)) r w' := by
  obtain ⟨A, hA⟩ : ∃ A, wordF d key.data.toList (restB s k) = A := ⟨_, rfl⟩
  rw [hA]
  obtain ⟨W, hW⟩ : ∃ W, (((w.alloc (.cells #[.string s, .int .i64 (k : Int), .slice ao m cap, .int .i64 0] 76)).alloc (.cells #[.int .i64 (d : Int), .int .i64 0, .string key, .string ByteArray.empty, .int .i64 0] 46)).alloc (.cells #[.string ⟨#[]⟩, .int .i64 0, .slice none 0 0, .int .i64 0] 76)).alloc (.cells #[.string ⟨#[110, 117, 108, 108]⟩, .string ⟨#[102, 97, 108, 115, 101]⟩, .string ⟨#[116, 114, 117, 101]⟩] 9) = W := ⟨_, rfl⟩
  have hbw : Below w.heap.size w W := by
    rw [← hW]
    exact ((((Below.refl _ _).alloc (Nat.le_refl _) _).alloc (by simp) _).alloc (by simp; omega) _).alloc (by simp; omega) _
  obtain ⟨W0, hW0⟩ : ∃ W0, ((w.alloc (.cells #[.string s, .int .i64 (k : Int), .slice ao m cap, .int .i64 0] 76)).alloc (.cells #[.int .i64 (d : Int), .int .i64 0, .string key, .string ByteArray.empty, .int .i64 0] 46)).alloc (.cells #[.string ⟨#[]⟩, .int .i64 0, .slice none 0 0, .int .i64 0] 76) = W0 := ⟨_, rfl⟩
  have hz0 : W0.heap.size = w.heap.size + 1 + 1 + 1 := by rw [← hW0]; simp
  rw [hW0] at hW
  have hb0 : Below W0.heap.size W0 W := by rw [← hW]; exact (Below.refl _ _).alloc (Nat.le_refl _) _
  have hS : BoxS W w.heap.size (.string s) (.int .i64 (k : Int)) (.slice ao m cap) (.int .i64 ((0 : Nat) : Int)) := by
    refine BoxS.keep ?_ hb0
    rw [← hW0]
    exact (BoxS.new w _ _ _ _).keep (((Below.refl _ _).alloc (Nat.le_refl _) _).alloc (by simp) _)
  have hX : BoxR W (w.heap.size + 1) (.int .i64 (d : Int)) (.int .i64 0) (.string key) (.string ByteArray.empty) (.int .i64 0) := by
    refine BoxR.keep ?_ hb0
    rw [← hW0]
    have e := BoxR.new (w.alloc (.cells #[.string s, .int .i64 (k : Int), .slice ao m cap, .int .i64 0] 76)) (.int .i64 (d : Int)) (.int .i64 0) (.string key) (.string ByteArray.empty) (.int .i64 0)
    rw [show (w.alloc (.cells #[.string s, .int .i64 (k : Int), .slice ao m cap, .int .i64 0] 76)).heap.size = w.heap.size + 1 by simp] at e
    exact e.keep ((Below.refl _ _).alloc (Nat.le_refl _) _)
  have hR : BoxS W (w.heap.size + 1 + 1) (.string ⟨#[]⟩) (.int .i64 0) (.slice none 0 0) (.int .i64 0) := by
    refine BoxS.keep ?_ hb0
    rw [← hW0]
    have e := BoxS.new ((w.alloc (.cells #[.string s, .int .i64 (k : Int), .slice ao m cap, .int .i64 0] 76)).alloc (.cells #[.int .i64 (d : Int), .int .i64 0, .string key, .string ByteArray.empty, .int .i64 0] 46)) (.string ⟨#[]⟩) (.int .i64 0) (.slice none 0 0) (.int .i64 0)
    rw [show ((w.alloc (.cells #[.string s, .int .i64 (k : Int), .slice ao m cap, .int .i64 0] 76)).alloc (.cells #[.int .i64 (d : Int), .int .i64 0, .string key, .string ByteArray.empty, .int .i64 0] 46)).heap.size = w.heap.size + 1 + 1 by simp] at e
    exact e
  have hL : W.heap[w.heap.size + 1 + 1 + 1]? = some (.cells #[.string ⟨#[110, 117, 108, 108]⟩, .string ⟨#[102, 97, 108, 115, 101]⟩, .string ⟨#[116, 114, 117, 101]⟩] 9 (0, 0)) := by
    rw [← hW, ← hz0]
    exact heap_alloc_new W0 _
  have HA := Lib.hid hA
  have HST : Hid (RWordW d key.data.toList (restB s k) A W 3 (.int .i64 0) W) := ⟨0, rfl, rfl, hA, Below.refl _ _⟩
  have HI := Lib.hid hI
  have HBW := Lib.hid hbw
  have HS := Lib.hid hS
  have HX := Lib.hid hX
  have HR := Lib.hid hR
  have HL := Lib.hid hL
  have HWW : Hid (W0.alloc (.cells #[.string ⟨#[110, 117, 108, 108]⟩, .string ⟨#[102, 97, 108, 115, 101]⟩, .string ⟨#[116, 114, 117, 101]⟩] 9) = W) := hW
  have HW0 := Lib.hid hW0
  clear hA hI hbw hS hX hR hW hW0 hL hz0 hb0
  unfold stV itA
  go_enter Tryd.func66, Tryd.ntmps66
  go_wp2
  rw [show ((0 : Nat) : Int) = 0 from rfl, HW0.out, HWW.out]
  go_loopg [6] 3 (fun n v6 wr => RWordW d key.data.toList (restB s k) A W n v6 wr)
  case atStart => exact HST.out
  case round =>
    obtain ⟨i, rfl, hin, hfr, hbe⟩ := hrel
    have HFR := Lib.hid hfr
    have HBE := Lib.hid hbe
    have HSW := Lib.hid (HS.out.keep hbe)
    have HXW := Lib.hid (HX.out.keep hbe)
    have HRW := Lib.hid (HR.out.keep hbe)
    have hLw : wr.heap[w.heap.size + 1 + 1 + 1]? = _ := (hbe.block _ (Array.getElem?_eq_some_iff.1 HL.out).1).trans HL.out
    clear hfr hbe HST
    obtain ⟨p0, p1, p2, p3⟩ := HSW.out.cells
    by_cases hi : i < 3
    · obtain ⟨wd, hwd⟩ : ∃ wd, wordN i = wd := ⟨_, rfl⟩
      have hcell : wr.cell? ⟨w.heap.size + 1 + 1 + 1, i, none⟩ = some (.string wd) := by
        rw [cell_of_row wr _ i _ _ _ hLw, ← hwd]
        have : i = 0 ∨ i = 1 ∨ i = 2 := by omega
        rcases this with rfl | rfl | rfl <;> rfl
      have HFS := Lib.hid ((wordFrom_step i d key.data.toList (restB s k) hi).symm.trans HFR.out)
      obtain ⟨hz1, hz2, hz3⟩ := wordN_size i hi
      have hwl := wordN_list i hi
      have hpx := pref_extract s k (wordN i) hk
      rw [hwl] at hpx
      rw [hwd] at hz1 hz2 hz3 hpx
      have hki : (k : Int) ≤ (s.size : Int) := by omega
      have hi0 : (0 : Int) ≤ (i : Int) := by omega
      have hi3 : (i : Int) < 3 := by omega
      have hws : IntKind.i64.wrap ((s.size : Int) - (k : Int)) = (s.size : Int) - (k : Int) := IntWalk.i64_in _ (by omega)
      have hwk : IntKind.i64.wrap ((k : Int) + (wd.size : Int)) = (k : Int) + (wd.size : Int) := IntWalk.i64_in _ (by omega)
      have hpre : (wordL (i + 1)).isPrefixOf (restB s k) = true ↔ wd.size ≤ s.size - k ∧ s.extract k (k + wd.size) = wd := hpx
      have HPRE := Lib.hid hpre
      have HZ1 := Lib.hid hz1
      clear hpx hwl hz1 hpre HA
      have next : (wordL (i + 1)).isPrefixOf (restB s k) = false → ∀ x : Int, x = (i : Int) + 1 → ∀ w4, Below W.heap.size W w4 → RWordW d key.data.toList (restB s k) A W (gk - 1) (.int .i64 x) w4 := by
        intro hf x hx w4 hb
        subst hx
        refine ⟨i + 1, by go_num, by omega, ?_, hb⟩
        have := HFS.out
        rw [hf] at this
        exact this
      have HNX := Lib.hid next
      clear next
      by_cases hsz : wd.size ≤ s.size - k
      · have y1 : (wd.size : Int) ≤ (s.size : Int) - (k : Int) := by omega
        have y1' : decide ((wd.size : Int) ≤ (s.size : Int) - (k : Int)) = true := by simpa using y1
        have y2 : (0 : Int) ≤ (k : Int) + (wd.size : Int) := by omega
        have y3 : ((k : Int) + (wd.size : Int)).toNat = k + wd.size := by omega
        have y4 : (k : Int) + (wd.size : Int) ≤ (s.size : Int) := by omega
        have y5 : (k : Int) ≤ (k : Int) + (wd.size : Int) := by omega
        obtain ⟨X, hX⟩ : ∃ X, s.extract k (k + wd.size) = X := ⟨_, rfl⟩
        have HXX := Lib.hid hX
        by_cases he : X = wd
        · have z1 : ((s.extract k (k + wd.size)).toList == wd.toList) = true := by rw [eq_toList, hX]; simpa using he
          have HA3 : Hid (A = (0, [⟨d, (i : Int) + 1, key.data.toList, [], 0⟩], restB s (k + wd.size))) := by
            show _ = _
            have h := HFS.out
            rw [if_pos (HPRE.out.2 ⟨hsz, hX.trans he⟩)] at h
            rw [← h, ← HZ1.out]
            unfold restB
            rw [List.drop_drop]
          clear he hX HNX
          go_wp2_with fail
          go_quiet (fail)
          obtain ⟨w4, hw4⟩ : ∃ w4, wr.drewN nq = w4 := ⟨_, rfl⟩
          rw [hw4]
          have hb4 : Below wr.heap.size wr w4 := by rw [← hw4]; exact ⟨rfl, rfl, rfl, Nat.le_refl _, fun _ _ => rfl⟩
          have HB4 := Lib.hid (chain (chain HBW.out HBE.out) hb4)
          have HS4 := Lib.hid (HSW.out.keep hb4)
          have HX4 := Lib.hid (HXW.out.keep hb4)
          have HR4 := Lib.hid (HRW.out.keep hb4)
          have hc4 : w4.cell? ⟨w.heap.size + 1 + 1 + 1, i, none⟩ = some (.string wd) := (hb4.cell (p := ⟨w.heap.size + 1 + 1 + 1, i, none⟩) (World.block_lt_of_cell? wr ⟨w.heap.size + 1 + 1 + 1, i, none⟩ hcell)).trans hcell
          clear hw4 hb4 p0 p1 p2 p3 hcell hws z1 y1' hLw HSW HXW HRW HBE
          obtain ⟨p0, p1, p2, p3⟩ := HS4.out.cells
          have f1 := HS4.out.frozen 1
          have hn4 : ((k : Int) + (wd.size : Int)) = ((k + wd.size : Nat) : Int) := by omega
          have HN4 := Lib.hid hn4
          clear hn4
          go_wp2_with fail
          go_cut [] (fun wx => BoxS wx w.heap.size (.string s) (.int .i64 ((k + wd.size : Nat) : Int)) (.slice ao m cap) (.int .i64 ((0 : Nat) : Int)) ∧ BoxR wx (w.heap.size + 1) (.int .i64 (d : Int)) (.int .i64 0) (.string key) (.string ByteArray.empty) (.int .i64 0) ∧ BoxS wx (w.heap.size + 1 + 1) (.string ⟨#[]⟩) (.int .i64 0) (.slice none 0 0) (.int .i64 0) ∧ Below w.heap.size w wx)
          case first =>
            go_region
            all_goals (try go_wp2_with fail)
            all_goals
              go_meet
              rw [HN4.out]
              exact ⟨((HS4.out.set (.int .i64 ((k + wd.size : Nat) : Int))).2.1).drew, (HX4.out.other ⟨w.heap.size, 1, none⟩ (.int .i64 ((k + wd.size : Nat) : Int)) (by show w.heap.size ≠ w.heap.size + 1; omega)).drew, (HR4.out.other ⟨w.heap.size, 1, none⟩ (.int .i64 ((k + wd.size : Nat) : Int)) (by show w.heap.size ≠ w.heap.size + 1 + 1; omega)).drew, (HB4.out.setCell (p := ⟨w.heap.size, 1, none⟩) (Nat.le_refl _) (.int .i64 ((k + wd.size : Nat) : Int))).drew⟩
          case rest =>
            obtain ⟨hS1, hX1, hR1, hB1⟩ := hcut
            have HS1 := Lib.hid hS1
            have HX1 := Lib.hid hX1
            have HR1 := Lib.hid hR1
            have HB1 := Lib.hid hB1
            have h1 := hX1.frozen 1
            obtain ⟨x0, x1, x2, x3, x4⟩ := hX1.cells
            clear hS1 hX1 hR1 hB1 p0 p1 p2 p3 f1 hc4 HS4 HX4 HR4 HB4 hwk y1 y2 y3 y4 y5
            go_wp2_with fail
            obtain ⟨W2, hW2⟩ : ∃ W2, wc.setCell ⟨w.heap.size + 1, 1, none⟩ (.int .i64 ((i : Int) + 1)) = W2 := ⟨_, rfl⟩
            rw [hW2]
            have hS2 : BoxS W2 w.heap.size (.string s) (.int .i64 ((k + wd.size : Nat) : Int)) (.slice ao m cap) (.int .i64 ((0 : Nat) : Int)) := by
              rw [← hW2]
              exact HS1.out.other _ _ (by show w.heap.size + 1 ≠ w.heap.size; omega)
            have hX2 : BoxR W2 (w.heap.size + 1) (.int .i64 (d : Int)) (.int .i64 ((i : Int) + 1)) (.string key) (.string ByteArray.empty) (.int .i64 0) := by
              rw [← hW2]
              exact (HX1.out.set _).1
            have hR2 : BoxS W2 (w.heap.size + 1 + 1) (.string ⟨#[]⟩) (.int .i64 0) (.slice none 0 0) (.int .i64 0) := by
              rw [← hW2]
              exact HR1.out.other _ _ (by show w.heap.size + 1 ≠ w.heap.size + 1 + 1; omega)
            have hB2 : Below w.heap.size w W2 := by
              rw [← hW2]
              exact HB1.out.setCell (p := ⟨w.heap.size + 1, 1, none⟩) (by show _ ≤ w.heap.size + 1; omega) _
            clear hW2 x0 x1 x2 x3 x4 h1 HS1 HX1 HR1 HB1
            obtain ⟨p0, p1, p2, p3⟩ := hS2.cells
            obtain ⟨x0, x1, x2, x3, x4⟩ := hX2.cells
            have f2 := hS2.frozen 2
            have ls := hS2.lt
            have lx := hX2.lt
            have HI2 := Lib.hid (HI.out.keep hB2)
            have HR2 := Lib.hid hR2
            have HB2 := Lib.hid hB2
            have hsz2 := hB2.size
            have HS2 := Lib.hid hS2
            have HX2 := Lib.hid hX2
            clear hR2 hB2 hS2 hX2
            have HP1 := Lib.hid (push_one W2 HI2.out hl (d : Int) ((i : Int) + 1) 0 key ByteArray.empty)
            have HP2 := Lib.hid (push_two W2 HI2.out hl (d : Int) ((i : Int) + 1) 0 key ByteArray.empty)
            have HP3 := Lib.hid (push_three W2 HI2.out hl (d : Int) ((i : Int) + 1) 0 key ByteArray.empty)
            go_cut [] (fun wx => RowPut W2 w.heap.size s (k + wd.size) 0 (l ++ [⟨d, (i : Int) + 1, key.data.toList, [], 0⟩]) wx)
            case first =>
              go_region_law (first
              | ((with_reducible refine step_append_ex ?_ ?_ ?_ 22 ?_ ?_ ?_ _ HP1.out ?_); (rotate_left 3; rfl); rfl; rfl; (rotate_left; rfl); rintro _ w5 ⟨⟨ao5, m5, c5, rfl⟩, hb5, hfut⟩; obtain ⟨y0, y1, y2, y3, y4⟩ := (HX2.out.keep hb5).cells; have HFU := Lib.hid hfut; clear hfut hb5)
              | ((with_reducible refine step_append_ex ?_ ?_ ?_ 22 ?_ ?_ ?_ _ HP2.out ?_); (rotate_left 3; rfl); rfl; rfl; (rotate_left; rfl); rintro _ w5 ⟨⟨ao5, m5, c5, rfl⟩, hb5, hfut⟩; obtain ⟨y0, y1, y2, y3, y4⟩ := (HX2.out.keep hb5).cells; have HFU := Lib.hid hfut; clear hfut hb5)
              | ((with_reducible refine step_append_ex ?_ ?_ ?_ 22 ?_ ?_ ?_ _ HP3.out ?_); (rotate_left 3; rfl); rfl; rfl; (rotate_left; rfl); rintro _ w5 ⟨⟨ao5, m5, c5, rfl⟩, hb5, hfut⟩; obtain ⟨y0, y1, y2, y3, y4⟩ := (HX2.out.keep hb5).cells; have HFU := Lib.hid hfut; clear hfut hb5)
              | (refine step_append_ex (by rfl) _ _ 22 (by rfl) (by rfl) (by rfl) _ HFU.out ?_; rintro _ w6 ⟨hI6, hb6, ⟨ao6, m6, c6, rfl⟩, hset⟩; obtain ⟨u0, u1, u2, u3⟩ := (HS2.out.keep hb6).cells; have v2 := (HS2.out.keep hb6).frozen 2; have HB6 := Lib.hid hb6; have HSET := Lib.hid hset; clear hI6 hb6 hset))
              all_goals (try go_wp2_with fail)
              all_goals
                go_meet
                exact RowPut.mk HS2.out HB6.out HSET.out
            case rest =>
              have HPUT := Lib.hid hcut
              clear hcut HP1 HP2 HP3 p0 p1 p2 p3 x0 x1 x2 x3 x4 f2
              obtain ⟨ao7, m7, c7, hS7, hI7, _⟩ := HPUT.out
              have hR7 := HPUT.out.box HR2.out (by omega)
              have HB2' := Lib.hid (HPUT.out.below HB2.out (Nat.le_refl _))
              have HI7 := Lib.hid hI7
              have HRL := Lib.hid HR2.out.lt
              obtain ⟨p0, p1, p2, p3⟩ := hS7.cells
              obtain ⟨q0, q1, q2, q3⟩ := hR7.cells
              have g0 := hR7.frozen 0
              have g1 := hR7.frozen 1
              have g2 := hR7.frozen 2
              have g3 := hR7.frozen 3
              clear hS7 hI7 hR7 HPUT HB2 HR2 HS2 HX2 HI2
              have HB2 := Lib.hid HB2'.out
              clear HB2'
              go_wp2
              refine bodyPost_ret (v := stV s (k + wd.size) (.slice ao7 m7 c7) 0) (by simp [results, Tryd.results66, go_sem, q0, q1, q2, q3, stV]) rfl ?_
              rw [HA3.out]
              exact ⟨k + wd.size, ao7, m7, c7, by omega, rfl, ((((HB2.out.setCell (p := ⟨w.heap.size + 1 + 1, 0, none⟩) (by show _ ≤ w.heap.size + 1 + 1; omega) _).setCell (p := ⟨w.heap.size + 1 + 1, 1, none⟩) (by show _ ≤ w.heap.size + 1 + 1; omega) _).setCell (p := ⟨w.heap.size + 1 + 1, 2, none⟩) (by show _ ≤ w.heap.size + 1 + 1; omega) _).setCell (p := ⟨w.heap.size + 1 + 1, 3, none⟩) (by show _ ≤ w.heap.size + 1 + 1; omega) _), fun _ => ⟨rfl, ((((HI7.out.set ⟨w.heap.size + 1 + 1, 0, none⟩ _ HRL.out).set ⟨w.heap.size + 1 + 1, 1, none⟩ _ HRL.out).set ⟨w.heap.size + 1 + 1, 2, none⟩ _ HRL.out).set ⟨w.heap.size + 1 + 1, 3, none⟩ _ HRL.out).mono hsz2⟩⟩
        · have z1 : ((s.extract k (k + wd.size)).toList == wd.toList) = false := by rw [eq_toList, hX]; simpa using he
          have HF : Hid ((wordL (i + 1)).isPrefixOf (restB s k) = false) := by
            show _ = _
            rw [Bool.eq_false_iff]
            intro h
            exact he (hX ▸ (HPRE.out.1 h).2)
          clear he hX
          go_wp2_with fail
          go_quiet (fail)
          obtain ⟨w4, hw4⟩ : ∃ w4, wr.drewN nq = w4 := ⟨_, rfl⟩
          rw [hw4]
          have hb4 : Below wr.heap.size wr w4 := by rw [← hw4]; exact ⟨rfl, rfl, rfl, Nat.le_refl _, fun _ _ => rfl⟩
          have HBE2 := Lib.hid (chain HBE.out hb4)
          clear hw4 hb4 p0 p1 p2 p3 hcell hws hwk z1 y1' y3 hLw
          go_wp2
          go_roundg (gk - 1)
          case measure => omega
          case rel => exact HNX.out HF.out _ rfl _ HBE2.out
      · have y1 : ¬ (wd.size : Int) ≤ (s.size : Int) - (k : Int) := by omega
        have y1' : decide ((wd.size : Int) ≤ (s.size : Int) - (k : Int)) = false := by simpa using y1
        have HF : Hid ((wordL (i + 1)).isPrefixOf (restB s k) = false) := by
          show _ = _
          rw [Bool.eq_false_iff]
          intro h
          exact hsz (HPRE.out.1 h).1
        go_wp2_with fail
        go_quiet (fail)
        obtain ⟨w4, hw4⟩ : ∃ w4, wr.drewN nq = w4 := ⟨_, rfl⟩
        rw [hw4]
        have hb4 : Below wr.heap.size wr w4 := by rw [← hw4]; exact ⟨rfl, rfl, rfl, Nat.le_refl _, fun _ _ => rfl⟩
        have HBE2 := Lib.hid (chain HBE.out hb4)
        clear hw4 hb4 p0 p1 p2 p3 hcell hws hwk y1' hLw
        go_wp2
        go_roundg (gk - 1)
        case measure => omega
        case rel => exact HNX.out HF.out _ rfl _ HBE2.out
    · obtain rfl : i = 3 := by omega
      have HA2 : Hid (A = (80, [], [])) := HFR.out.symm
      clear hLw
      go_wp2_with fail
      refine (ramiss_any s k ao m cap 0 80 _).mono ?_
      rintro _ w2 ⟨rfl, hb2⟩
      obtain ⟨q0, q1, q2, q3⟩ := (HRW.out.keep hb2).cells
      have g0 := (HRW.out.keep hb2).frozen 0
      have g1 := (HRW.out.keep hb2).frozen 1
      have g2 := (HRW.out.keep hb2).frozen 2
      have g3 := (HRW.out.keep hb2).frozen 3
      have HB2 := Lib.hid (chain (chain HBW.out HBE.out) hb2)
      clear hb2
      unfold stV
      go_wp2
      refine bodyPost_ret (v := stV s k (.slice ao m cap) 80) (by simp [results, Tryd.results66, go_sem, q0, q1, q2, q3, stV]) rfl ?_
      rw [HA2.out]
      exact ⟨k, ao, m, cap, hk, rfl, ((((HB2.out.setCell (p := ⟨w.heap.size + 1 + 1, 0, none⟩) (by show _ ≤ w.heap.size + 1 + 1; omega) _).setCell (p := ⟨w.heap.size + 1 + 1, 1, none⟩) (by show _ ≤ w.heap.size + 1 + 1; omega) _).setCell (p := ⟨w.heap.size + 1 + 1, 2, none⟩) (by show _ ≤ w.heap.size + 1 + 1; omega) _).setCell (p := ⟨w.heap.size + 1 + 1, 3, none⟩) (by show _ ≤ w.heap.size + 1 + 1; omega) _), fun h => by cases h⟩
end Go.Proofs.YtmnigdcgdebgoaaDoor
