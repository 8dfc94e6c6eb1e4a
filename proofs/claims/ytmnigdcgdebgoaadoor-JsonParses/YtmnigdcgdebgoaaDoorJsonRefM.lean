/-
  The document's own way to ask whether an item may be.
-/
import Derived.Test.YtmnigdcgdebgoaaDoorJsD
import Derived.Test.YtmnigdcgdebgoaaDoorJsonDocR
import Derived.Test.YtmnigdcgdebgoaaDoorUtfM
namespace Go.Proofs.YtmnigdcgdebgoaaDoor
open Go.RowKit
set_option linter.unusedVariables false

/-- An item of the document's in a block of its own. -/
structure BoxR (w : World) (B : Nat) (a b c d e : Value) : Prop where
  at_ : w.heap[B]? = some (.cells #[a, b, c, d, e] 46 (0, 0))
theorem BoxR.new (w : World) (a b c d e : Value) : BoxR (w.alloc (.cells #[a, b, c, d, e] 46)) w.heap.size a b c d e := ⟨heap_alloc_new w _⟩
theorem BoxR.lt {w : World} {B : Nat} {a b c d e : Value} (h : BoxR w B a b c d e) : B < w.heap.size := (Array.getElem?_eq_some_iff.1 h.at_).1
theorem BoxR.keep {w w' : World} {B : Nat} {a b c d e : Value} (h : BoxR w B a b c d e) (hb : Below w.heap.size w w') : BoxR w' B a b c d e := ⟨(hb.block B h.lt).trans h.at_⟩
theorem BoxR.cells {w : World} {B : Nat} {a b c d e : Value} (h : BoxR w B a b c d e) : w.cell? ⟨B, 0, none⟩ = some a ∧ w.cell? ⟨B, 1, none⟩ = some b ∧ w.cell? ⟨B, 2, none⟩ = some c ∧ w.cell? ⟨B, 3, none⟩ = some d ∧ w.cell? ⟨B, 4, none⟩ = some e :=
  ⟨cell_of_row w B 0 _ _ _ h.at_, cell_of_row w B 1 _ _ _ h.at_, cell_of_row w B 2 _ _ _ h.at_, cell_of_row w B 3 _ _ _ h.at_, cell_of_row w B 4 _ _ _ h.at_⟩
theorem BoxR.frozen {w : World} {B : Nat} {a b c d e : Value} (h : BoxR w B a b c d e) (j : Nat) : w.frozen? ⟨B, j, none⟩ = false := frozen_none h.at_ j
theorem BoxR.other {w : World} {B : Nat} {a b c d e : Value} (h : BoxR w B a b c d e) (p : Addr) (u : Value) (hp : p.block ≠ B) : BoxR (w.setCell p u) B a b c d e := ⟨(Below.heap_setCell _ _ _ _ (fun h => hp h.symm)).trans h.at_⟩
theorem BoxR.set {w : World} {B : Nat} {a b c d e : Value} (h : BoxR w B a b c d e) (u : Value) : BoxR (w.setCell ⟨B, 1, none⟩ u) B a u c d e ∧ BoxR (w.setCell ⟨B, 2, none⟩ u) B a b u d e ∧ BoxR (w.setCell ⟨B, 3, none⟩ u) B a b c u e ∧ BoxR (w.setCell ⟨B, 4, none⟩ u) B a b c d u := by
  have hh := h.at_
  refine ⟨⟨?_⟩, ⟨?_⟩, ⟨?_⟩, ⟨?_⟩⟩ <;> simp [World.setCell, Array.getElem?_modify, hh]

def MayP (x : It) : Prop := 1 ≤ x.kind ∧ x.kind ≤ 7 ∧ (x.kind = 4 ∨ x.n = 0) ∧ (x.kind = 5 ∨ x.text = []) ∧ x.depth ≤ 64 ∧ (x.kind < 6 ∨ x.depth < 64)
theorem may_valid (x : It) (h : MayP x) : mayU x = (validU x.key && validU x.text) := by
  obtain ⟨h1, h2, h3, h4, h5, h6⟩ := h
  unfold mayU
  have e1 : decide (1 ≤ x.kind) = true := by simpa using h1
  have e2 : decide (x.kind ≤ 7) = true := by simpa using h2
  have e3 : (decide (x.kind = 4) || decide (x.n = 0)) = true := by simpa using h3
  have e4 : (decide (x.kind = 5) || x.text.isEmpty) = true := by simpa using h4
  have e5 : decide (x.depth ≤ 64) = true := by simpa using h5
  have e6 : (decide (x.kind < 6) || decide (x.depth < 64)) = true := by simpa using h6
  rw [e1, e2, e3, e4, e5, e6]
  simp
theorem may_no (x : It) (h : ¬ MayP x) : mayU x = false := by
  cases hm : mayU x with
  | false => rfl
  | true =>
    exfalso
    apply h
    unfold mayU at hm
    simp only [Bool.and_eq_true, Bool.or_eq_true, decide_eq_true_eq, List.isEmpty_iff] at hm
    obtain ⟨⟨⟨⟨⟨⟨⟨h1, h2⟩, h3⟩, h4⟩, h5⟩, h6⟩, _⟩, _⟩ := hm
    exact ⟨h1, h2, h3, h4, h5, h6⟩
set_option maxRecDepth 100000 in
set_option maxHeartbeats 3200000 in
theorem rmay_any (d K N : Int) (key text : ByteArray) (w : World) (hkz : key.size ≤ 1000000) (htz : text.size ≤ 1000000) (b : Bool) (hb : mayU ⟨d, K, key.data.toList, text.data.toList, N⟩ = b) :
    Calls Tryd.prog 28 #[itA d K key text N] w fun e w' => e = .returned (.bool b) ∧ Below w.heap.size w w' := by
  have hba := (Below.refl w.heap.size w).alloc (Nat.le_refl _) (.cells #[.int .i64 d, .int .i64 K, .string key, .string text, .int .i64 N] 46)
  have HBA := Lib.hid hba
  clear hba
  unfold itA
  by_cases hK1 : K < 1
  · skip
    rw [may_no _ (show ¬ MayP _ from fun h => absurd h.1 (by show ¬ 1 ≤ K; omega))] at hb
    subst hb
    go_enter Tryd.func28, Tryd.ntmps28
    go_wp2
    go_ret
    exact ⟨rfl, HBA.out⟩
  · by_cases hK7 : 7 < K
    · skip
      rw [may_no _ (show ¬ MayP _ from fun h => absurd h.2.1 (by show ¬ K ≤ 7; omega))] at hb
      subst hb
      go_enter Tryd.func28, Tryd.ntmps28
      go_wp2
      go_ret
      exact ⟨rfl, HBA.out⟩
    · skip
      have hK1' : 1 ≤ K := by omega
      have hK7' : K ≤ 7 := by omega
      have hte : text.toList.isEmpty = text.data.toList.isEmpty := by rw [ByteArray.toList_eq]
      by_cases h4 : K = 4
      · subst h4
        clear hK1 hK7 hK1' hK7'
        by_cases ht : text.data.toList = []
        · have htx : text = ByteArray.empty := ba_ext (by rw [ht]; rfl)
          subst htx
          clear hte ht
          by_cases hd : 64 < d
          · skip
            rw [may_no _ (show ¬ MayP _ from fun h => absurd h.2.2.2.2.1 (by show ¬ d ≤ 64; omega))] at hb
            subst hb
            go_enter Tryd.func28, Tryd.ntmps28
            go_wp2
            go_ret
            exact ⟨rfl, HBA.out⟩
          · skip
            have hd' : d ≤ 64 := by omega
            by_cases hd4 : d = 64
            · subst hd4
              rw [may_valid _ (show MayP _ from ⟨by show (1 : Int) ≤ 4; omega, by show (4 : Int) ≤ 7; omega, .inl rfl, .inr rfl, by show (64 : Int) ≤ 64; omega, by show (4 : Int) < 6 ∨ (64 : Int) < 64; omega⟩)] at hb
              have hbv : (validB key && validB ByteArray.empty) = b := hb
              clear hb
              cases hv : validB key with
              | false =>
                rw [hv] at hbv
                have hb2 : b = false := hbv.symm
                subst hb2
                clear hbv
                go_enter Tryd.func28, Tryd.ntmps28
                go_wp2_with fail
                refine (rvalid_any key _ (by omega)).mono ?_
                rw [hv]
                rintro _ w1 ⟨rfl, hb1⟩
                have hbb := chain HBA.out hb1
                go_wp2
                go_ret
                exact ⟨rfl, hbb⟩
              | true =>
                rw [hv] at hbv
                have hb2 : validB ByteArray.empty = b := by simpa using hbv
                have HB2 := Lib.hid hb2
                clear hbv hb2
                go_enter Tryd.func28, Tryd.ntmps28
                go_wp2_with fail
                refine (rvalid_any key _ (by omega)).mono ?_
                rw [hv]
                rintro _ w1 ⟨rfl, hb1⟩
                have HBB := Lib.hid (chain HBA.out hb1)
                have hbox := (BoxR.new w (.int .i64 64) (.int .i64 4) (.string key) (.string ByteArray.empty) (.int .i64 N)).keep hb1
                obtain ⟨b0, b1, b2, b3, b4⟩ := hbox.cells
                clear hbox hb1
                go_wp2_with fail
                refine (rvalid_any ByteArray.empty _ (by first | omega | decide)).mono ?_
                rw [HB2.out]
                rintro _ w2 ⟨rfl, hb2⟩
                have hbc := chain HBB.out hb2
                go_wp2
                go_ret
                exact ⟨rfl, hbc⟩
            · have hd3 : d < 64 := by omega
              have z64 : (d == 64) = false := by rw [beq_eq_false_iff_ne]; exact hd4
              clear hd4
              rw [may_valid _ (show MayP _ from ⟨by show (1 : Int) ≤ 4; omega, by show (4 : Int) ≤ 7; omega, .inl rfl, .inr rfl, by show (d : Int) ≤ 64; omega, by show (4 : Int) < 6 ∨ d < 64; omega⟩)] at hb
              have hbv : (validB key && validB ByteArray.empty) = b := hb
              clear hb
              cases hv : validB key with
              | false =>
                rw [hv] at hbv
                have hb2 : b = false := hbv.symm
                subst hb2
                clear hbv
                go_enter Tryd.func28, Tryd.ntmps28
                go_wp2_with fail
                refine (rvalid_any key _ (by omega)).mono ?_
                rw [hv]
                rintro _ w1 ⟨rfl, hb1⟩
                have hbb := chain HBA.out hb1
                go_wp2
                go_ret
                exact ⟨rfl, hbb⟩
              | true =>
                rw [hv] at hbv
                have hb2 : validB ByteArray.empty = b := by simpa using hbv
                have HB2 := Lib.hid hb2
                clear hbv hb2
                go_enter Tryd.func28, Tryd.ntmps28
                go_wp2_with fail
                refine (rvalid_any key _ (by omega)).mono ?_
                rw [hv]
                rintro _ w1 ⟨rfl, hb1⟩
                have HBB := Lib.hid (chain HBA.out hb1)
                have hbox := (BoxR.new w (.int .i64 d) (.int .i64 4) (.string key) (.string ByteArray.empty) (.int .i64 N)).keep hb1
                obtain ⟨b0, b1, b2, b3, b4⟩ := hbox.cells
                clear hbox hb1
                go_wp2_with fail
                refine (rvalid_any ByteArray.empty _ (by first | omega | decide)).mono ?_
                rw [HB2.out]
                rintro _ w2 ⟨rfl, hb2⟩
                have hbc := chain HBB.out hb2
                go_wp2
                go_ret
                exact ⟨rfl, hbc⟩
        · have he : text.toList.isEmpty = false := by
            rw [hte]
            cases h : text.data.toList with
            | nil => exact absurd h ht
            | cons c t => rfl
          have hl : text.toList ≠ [] := fun h => by rw [h] at he; cases he
          clear hte
          rw [may_no _ (show ¬ MayP _ from fun h => h.2.2.2.1.elim (fun h5 => absurd (show (4 : Int) = 5 from h5) (by decide)) (fun h5 => ht h5))] at hb
          subst hb
          go_enter Tryd.func28, Tryd.ntmps28
          go_wp2
          go_ret
          exact ⟨rfl, HBA.out⟩
      · have z4 : (K == 4) = false := by rw [beq_eq_false_iff_ne]; exact h4
        have z4' : (K != 4) = true := by simp [h4]
        by_cases hn : N = 0
        · subst hn
          by_cases h5 : K = 5
          · subst h5
            clear hK1 hK7 hK1' hK7' hte h4 z4 z4'
            by_cases hd : 64 < d
            · skip
              rw [may_no _ (show ¬ MayP _ from fun h => absurd h.2.2.2.2.1 (by show ¬ d ≤ 64; omega))] at hb
              subst hb
              go_enter Tryd.func28, Tryd.ntmps28
              go_wp2
              go_ret
              exact ⟨rfl, HBA.out⟩
            · skip
              have hd' : d ≤ 64 := by omega
              by_cases hd4 : d = 64
              · subst hd4
                rw [may_valid _ (show MayP _ from ⟨by show (1 : Int) ≤ 5; omega, by show (5 : Int) ≤ 7; omega, .inr rfl, .inl rfl, by show (64 : Int) ≤ 64; omega, by show (5 : Int) < 6 ∨ (64 : Int) < 64; omega⟩)] at hb
                have hbv : (validB key && validB text) = b := hb
                clear hb
                cases hv : validB key with
                | false =>
                  rw [hv] at hbv
                  have hb2 : b = false := hbv.symm
                  subst hb2
                  clear hbv
                  go_enter Tryd.func28, Tryd.ntmps28
                  go_wp2_with fail
                  refine (rvalid_any key _ (by omega)).mono ?_
                  rw [hv]
                  rintro _ w1 ⟨rfl, hb1⟩
                  have hbb := chain HBA.out hb1
                  go_wp2
                  go_ret
                  exact ⟨rfl, hbb⟩
                | true =>
                  rw [hv] at hbv
                  have hb2 : validB text = b := by simpa using hbv
                  have HB2 := Lib.hid hb2
                  clear hbv hb2
                  go_enter Tryd.func28, Tryd.ntmps28
                  go_wp2_with fail
                  refine (rvalid_any key _ (by omega)).mono ?_
                  rw [hv]
                  rintro _ w1 ⟨rfl, hb1⟩
                  have HBB := Lib.hid (chain HBA.out hb1)
                  have hbox := (BoxR.new w (.int .i64 64) (.int .i64 5) (.string key) (.string text) (.int .i64 0)).keep hb1
                  obtain ⟨b0, b1, b2, b3, b4⟩ := hbox.cells
                  clear hbox hb1
                  go_wp2_with fail
                  refine (rvalid_any text _ (by first | omega | decide)).mono ?_
                  rw [HB2.out]
                  rintro _ w2 ⟨rfl, hb2⟩
                  have hbc := chain HBB.out hb2
                  go_wp2
                  go_ret
                  exact ⟨rfl, hbc⟩
              · have hd3 : d < 64 := by omega
                have z64 : (d == 64) = false := by rw [beq_eq_false_iff_ne]; exact hd4
                clear hd4
                rw [may_valid _ (show MayP _ from ⟨by show (1 : Int) ≤ 5; omega, by show (5 : Int) ≤ 7; omega, .inr rfl, .inl rfl, by show (d : Int) ≤ 64; omega, by show (5 : Int) < 6 ∨ d < 64; omega⟩)] at hb
                have hbv : (validB key && validB text) = b := hb
                clear hb
                cases hv : validB key with
                | false =>
                  rw [hv] at hbv
                  have hb2 : b = false := hbv.symm
                  subst hb2
                  clear hbv
                  go_enter Tryd.func28, Tryd.ntmps28
                  go_wp2_with fail
                  refine (rvalid_any key _ (by omega)).mono ?_
                  rw [hv]
                  rintro _ w1 ⟨rfl, hb1⟩
                  have hbb := chain HBA.out hb1
                  go_wp2
                  go_ret
                  exact ⟨rfl, hbb⟩
                | true =>
                  rw [hv] at hbv
                  have hb2 : validB text = b := by simpa using hbv
                  have HB2 := Lib.hid hb2
                  clear hbv hb2
                  go_enter Tryd.func28, Tryd.ntmps28
                  go_wp2_with fail
                  refine (rvalid_any key _ (by omega)).mono ?_
                  rw [hv]
                  rintro _ w1 ⟨rfl, hb1⟩
                  have HBB := Lib.hid (chain HBA.out hb1)
                  have hbox := (BoxR.new w (.int .i64 d) (.int .i64 5) (.string key) (.string text) (.int .i64 0)).keep hb1
                  obtain ⟨b0, b1, b2, b3, b4⟩ := hbox.cells
                  clear hbox hb1
                  go_wp2_with fail
                  refine (rvalid_any text _ (by first | omega | decide)).mono ?_
                  rw [HB2.out]
                  rintro _ w2 ⟨rfl, hb2⟩
                  have hbc := chain HBB.out hb2
                  go_wp2
                  go_ret
                  exact ⟨rfl, hbc⟩
          · have z5 : (K == 5) = false := by rw [beq_eq_false_iff_ne]; exact h5
            have z5' : (K != 5) = true := by simp [h5]
            have h5n : ¬ K = 5 := h5
            clear h5
            by_cases ht : text.data.toList = []
            · have htx : text = ByteArray.empty := ba_ext (by rw [ht]; rfl)
              subst htx
              clear hte ht
              by_cases hd : 64 < d
              · skip
                rw [may_no _ (show ¬ MayP _ from fun h => absurd h.2.2.2.2.1 (by show ¬ d ≤ 64; omega))] at hb
                subst hb
                go_enter Tryd.func28, Tryd.ntmps28
                go_wp2
                go_ret
                exact ⟨rfl, HBA.out⟩
              · skip
                have hd' : d ≤ 64 := by omega
                by_cases hd4 : d = 64
                · subst hd4
                  by_cases h6 : 6 ≤ K
                  · skip
                    rw [may_no _ (show ¬ MayP _ from fun h => by have := h.2.2.2.2.2; have h6' : K < 6 ∨ (64 : Int) < 64 := this; omega)] at hb
                    subst hb
                    go_enter Tryd.func28, Tryd.ntmps28
                    go_wp2
                    go_ret
                    exact ⟨rfl, HBA.out⟩
                  · have h6' : K < 6 := by omega
                    rw [may_valid _ (show MayP _ from ⟨by show (1 : Int) ≤ K; omega, by show (K : Int) ≤ 7; omega, .inr rfl, .inr rfl, by show (64 : Int) ≤ 64; omega, by show (K : Int) < 6 ∨ (64 : Int) < 64; omega⟩)] at hb
                    have hbv : (validB key && validB ByteArray.empty) = b := hb
                    clear hb
                    cases hv : validB key with
                    | false =>
                      rw [hv] at hbv
                      have hb2 : b = false := hbv.symm
                      subst hb2
                      clear hbv
                      go_enter Tryd.func28, Tryd.ntmps28
                      go_wp2_with fail
                      refine (rvalid_any key _ (by omega)).mono ?_
                      rw [hv]
                      rintro _ w1 ⟨rfl, hb1⟩
                      have hbb := chain HBA.out hb1
                      go_wp2
                      go_ret
                      exact ⟨rfl, hbb⟩
                    | true =>
                      rw [hv] at hbv
                      have hb2 : validB ByteArray.empty = b := by simpa using hbv
                      have HB2 := Lib.hid hb2
                      clear hbv hb2
                      go_enter Tryd.func28, Tryd.ntmps28
                      go_wp2_with fail
                      refine (rvalid_any key _ (by omega)).mono ?_
                      rw [hv]
                      rintro _ w1 ⟨rfl, hb1⟩
                      have HBB := Lib.hid (chain HBA.out hb1)
                      have hbox := (BoxR.new w (.int .i64 64) (.int .i64 K) (.string key) (.string ByteArray.empty) (.int .i64 0)).keep hb1
                      obtain ⟨b0, b1, b2, b3, b4⟩ := hbox.cells
                      clear hbox hb1
                      go_wp2_with fail
                      refine (rvalid_any ByteArray.empty _ (by first | omega | decide)).mono ?_
                      rw [HB2.out]
                      rintro _ w2 ⟨rfl, hb2⟩
                      have hbc := chain HBB.out hb2
                      go_wp2
                      go_ret
                      exact ⟨rfl, hbc⟩
                · have hd3 : d < 64 := by omega
                  have z64 : (d == 64) = false := by rw [beq_eq_false_iff_ne]; exact hd4
                  clear hd4
                  rw [may_valid _ (show MayP _ from ⟨by show (1 : Int) ≤ K; omega, by show (K : Int) ≤ 7; omega, .inr rfl, .inr rfl, by show (d : Int) ≤ 64; omega, by show (K : Int) < 6 ∨ d < 64; omega⟩)] at hb
                  have hbv : (validB key && validB ByteArray.empty) = b := hb
                  clear hb
                  cases hv : validB key with
                  | false =>
                    rw [hv] at hbv
                    have hb2 : b = false := hbv.symm
                    subst hb2
                    clear hbv
                    go_enter Tryd.func28, Tryd.ntmps28
                    go_wp2_with fail
                    refine (rvalid_any key _ (by omega)).mono ?_
                    rw [hv]
                    rintro _ w1 ⟨rfl, hb1⟩
                    have hbb := chain HBA.out hb1
                    go_wp2
                    go_ret
                    exact ⟨rfl, hbb⟩
                  | true =>
                    rw [hv] at hbv
                    have hb2 : validB ByteArray.empty = b := by simpa using hbv
                    have HB2 := Lib.hid hb2
                    clear hbv hb2
                    go_enter Tryd.func28, Tryd.ntmps28
                    go_wp2_with fail
                    refine (rvalid_any key _ (by omega)).mono ?_
                    rw [hv]
                    rintro _ w1 ⟨rfl, hb1⟩
                    have HBB := Lib.hid (chain HBA.out hb1)
                    have hbox := (BoxR.new w (.int .i64 d) (.int .i64 K) (.string key) (.string ByteArray.empty) (.int .i64 0)).keep hb1
                    obtain ⟨b0, b1, b2, b3, b4⟩ := hbox.cells
                    clear hbox hb1
                    go_wp2_with fail
                    refine (rvalid_any ByteArray.empty _ (by first | omega | decide)).mono ?_
                    rw [HB2.out]
                    rintro _ w2 ⟨rfl, hb2⟩
                    have hbc := chain HBB.out hb2
                    go_wp2
                    go_ret
                    exact ⟨rfl, hbc⟩
            · have he : text.toList.isEmpty = false := by
                rw [hte]
                cases h : text.data.toList with
                | nil => exact absurd h ht
                | cons c t => rfl
              have hl : text.toList ≠ [] := fun h => by rw [h] at he; cases he
              clear hte
              rw [may_no _ (show ¬ MayP _ from fun h => h.2.2.2.1.elim (fun h5 => absurd h5 h5n) (fun h5 => ht h5))] at hb
              subst hb
              go_enter Tryd.func28, Tryd.ntmps28
              go_wp2
              go_ret
              exact ⟨rfl, HBA.out⟩
        · have zn : (N == 0) = false := by rw [beq_eq_false_iff_ne]; exact hn
          have zn' : (N != 0) = true := by simp [hn]
          rw [may_no _ (show ¬ MayP _ from fun h => h.2.2.1.elim (fun h => h4 h) (fun h => hn h))] at hb
          subst hb
          go_enter Tryd.func28, Tryd.ntmps28
          go_wp2
          go_ret
          exact ⟨rfl, HBA.out⟩
end Go.Proofs.YtmnigdcgdebgoaaDoor
