/-
  For all clocks a and b, cracknellaw09.CivilOrders(a, b) returns true and leaves them as they were. Conditions: none.
-/
import Derived.Test.YtfpakabdgnnheaaDoorCivAlive
import Derived.Test.YtfpakabdgnnheaaDoorCivLater
import Derived.Test.YtfpakabdgnnheaaDoorCivLaid
import Derived.Test.YtfpakabdgnnheaaDoorTie
import Derived.Test.YtfpakabdgnnheaaDoorCards
import Derived.SevenTiedAt
import Derived.LaidLaws
import Derived.Stop.Joined
import Derived.ProofKit
import Derived.OpenShut
import Derived.ShutString
import Derived.ChangeOld
import Derived.SizedLaws
namespace Go.Proofs.YtfpakabdgnnheaaDoor.civilOrders
open Go.ChangeShapes Go.WideShapes Go.ChangeAt Go.RowKit
open Go.ChangeMaps (open_string shut_string)
set_option linter.unusedVariables false

theorem own : ownKnob Tryd.prog.godebug = none := by kernel_rfl

theorem day_year {y m d y' m' d' : Int} (h : IsDay y m d) (h' : IsDay y' m' d') (hl : y' < y) : dayNum y' m' d' < dayNum y m d := by
  obtain ⟨b1, b2, _, _⟩ := h.bounds
  obtain ⟨c1, c2, _, _⟩ := h'.bounds
  have := ys_mono (show y' + 1 ≤ y by omega)
  omega

theorem day_month {y m d m' d' : Int} (h : IsDay y m d) (h' : IsDay y m' d') (hl : m' < m) : dayNum y m' d' < dayNum y m d := by
  obtain ⟨_, _, b3, b4⟩ := h.bounds
  obtain ⟨_, _, c3, c4⟩ := h'.bounds
  obtain ⟨y1, y2, m1, m2, d1, d2⟩ := h.range
  obtain ⟨y1', y2', m1', m2', d1', d2'⟩ := h'.range
  have := ms_mono (leap y) (a := m' + 1) (b := m) (by omega) (by omega) (by omega)
  omega

theorem day_later {y m d y' m' d' : Int} (h : IsDay y m d) (h' : IsDay y' m' d') :
    (dayNum y' m' d' < dayNum y m d ↔ y' < y ∨ (y = y' ∧ (m' < m ∨ (m = m' ∧ d' < d)))) ∧ (dayNum y m d = dayNum y' m' d' ↔ y = y' ∧ m = m' ∧ d = d') := by
  have key : y' < y ∨ y < y' ∨ (y = y' ∧ (m' < m ∨ m < m' ∨ m = m')) := by omega
  rcases key with hl | hl | ⟨rfl, hl | hl | rfl⟩
  · have := day_year h h' hl
    omega
  · have := day_year h' h hl
    omega
  · have := day_month h h' hl
    omega
  · have := day_month h' h hl
    omega
  · unfold dayNum
    omega

theorem laterL_six (y m d h i s y' m' d' h' i' s' : Int) : laterL [y, m, d, h, i, s] [y', m', d', h', i', s'] =
    (if y = y' then (if m = m' then (if d = d' then (if h = h' then (if i = i' then (if s = s' then false else decide (s' < s)) else decide (i' < i)) else decide (h' < h)) else decide (d' < d)) else decide (m' < m)) else decide (y' < y)) := rfl

theorem clock_later {y m d h i s y' m' d' h' i' s' : Int} (c : IsClock y m d h i s) (c' : IsClock y' m' d' h' i' s') :
    laterL [y, m, d, h, i, s] [y', m', d', h', i', s'] = decide (secs y' m' d' h' i' s' < secs y m d h i s) := by
  obtain ⟨hd, h1, h2, h3, h4, h5, h6⟩ := c
  obtain ⟨hd', h1', h2', h3', h4', h5', h6'⟩ := c'
  obtain ⟨e1, e2⟩ := day_later hd hd'
  rw [laterL_six]
  unfold secs
  generalize dayNum y m d = n at *
  generalize dayNum y' m' d' = n' at *
  clear hd hd'
  by_cases ey : y = y'
  · rw [if_pos ey]
    by_cases em : m = m'
    · rw [if_pos em]
      by_cases ed : d = d'
      · rw [if_pos ed]
        have en : n = n' := e2.2 ⟨ey, em, ed⟩
        clear e1 e2 ey em ed
        by_cases eh : h = h'
        · rw [if_pos eh]
          by_cases ei : i = i'
          · rw [if_pos ei]
            by_cases es : s = s'
            · rw [if_pos es]
              exact (decide_eq_false (by omega)).symm
            · rw [if_neg es]
              exact decide_eq_decide.2 (by omega)
          · rw [if_neg ei]
            exact decide_eq_decide.2 (by omega)
        · rw [if_neg eh]
          exact decide_eq_decide.2 (by omega)
      · rw [if_neg ed]
        exact decide_eq_decide.2 (by omega)
    · rw [if_neg em]
      exact decide_eq_decide.2 (by omega)
  · rw [if_neg ey]
    exact decide_eq_decide.2 (by omega)

theorem at_later {y m d h i s y' m' d' h' i' s' : Int} {b : Bool} (w : World) (hb : laterL [y, m, d, h, i, s] [y', m', d', h', i', s'] = b) :
    Calls Tryd.prog 25 #[clkV y m d h i s, clkV y' m' d' h' i' s'] w fun e w' => e = .returned (.bool b) ∧ Below w.heap.size w w' := hb ▸ later_any y m d h i s y' m' d' h' i' s' w
theorem all_six {a b c d e f : Int} (h : int64 a ∧ int64 b ∧ int64 c ∧ int64 d ∧ int64 e ∧ int64 f) : ∀ x ∈ [a, b, c, d, e, f], -9223372036854775808 ≤ x ∧ x ≤ 9223372036854775807 := by
  obtain ⟨h1, h2, h3, h4, h5, h6⟩ := h
  intro x hx
  simp only [List.mem_cons, List.not_mem_nil, or_false] at hx
  rcases hx with rfl | rfl | rfl | rfl | rfl | rfl <;> assumption

set_option maxRecDepth 100000 in
set_option maxHeartbeats 1600000 in
theorem walk (cy0 cm0 cd0 ch0 cn0 cs0 : Int) (cy1 cm1 cd1 ch1 cn1 cs1 : Int) (w0 : int64 cy0 ∧ int64 cm0 ∧ int64 cd0 ∧ int64 ch0 ∧ int64 cn0 ∧ int64 cs0) (w1 : int64 cy1 ∧ int64 cm1 ∧ int64 cd1 ∧ int64 ch1 ∧ int64 cn1 ∧ int64 cs1) (w : World) (hT : Tabs w) :
    Calls Tryd.prog 9 #[clkV cy0 cm0 cd0 ch0 cn0 cs0, clkV cy1 cm1 cd1 ch1 cn1 cs1] w fun e w' => e = .returned (.bool true) ∧ Below w.heap.size w w' := by
  by_cases hc : IsClock cy0 cm0 cd0 ch0 cn0 cs0
  · by_cases hd : IsClock cy1 cm1 cd1 ch1 cn1 cs1
    · obtain ⟨t, ht⟩ : ∃ t, t = secs cy0 cm0 cd0 ch0 cn0 cs0 := ⟨_, rfl⟩
      obtain ⟨u, hu⟩ : ∃ u, u = secs cy1 cm1 cd1 ch1 cn1 cs1 := ⟨_, rfl⟩
      have HE := Lib.hid (at_epoch (n := t) · hc ht.symm)
      have HF := Lib.hid (at_epoch (n := u) · hd hu.symm)
      have k1 := clock_later hc hd
      have k2 := clock_later hd hc
      rw [← ht, ← hu] at k1 k2
      have HL := Lib.hid (at_later · k1)
      have HM := Lib.hid (at_later · k2)
      clear hc hd ht hu w0 w1 k1 k2
      go_enter Tryd.func9, Tryd.ntmps9
      go_wp2_with fail
      have hc := ClkAt.new w cy0 cm0 cd0 ch0 cn0 cs0 32
      have hb0 := (Below.refl w.heap.size w).alloc (Nat.le_refl _) (.cells #[.int .i64 cy0, .int .i64 cm0, .int .i64 cd0, .int .i64 ch0, .int .i64 cn0, .int .i64 cs0] 32)
      replace hT := hT.alloc (.cells #[.int .i64 cy0, .int .i64 cm0, .int .i64 cd0, .int .i64 ch0, .int .i64 cn0, .int .i64 cs0] 32)
      replace hc := hc.keep ((Below.refl _ _).alloc (Nat.le_refl _) (.cells #[.int .i64 cy1, .int .i64 cm1, .int .i64 cd1, .int .i64 ch1, .int .i64 cn1, .int .i64 cs1] 32))
      have hd := ClkAt.new (w.alloc (.cells #[.int .i64 cy0, .int .i64 cm0, .int .i64 cd0, .int .i64 ch0, .int .i64 cn0, .int .i64 cs0] 32)) cy1 cm1 cd1 ch1 cn1 cs1 32
      rw [show ∀ o : Obj, (w.alloc o).heap.size = w.heap.size + 1 from fun o => by simp] at hd
      replace hb0 := hb0.alloc hb0.size (.cells #[.int .i64 cy1, .int .i64 cm1, .int .i64 cd1, .int .i64 ch1, .int .i64 cn1, .int .i64 cs1] 32)
      replace hT := hT.alloc (.cells #[.int .i64 cy1, .int .i64 cm1, .int .i64 cd1, .int .i64 ch1, .int .i64 cn1, .int .i64 cs1] 32)
      with_reducible refine (HE.out _ hT).mono ?_
      rintro _ w1 ⟨rfl, hb⟩
      have hb1 := chain hb0 hb
      replace hT := hT.keep hb
      replace hc := hc.keep hb
      replace hd := hd.keep hb
      clear hb hb0
      obtain ⟨hdc0, hdc1, hdc2, hdc3, hdc4, hdc5⟩ := id hd
      go_wp2_with fail
      clear hdc0 hdc1 hdc2 hdc3 hdc4 hdc5
      with_reducible refine (HF.out _ hT).mono ?_
      rintro _ w2 ⟨rfl, hb⟩
      have hb2 := chain hb1 hb
      replace hT := hT.keep hb
      replace hc := hc.keep hb
      replace hd := hd.keep hb
      clear hb hb1
      go_wp2_with fail
      with_reducible refine (alive_any _ hT).mono ?_
      rintro _ w3 ⟨rfl, hb⟩
      have hb3 := chain hb2 hb
      replace hT := hT.keep hb
      replace hc := hc.keep hb
      replace hd := hd.keep hb
      clear hb hb2
      obtain ⟨hcc0, hcc1, hcc2, hcc3, hcc4, hcc5⟩ := id hc
      obtain ⟨hdc0, hdc1, hdc2, hdc3, hdc4, hdc5⟩ := id hd
      go_wp2_with fail
      clear hcc0 hcc1 hcc2 hcc3 hcc4 hcc5
      clear hdc0 hdc1 hdc2 hdc3 hdc4 hdc5
      with_reducible refine (HL.out _).mono ?_
      rintro _ w4 ⟨rfl, hb⟩
      have hb4 := chain hb3 hb
      replace hT := hT.keep hb
      replace hc := hc.keep hb
      replace hd := hd.keep hb
      clear hb hb3
      obtain ⟨hcc0, hcc1, hcc2, hcc3, hcc4, hcc5⟩ := id hc
      obtain ⟨hdc0, hdc1, hdc2, hdc3, hdc4, hdc5⟩ := id hd
      go_wp2_with fail
      clear hcc0 hcc1 hcc2 hcc3 hcc4 hcc5
      clear hdc0 hdc1 hdc2 hdc3 hdc4 hdc5
      with_reducible refine (HM.out _).mono ?_
      rintro _ w5 ⟨rfl, hb⟩
      have hb5 := chain hb4 hb
      replace hT := hT.keep hb
      replace hc := hc.keep hb
      replace hd := hd.keep hb
      clear hb hb4
      go_wp2
      go_ret
      exact ⟨rfl, hb5⟩
    · have HE := Lib.hid (epoch_yes cy0 cm0 cd0 ch0 cn0 cs0 · hc)
      have HF := Lib.hid (epoch_no cy1 cm1 cd1 ch1 cn1 cs1 · hd (all_six w1))
      clear hc hd w0 w1
      go_enter Tryd.func9, Tryd.ntmps9
      go_wp2_with fail
      have hc := ClkAt.new w cy0 cm0 cd0 ch0 cn0 cs0 32
      have hb0 := (Below.refl w.heap.size w).alloc (Nat.le_refl _) (.cells #[.int .i64 cy0, .int .i64 cm0, .int .i64 cd0, .int .i64 ch0, .int .i64 cn0, .int .i64 cs0] 32)
      replace hT := hT.alloc (.cells #[.int .i64 cy0, .int .i64 cm0, .int .i64 cd0, .int .i64 ch0, .int .i64 cn0, .int .i64 cs0] 32)
      replace hc := hc.keep ((Below.refl _ _).alloc (Nat.le_refl _) (.cells #[.int .i64 cy1, .int .i64 cm1, .int .i64 cd1, .int .i64 ch1, .int .i64 cn1, .int .i64 cs1] 32))
      have hd := ClkAt.new (w.alloc (.cells #[.int .i64 cy0, .int .i64 cm0, .int .i64 cd0, .int .i64 ch0, .int .i64 cn0, .int .i64 cs0] 32)) cy1 cm1 cd1 ch1 cn1 cs1 32
      rw [show ∀ o : Obj, (w.alloc o).heap.size = w.heap.size + 1 from fun o => by simp] at hd
      replace hb0 := hb0.alloc hb0.size (.cells #[.int .i64 cy1, .int .i64 cm1, .int .i64 cd1, .int .i64 ch1, .int .i64 cn1, .int .i64 cs1] 32)
      replace hT := hT.alloc (.cells #[.int .i64 cy1, .int .i64 cm1, .int .i64 cd1, .int .i64 ch1, .int .i64 cn1, .int .i64 cs1] 32)
      with_reducible refine (HE.out _ hT).mono ?_
      rintro _ w1 ⟨rfl, hb⟩
      have hb1 := chain hb0 hb
      replace hT := hT.keep hb
      replace hc := hc.keep hb
      replace hd := hd.keep hb
      clear hb hb0
      obtain ⟨hdc0, hdc1, hdc2, hdc3, hdc4, hdc5⟩ := id hd
      go_wp2_with fail
      clear hdc0 hdc1 hdc2 hdc3 hdc4 hdc5
      with_reducible refine (HF.out _ hT).mono ?_
      rintro _ w2 ⟨rfl, hb⟩
      have hb2 := chain hb1 hb
      replace hT := hT.keep hb
      replace hc := hc.keep hb
      replace hd := hd.keep hb
      clear hb hb1
      go_wp2_with fail
      with_reducible refine (alive_any _ hT).mono ?_
      rintro _ w3 ⟨rfl, hb⟩
      have hb3 := chain hb2 hb
      replace hT := hT.keep hb
      replace hc := hc.keep hb
      replace hd := hd.keep hb
      clear hb hb2
      go_wp2
      go_ret
      exact ⟨rfl, hb3⟩
  · have HE := Lib.hid (epoch_no cy0 cm0 cd0 ch0 cn0 cs0 · hc (all_six w0))
    by_cases hd : IsClock cy1 cm1 cd1 ch1 cn1 cs1
    · have HF := Lib.hid (epoch_yes cy1 cm1 cd1 ch1 cn1 cs1 · hd)
      clear hc hd w0 w1
      go_enter Tryd.func9, Tryd.ntmps9
      go_wp2_with fail
      have hc := ClkAt.new w cy0 cm0 cd0 ch0 cn0 cs0 32
      have hb0 := (Below.refl w.heap.size w).alloc (Nat.le_refl _) (.cells #[.int .i64 cy0, .int .i64 cm0, .int .i64 cd0, .int .i64 ch0, .int .i64 cn0, .int .i64 cs0] 32)
      replace hT := hT.alloc (.cells #[.int .i64 cy0, .int .i64 cm0, .int .i64 cd0, .int .i64 ch0, .int .i64 cn0, .int .i64 cs0] 32)
      replace hc := hc.keep ((Below.refl _ _).alloc (Nat.le_refl _) (.cells #[.int .i64 cy1, .int .i64 cm1, .int .i64 cd1, .int .i64 ch1, .int .i64 cn1, .int .i64 cs1] 32))
      have hd := ClkAt.new (w.alloc (.cells #[.int .i64 cy0, .int .i64 cm0, .int .i64 cd0, .int .i64 ch0, .int .i64 cn0, .int .i64 cs0] 32)) cy1 cm1 cd1 ch1 cn1 cs1 32
      rw [show ∀ o : Obj, (w.alloc o).heap.size = w.heap.size + 1 from fun o => by simp] at hd
      replace hb0 := hb0.alloc hb0.size (.cells #[.int .i64 cy1, .int .i64 cm1, .int .i64 cd1, .int .i64 ch1, .int .i64 cn1, .int .i64 cs1] 32)
      replace hT := hT.alloc (.cells #[.int .i64 cy1, .int .i64 cm1, .int .i64 cd1, .int .i64 ch1, .int .i64 cn1, .int .i64 cs1] 32)
      with_reducible refine (HE.out _ hT).mono ?_
      rintro _ w1 ⟨rfl, hb⟩
      have hb1 := chain hb0 hb
      replace hT := hT.keep hb
      replace hc := hc.keep hb
      replace hd := hd.keep hb
      clear hb hb0
      obtain ⟨hdc0, hdc1, hdc2, hdc3, hdc4, hdc5⟩ := id hd
      go_wp2_with fail
      clear hdc0 hdc1 hdc2 hdc3 hdc4 hdc5
      with_reducible refine (HF.out _ hT).mono ?_
      rintro _ w2 ⟨rfl, hb⟩
      have hb2 := chain hb1 hb
      replace hT := hT.keep hb
      replace hc := hc.keep hb
      replace hd := hd.keep hb
      clear hb hb1
      go_wp2_with fail
      with_reducible refine (alive_any _ hT).mono ?_
      rintro _ w3 ⟨rfl, hb⟩
      have hb3 := chain hb2 hb
      replace hT := hT.keep hb
      replace hc := hc.keep hb
      replace hd := hd.keep hb
      clear hb hb2
      go_wp2
      go_ret
      exact ⟨rfl, hb3⟩
    · have HF := Lib.hid (epoch_no cy1 cm1 cd1 ch1 cn1 cs1 · hd (all_six w1))
      clear hc hd w0 w1
      go_enter Tryd.func9, Tryd.ntmps9
      go_wp2_with fail
      have hc := ClkAt.new w cy0 cm0 cd0 ch0 cn0 cs0 32
      have hb0 := (Below.refl w.heap.size w).alloc (Nat.le_refl _) (.cells #[.int .i64 cy0, .int .i64 cm0, .int .i64 cd0, .int .i64 ch0, .int .i64 cn0, .int .i64 cs0] 32)
      replace hT := hT.alloc (.cells #[.int .i64 cy0, .int .i64 cm0, .int .i64 cd0, .int .i64 ch0, .int .i64 cn0, .int .i64 cs0] 32)
      replace hc := hc.keep ((Below.refl _ _).alloc (Nat.le_refl _) (.cells #[.int .i64 cy1, .int .i64 cm1, .int .i64 cd1, .int .i64 ch1, .int .i64 cn1, .int .i64 cs1] 32))
      have hd := ClkAt.new (w.alloc (.cells #[.int .i64 cy0, .int .i64 cm0, .int .i64 cd0, .int .i64 ch0, .int .i64 cn0, .int .i64 cs0] 32)) cy1 cm1 cd1 ch1 cn1 cs1 32
      rw [show ∀ o : Obj, (w.alloc o).heap.size = w.heap.size + 1 from fun o => by simp] at hd
      replace hb0 := hb0.alloc hb0.size (.cells #[.int .i64 cy1, .int .i64 cm1, .int .i64 cd1, .int .i64 ch1, .int .i64 cn1, .int .i64 cs1] 32)
      replace hT := hT.alloc (.cells #[.int .i64 cy1, .int .i64 cm1, .int .i64 cd1, .int .i64 ch1, .int .i64 cn1, .int .i64 cs1] 32)
      with_reducible refine (HE.out _ hT).mono ?_
      rintro _ w1 ⟨rfl, hb⟩
      have hb1 := chain hb0 hb
      replace hT := hT.keep hb
      replace hc := hc.keep hb
      replace hd := hd.keep hb
      clear hb hb0
      obtain ⟨hdc0, hdc1, hdc2, hdc3, hdc4, hdc5⟩ := id hd
      go_wp2_with fail
      clear hdc0 hdc1 hdc2 hdc3 hdc4 hdc5
      with_reducible refine (HF.out _ hT).mono ?_
      rintro _ w2 ⟨rfl, hb⟩
      have hb2 := chain hb1 hb
      replace hT := hT.keep hb
      replace hc := hc.keep hb
      replace hd := hd.keep hb
      clear hb hb1
      go_wp2_with fail
      with_reducible refine (alive_any _ hT).mono ?_
      rintro _ w3 ⟨rfl, hb⟩
      have hb3 := chain hb2 hb
      replace hT := hT.keep hb
      replace hc := hc.keep hb
      replace hd := hd.keep hb
      clear hb hb2
      go_wp2
      go_ret
      exact ⟨rfl, hb3⟩

set_option maxRecDepth 100000 in
theorem lifted (os : Os) (started : os.Started) (H : Type) (enc : TypeId × Value → H) :
    ReturnsInHanded {} Tryd.checked os 9 .any (fun w args => (Rows.civilOrdersSpec.pre enc Tryd.prog Tryd.f9 [] false w args ∧ laidMetH Tryd.prog listed w) ∧ sizedMet enc Tryd.prog Tryd.f9 (OpenSpec.ofChange Rows.civilOrdersSpec) false w args)
      (Rows.civilOrdersSpec.post enc Tryd.prog Tryd.f9 false true false false) := by
  refine returnsInHanded_of_change_and (C := Tryd.checked) (X := fun w _ => laidMetH Tryd.prog listed w) (fun _ _ _ hh h => h.of_heap hh) own started (by kernel_rfl) Tryd.func9
    (ChangeSpec.witness_shaped (enc := enc) (C := Tryd.checked) (os := os) (X := fun w _ => laidMetH Tryd.prog listed w) false (laidOver (World.holding Tryd.prog os ⟨#[], #[], []⟩)) #[.agg #[.int .i64 0, .int .i64 0, .int .i64 0, .int .i64 0, .int .i64 0, .int .i64 0], .agg #[.int .i64 0, .int .i64 0, .int .i64 0, .int .i64 0, .int .i64 0, .int .i64 0]] 8 rfl (World.shaped_of_RefB (by kernel_rfl) (by kernel_rfl)) (by kernel_rfl) (by kernel_rfl) (by kernel_rfl) (laid_over os _)) ?_
  intro W base args ds gs before hval0 hW hcnd hsz0 hL _
  have hT := tabs_listed hL
  have hval : ∀ (j : Nat) t v, Tryd.f9.params[j]? = some t → args[j]? = some v → Value.okWide Tryd.prog W .any base t v := hval0
  have hsz : (DataW.weightsEach Tryd.prog (Tryd.f9.params.toList ++ Rows.civilOrdersSpec.plain.varTypes Tryd.prog) (ds ++ gs)).all (· ≤ reachBytes) = true := hsz0
  have hW' := hW
  obtain ⟨p, q, hA0, hV, rfl, hfz, hnd⟩ := hW
  have hA : DataW.TrodAll enc Tryd.prog W 0 (fun _ => true) true Tryd.f9.params.toList args.toList ds p := hA0
  rw [Tryd.params9] at hA hval hsz
  obtain ⟨v0, vs0, d0, ds0, p0, q0, hargs, rfl, rfl, h0, r0⟩ := trodAll_cons hA
  obtain ⟨v1, vs1, d1, ds1, p1, q1, rfl, rfl, rfl, h1, r1⟩ := trodAll_cons r0
  obtain ⟨rfl, rfl, rfl⟩ := trodAll_nil r1
  obtain rfl : args = #[v0, v1] := by cases args; simp_all
  obtain ⟨rfl, rfl⟩ := trodVars_none hV
  have h0k := h0
  have hlt0 : ∀ x ∈ p0, x.block < W.heap.size := fun x hx => by simpa using hW'.lt x (by simp [hx])
  obtain ⟨cy0, cm0, cd0, ch0, cn0, cs0, rfl, w0⟩ := clk_opened h0 (hval 0 32 v0 rfl rfl)
  have h1k := h1
  have hlt1 : ∀ x ∈ p1, x.block < W.heap.size := fun x hx => by simpa using hW'.lt x (by simp [hx])
  obtain ⟨cy1, cm1, cd1, ch1, cn1, cs1, rfl, w1⟩ := clk_opened h1 (hval 1 32 v1 rfl rfl)
  clear hA0 hval0 hsz hsz0
  refine (walk cy0 cm0 cd0 ch0 cn0 cs0 cy1 cm1 cd1 ch1 cn1 cs1 w0 w1 W hT).mono fun e W' ⟨he, bel⟩ => ?_
  subst he
  exact ⟨_, rfl, _, _, _, [], _, [], hW', trodAll_mk1 (shut_bool Tryd.underlying4 _), (trodAll_cons_mk (Below.trod Tryd.laidOutC (by kernel_rfl) (of_decide_eq_true (by kernel_rfl)) h0k bel hlt0) (trodAll_cons_mk (Below.trod Tryd.laidOutC (by kernel_rfl) (of_decide_eq_true (by kernel_rfl)) h1k bel hlt1) trodAll_mk0)), rfl, bel.frame _, fun h => by cases h⟩

theorem over : Rows.civilOrdersRow.holds Tryd.pinned (OpenSpec.ofChange Rows.civilOrdersSpec) :=
  OpenClaim.holds_of_wide 9 Tryd.f9 rfl rfl rfl rfl rfl rfl rfl ⟨rfl, rfl, rfl, rfl, rfl⟩ rfl rfl rfl rfl rfl (by kernel_rfl) Tryd.func9 (by kernel_rfl)
    (of_decide_eq_true (by kernel_rfl)) (by unfold Func.isWrapper; first | (rw [if_pos (by decide +kernel)]; kernel_rfl) | (rw [if_neg (by decide +kernel)]; exact ⟨rfl, rfl⟩))
    (fun os started H enc _ => lifted os started H enc)

set_option maxRecDepth 100000 in
theorem card : Rows.CivilOrdersCardSaid :=
  Claim7.holds_tied_plain_at .later [] _ true Rows.civilOrdersCard.stood.harness false
    over (fun _ h => by cases h) (by kernel_rfl) (fun _ h => by cases h) civilOrders_row_tie rfl ⟨rfl, rfl⟩ (by kernel_rfl) rfl
    (fun f fn hf hfn => by
      obtain rfl : f = 9 := Option.some.inj ((show Tryd.prog.funcNamed Rows.civilOrdersRow.func = some 9 by kernel_rfl).symm.trans hf) |>.symm
      obtain rfl : fn = Tryd.f9 := (Option.some.inj (Tryd.func9.symm.trans hfn)).symm
      exact ⟨by kernel_rfl, fun j t ht => by
        rw [Tryd.params9] at ht
        have hm : t ∈ [32] := by first | (simpa using Array.mem_of_getElem? ht) | (have hq := Array.mem_of_getElem? ht; simp at hq ⊢; omega)
        have hall : ([32].all fun u => !Tryd.prog.wantsStandIn u) = true := by kernel_rfl
        exact (show Tryd.prog.wantsStandIn t = false by simpa using List.all_eq_true.1 hall t hm)⟩)
    (by kernel_rfl)

end Go.Proofs.YtfpakabdgnnheaaDoor.civilOrders
namespace Go.Proofs.YtfpakabdgnnheaaDoor
/-- The statement. -/
theorem civilOrders_proved : Rows.CivilOrdersCardSaid := civilOrders.card
end Go.Proofs.YtfpakabdgnnheaaDoor
