/-
  The document's own answers (package cracknelref13): Sends: a contract.
-/
import Derived.Test.YtkpdejnhjbojpaaDoorCkRq
import Derived.Test.YtkpdejnhjbojpaaDoorHosRefM
import Derived.Test.YtkpdejnhjbojpaaDoorPatRefM
namespace Go.Proofs.YtkpdejnhjbojpaaDoor
open Go.RowKit
set_option linter.unusedVariables false

/-- Does the cookie go to that address? -/
def sendsB (c : Ck) (us : Bool) (uh up : ByteArray) (now : Int) : Bool :=
  (if c.ho = true then decide (uh = c.dom) else matchB uh.data.toList c.dom.data.toList) && (!c.se || us) && liveB c now && pmB up.data.toList c.path.data.toList

/-- An address in memory, to be read. -/
def UcAt (w : World) (g : Nat) (s : Bool) (h p : ByteArray) : Prop :=
  w.cell? ⟨g, 0, none⟩ = some (.bool s) ∧ w.cell? ⟨g, 1, none⟩ = some (.string h) ∧ w.cell? ⟨g, 2, none⟩ = some (.string p)

theorem UcAt.new (w : World) (s : Bool) (h p : ByteArray) (t : TypeId) : UcAt (w.alloc (.cells #[.bool s, .string h, .string p] t)) w.heap.size s h p := by
  refine ⟨?_, ?_, ?_⟩ <;> simp
theorem UcAt.keep {w w' : World} {g : Nat} {s : Bool} {h p : ByteArray} (hu : UcAt w g s h p) (hb : Below w.heap.size w w') : UcAt w' g s h p := by
  obtain ⟨c0, c1, c2⟩ := hu
  have hg : g < w.heap.size := World.block_lt_of_cell? w _ c0
  refine ⟨?_, ?_, ?_⟩ <;> rw [hb.cell hg] <;> assumption

abbrev urlC (s : Bool) (h p : ByteArray) : Value := .agg #[.bool s, .string h, .string p]

set_option maxRecDepth 100000 in
set_option maxHeartbeats 3200000 in
theorem rsends_any (c : Ck) (us : Bool) (uh up : ByteArray) (now : Int) (w : World) (h1 : c.dom.size ≤ 100000) (h2 : c.path.size ≤ 100000) (h3 : uh.size ≤ 100000) (h4 : up.size ≤ 100000) :
    Calls Tryd.prog 24 #[ckV c, urlC us uh up, .int .i64 now] w fun e w' => e = .returned (.bool (sendsB c us uh up now)) ∧ Below w.heap.size w w' := by
  have HM := Lib.hid (rmatch_any uh c.dom · h3 h1)
  have HL := Lib.hid (rlive_any c now)
  have HP := Lib.hid (rpm_any up c.path · (by omega) (by omega))
  have HS : Hid (sendsB c us uh up now = ((if c.ho = true then decide (uh = c.dom) else matchB uh.data.toList c.dom.data.toList) && (!c.se || us) && liveB c now && pmB up.data.toList c.path.data.toList)) := rfl
  generalize sendsB c us uh up now = R at HS ⊢
  generalize matchB uh.data.toList c.dom.data.toList = m at HM HS
  generalize liveB c now = l at HL HS
  generalize pmB up.data.toList c.path.data.toList = q at HP HS
  obtain ⟨d, p, n, v, cr, ac, ex, ho, se, hp, ss⟩ := c
  have h1' : d.size ≤ 100000 := h1
  have h2' : p.size ≤ 100000 := h2
  clear h1 h2
  have hc := (CkAt.new w ⟨d, p, n, v, cr, ac, ex, ho, se, hp, ss⟩ 23).keep ((Below.refl _ _).alloc (Nat.le_refl _) (.cells #[.bool us, .string uh, .string up] 40))
  have hu := UcAt.new (w.alloc (.cells (ckCells ⟨d, p, n, v, cr, ac, ex, ho, se, hp, ss⟩) 23)) us uh up 40
  have hb0 := ((Below.refl w.heap.size w).alloc (Nat.le_refl _) (.cells (ckCells ⟨d, p, n, v, cr, ac, ex, ho, se, hp, ss⟩) 23)).alloc (by simp) (.cells #[.bool us, .string uh, .string up] 40)
  rw [show ∀ o : Obj, (w.alloc o).heap.size = w.heap.size + 1 from fun o => by simp] at hu
  simp only [ckCells] at hc hu hb0
  cases ho
  · -- matched
    go_enter Tryd.func24, Tryd.ntmps24
    go_wp2_with fail
    refine (HM.out _).mono ?_
    rintro _ w1 ⟨rfl, hb⟩
    have hb1 := chain hb0 hb
    replace hc := hc.keep hb
    replace hu := hu.keep hb
    clear hb hb0 HM
    obtain ⟨c0, c1, c2, c3, c4, c5, c6, c7, c8, c9, c10⟩ := id hc
    obtain ⟨u0, u1, u2⟩ := id hu
    cases m
    · go_wp2
      go_ret
      exact ⟨ret_bool (by rw [HS.out]; rfl), hb1⟩
    · cases se <;> cases us
      case true.false =>
        go_wp2
        go_ret
        exact ⟨ret_bool (by rw [HS.out]; rfl), hb1⟩
      all_goals
        go_wp2_with fail
        refine (HL.out _).mono ?_
        rintro _ w2 ⟨rfl, hb⟩
        have hb2 := chain hb1 hb
        clear c0 c1 c2 c3 c4 c5 c6 c7 c8 c9 c10 u0 u1 u2
        obtain ⟨c0, c1, c2, c3, c4, c5, c6, c7, c8, c9, c10⟩ := hc.keep hb
        obtain ⟨u0, u1, u2⟩ := hu.keep hb
        clear hb hb1 hc hu HL
        cases l
        · go_wp2
          go_ret
          exact ⟨ret_bool (by rw [HS.out]; rfl), hb2⟩
        · go_wp2_with fail
          refine (HP.out _).mono ?_
          rintro _ wz ⟨rfl, rfl⟩
          go_wp2
          go_ret
          exact ⟨ret_bool (by rw [HS.out]; rfl), hb2⟩
  · by_cases he : uh = d
    · subst he
      have hq : (uh.toList == uh.toList) = true := by simp
      clear HM
      obtain ⟨c0, c1, c2, c3, c4, c5, c6, c7, c8, c9, c10⟩ := id hc
      obtain ⟨u0, u1, u2⟩ := id hu
      cases se <;> cases us
      case true.false =>
        go_enter Tryd.func24, Tryd.ntmps24
        go_wp2
        go_ret
        exact ⟨ret_bool (by rw [HS.out]; simp), hb0⟩
      all_goals
        go_enter Tryd.func24, Tryd.ntmps24
        go_wp2_with fail
        refine (HL.out _).mono ?_
        rintro _ w2 ⟨rfl, hb⟩
        have hb2 := chain hb0 hb
        clear c0 c1 c2 c3 c4 c5 c6 c7 c8 c9 c10 u0 u1 u2
        obtain ⟨c0, c1, c2, c3, c4, c5, c6, c7, c8, c9, c10⟩ := hc.keep hb
        obtain ⟨u0, u1, u2⟩ := hu.keep hb
        clear hb hb0 hc hu HL
        cases l
        · go_wp2
          go_ret
          exact ⟨ret_bool (by rw [HS.out]; simp), hb2⟩
        · go_wp2_with fail
          refine (HP.out _).mono ?_
          rintro _ wz ⟨rfl, rfl⟩
          go_wp2
          go_ret
          exact ⟨ret_bool (by rw [HS.out]; simp), hb2⟩
    · have hq : (uh.toList == d.toList) = false := by rw [eq_toList]; simpa using he
      have hq2 : ¬ uh.toList = d.toList := fun e => by rw [e] at hq; simp at hq
      have HE := Lib.hid he
      clear he HM hc hu
      go_enter Tryd.func24, Tryd.ntmps24
      go_wp2
      go_ret
      exact ⟨ret_bool (by rw [HS.out, if_pos trivial, decide_eq_false HE.out]; rfl), hb0⟩
end Go.Proofs.YtkpdejnhjbojpaaDoor
