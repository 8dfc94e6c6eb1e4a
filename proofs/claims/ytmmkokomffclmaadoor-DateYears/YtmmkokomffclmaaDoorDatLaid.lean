/-
  The program's three tables, as the statements list them: where they are listed they lie in the world; a world in which they lie.
-/
import Derived.Test.YtmmkokomffclmaaDoorDatTab
import Derived.Test.YtmmkokomffclmaaDoorRows
import Derived.Lib.LaidTab
import Derived.Lib.LaidIn
import Derived.LaidMore
import Derived.MakeChecks
namespace Go.Proofs.YtmmkokomffclmaaDoor
open Go.RowKit
set_option linter.unusedVariables false

/-- What the statements ask of the world. -/
abbrev Tabs (w : World) : Prop := DTabs w

/-- A table of texts, as a row lists it. -/
def textsData (l : List (List UInt8)) : DataW Unit := .agg (l.map fun x => .lit (.string x))

theorem lengths_data : (Rows.laid_cracknel_civil_lengths : DataW Unit) = Lib.tabData .i64 lens := by kernel_rfl
theorem weekdays_data : (Rows.laid_cracknel_date_weekdays : DataW Unit) = textsData daysH := by kernel_rfl
theorem months_data : (Rows.laid_cracknel_date_months : DataW Unit) = textsData monthsH := by kernel_rfl

/-- The list of the rows. -/
def listed : List (String × DataW Unit) := Rows.dateCookiesRow.laid

theorem listed_eq : listed = [("cracknel/civil.lengths", Lib.tabData .i64 lens), ("cracknel/date.weekdays", textsData daysH), ("cracknel/date.months", textsData monthsH)] := by
  show [(_, Rows.laid_cracknel_civil_lengths), (_, Rows.laid_cracknel_date_weekdays), (_, Rows.laid_cracknel_date_months)] = _
  rw [lengths_data, weekdays_data, months_data]

/-- What is listed behind other variables is read too. -/
theorem listed_behind {P : Program} {w : World} {x : String × DataW Unit} {l : List (String × DataW Unit)} (h : ∃ ps, DataW.LaidVars P w (x :: l) ps) : ∃ ps, DataW.LaidVars P w l ps := by
  obtain ⟨ps, g, t, cs, fuel, p, q, _, _, _, _, hr, _⟩ := h
  exact ⟨q, hr⟩

/-- A listed array of texts holds them, cell for cell. -/
theorem texts_listed {P : Program} {w : World} {name : String} {x : List (List UInt8)} {l : List (String × DataW Unit)} {g n : Nat} {t e : TypeId}
    (hg : P.globalNamed name = some g) (hty : (P.globals[g]?).map (·.type) = some t) (ht : P.underlying t = some (.array n e)) (he : P.underlying e = some .string) (hce : P.cellsOf e = 1)
    (h : ∃ ps, DataW.LaidVars P w ((name, textsData x) :: l) ps) (i : Nat) (hi : i < n) : w.cell? ⟨g, i, none⟩ = some (.string ⟨(x.getD i []).toArray⟩) := by
  obtain ⟨ps, g', t', cs, fuel, p, q, hg', hty', hvar, hd, _, _⟩ := h
  obtain rfl := Option.some.inj (hg.symm.trans hg')
  obtain rfl := Option.some.inj (hty.symm.trans hty')
  cases fuel with
  | zero => simp [DataW.trod] at hd
  | succ fuel =>
    simp only [DataW.trod, ht] at hd
    split at hd
    · obtain ⟨xs, hm, hx⟩ := Option.map_eq_some_iff.1 hd
      obtain ⟨b, hb, hf⟩ := Lib.mapM_at hm i i (by simp [hi])
      rw [hce, Nat.mul_one] at hf
      obtain ⟨s, hs, hb2, _⟩ := DataW.trod_string he hf
      have h1 : cs.toList[i]? = some (.string s) := by
        have := congrArg (·[0]?) hs
        simpa [List.getElem?_take, List.getElem?_drop] using this
      have h2 : (xs.map (·.1))[i]? = some (DataW.lit (.string s.data.toList) : DataW Unit) := by simp [hb, hb2]
      have h3 : xs.map (·.1) = x.map fun y => (DataW.lit (.string y) : DataW Unit) := by
        have := congrArg Prod.fst hx
        simpa [textsData] using this
      rw [h3] at h2
      simp only [List.getElem?_map, Option.map_eq_some_iff, DataW.lit.injEq, Lit.string.injEq] at h2
      obtain ⟨y, hy, rfl⟩ := h2
      rw [World.var?_cell hg hvar i, ← Array.getElem?_toList, h1, List.getD_eq_getElem?_getD, hy]
      rfl
    · cases hd

/-- Where they are listed, they lie in the world. -/
theorem tabs_listed {W : World} (h : laidMetH Tryd.prog listed W) : Tabs W := by
  rw [MakeChecks.laidMetH_plain _ _ _ (by kernel_rfl), listed_eq] at h
  have h0 : ∃ ps, DataW.LaidVars Tryd.prog W [("cracknel/civil.lengths", Lib.tabData .i64 lens), ("cracknel/date.weekdays", textsData daysH), ("cracknel/date.months", textsData monthsH)] ps := by
    obtain ⟨ps, hp, _⟩ := h
    exact ⟨ps, hp⟩
  refine ⟨?_, ?_, ?_⟩
  · have ht := Lib.tabIs_of_head (g := 2) (t := 91) (e := 3) (by kernel_rfl) (by kernel_rfl) Tryd.underlying91 Tryd.underlying3 (by kernel_rfl) (by kernel_rfl) h
    intro i hi
    exact ht.cell (by kernel_rfl) i hi
  · exact fun i hi => texts_listed (g := 1) (t := 56) (e := 9) (by kernel_rfl) (by kernel_rfl) Tryd.underlying56 Tryd.underlying9 (by kernel_rfl) (listed_behind (listed_behind h0)) i hi
  · exact fun i hi => texts_listed (g := 0) (t := 53) (e := 9) (by kernel_rfl) (by kernel_rfl) Tryd.underlying53 Tryd.underlying9 (by kernel_rfl) (listed_behind h0) i hi

/-- The cells of block g are cs. -/
def putAt (h : Array Obj) (g : Nat) (cs : Array Value) : Array Obj := h.modify g fun
  | .cells _ t frozen => .cells cs t frozen
  | o => o

/-- A world in which they lie. -/
def laidOver (w : World) : World :=
  { w with heap := putAt (putAt (putAt w.heap 2 (lens.map fun z => Value.int .i64 z).toArray) 0 (daysH.map fun x => Value.string ⟨x.toArray⟩).toArray) 1 (monthsH.map fun x => Value.string ⟨x.toArray⟩).toArray }

set_option maxRecDepth 100000 in
theorem laid_over (os : Os) (args : Array Value) : laidMetH Tryd.prog listed ((laidOver (World.holding Tryd.prog os ⟨#[], #[], []⟩)).forCall (fun _ _ => 0) ⟨#[], args, []⟩).memory := by
  rw [MakeChecks.laidMetH_plain _ _ _ (by kernel_rfl)]
  exact (LaidIn.of_run (l := listed) [2, 0, 1] 8 (by kernel_rfl) (by kernel_rfl) (by kernel_rfl) (by kernel_rfl)).met
end Go.Proofs.YtmmkokomffclmaaDoor
