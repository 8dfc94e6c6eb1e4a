/-
  Facts of the statements on rows of items (json).
-/
import Derived.Test.YtmnigdcgdebgoaaDoorJsonItems
import Derived.Test.YtmnigdcgdebgoaaDoorJsF
import Derived.Test.YtmnigdcgdebgoaaDoorJsH
namespace Go.Proofs.YtmnigdcgdebgoaaDoor
open Go.RowKit
set_option linter.unusedVariables false

theorem it_sizes {l : List It} (h : ∀ x ∈ l, ItOk x) : ∀ j, j < l.length → (itL l j).key.length ≤ 9223372036854775807 ∧ (itL l j).text.length ≤ 9223372036854775807 := fun j hj => by
  rw [itL_get l j hj]
  exact (h _ (List.getElem_mem hj)).2.2.2
/-- Rows that are small are small. -/
theorem small_of {l : List It} (h : l.length ≤ 100 ∧ wt l ≤ 1100) (hok : ∀ x ∈ l, ItOk x) : Small l ∧ IntsU l ∧ wt l ≤ 1100 := by
  refine ⟨⟨by omega, fun x hx => ?_⟩, fun x hx => (hok x hx).2.2.1, h.2⟩
  have := wt_mem l x hx
  unfold wtI at this
  exact ⟨by omega, by omega, (hok _ hx).2.2.1⟩
theorem print_small {l : List It} (hw : wt l ≤ 1100) (hn : IntsU l) : (printU l).length ≤ 100000 := by
  cases hr : rightU l with
  | false =>
    unfold printU
    rw [hr]
    simp
  | true =>
    obtain ⟨j, hj, rfl⟩ := right_tree l hr hn
    rw [j.printed hj]
    have := j.text_len 0 [] hj
    omega
/-- What is printed tells the row. -/
theorem print_inj {l m : List It} (hl : rightU l = true) (hm : rightU m = true) (nl : IntsU l) (nm : IntsU m) : printU l = printU m ↔ l = m := by
  constructor
  · intro h
    obtain ⟨j, hj, rfl⟩ := right_tree l hl nl
    obtain ⟨k, hk, rfl⟩ := right_tree m hm nm
    rw [j.printed hj, k.printed hk] at h
    have h1 := parse_text j hj
    have h2 := parse_text k hk
    rw [h, h2] at h1
    exact (congrArg Prod.snd h1).symm
  · intro h
    rw [h]
end Go.Proofs.YtmnigdcgdebgoaaDoor
