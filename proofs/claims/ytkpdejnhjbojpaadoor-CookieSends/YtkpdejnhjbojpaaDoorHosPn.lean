/-
  Package host: numbered: a contract.
-/
import Derived.Test.YtkpdejnhjbojpaaDoorCkMa
import Derived.Test.YtkpdejnhjbojpaaDoorBaseOfL
import Derived.Test.YtkpdejnhjbojpaaDoorDecPq
namespace Go.Proofs.YtkpdejnhjbojpaaDoor
open Go.RowKit
set_option linter.unusedVariables false

/-- What Read tells of a part. -/
theorem pread_part (p : List UInt8) (hp : p.length ≤ 1000000) :
    ∃ (n : Int) (b : Bool), (∀ w, Calls Tryd.prog 88 #[.string (ofL p)] w fun e w' => e = .returned (.tuple #[.int .i64 n, .bool b]) ∧ Below w.heap.size w w') ∧
      numB p = (b && (decide (0 ≤ n) && decide (n ≤ 255))) := by
  have hz : (ofL p).size ≤ maxLen := by
    show p.toArray.size ≤ maxLen
    unfold maxLen
    simp
    omega
  by_cases h : ∃ n : Int, -9223372036854775808 ≤ n ∧ n ≤ 9223372036854775807 ∧ printB n = ofL p
  · obtain ⟨n, h1, h2, h3⟩ := h
    refine ⟨n, true, fun w => read_yes n (ofL p) w h1 h2 h3, ?_⟩
    have hl : printL n = p := by rw [← printB_list, h3]; rfl
    rw [Bool.true_and, Bool.eq_iff_iff]
    simp only [numB, decide_eq_true_eq, Bool.and_eq_true]
    constructor
    · rintro ⟨m, hm, he⟩
      have := printL_inj (m : Int) n (by omega) (by omega) h1 h2 (by rw [he, hl])
      omega
    · rintro ⟨g1, g2⟩
      exact ⟨n.toNat, by omega, by rw [show ((n.toNat : Nat) : Int) = n by omega]; exact hl⟩
  · refine ⟨0, false, fun w => read_no (ofL p) w hz (fun n h1 h2 e => h ⟨n, h1, h2, e⟩), ?_⟩
    rw [Bool.false_and]
    simp only [numB, decide_eq_false_iff_not]
    rintro ⟨m, hm, he⟩
    exact h ⟨(m : Int), by omega, by omega, by apply ba_ext; rw [printB_list, he]; rfl⟩

set_option maxRecDepth 100000 in
set_option maxHeartbeats 1600000 in
theorem numbered_any (p : List UInt8) (w : World) (hp : p.length ≤ 1000000) :
    Calls Tryd.prog 74 #[.string (ofL p)] w fun e w' => e = .returned (.bool (numB p)) ∧ Below w.heap.size w w' := by
  obtain ⟨n, b, hread, hnum⟩ := pread_part p hp
  have HR := Lib.hid hread
  have HN := Lib.hid hnum
  clear hread hnum
  generalize ofL p = P at HR
  rcases (show b = false ∨ (b = true ∧ ¬ 0 ≤ n) ∨ (b = true ∧ 0 ≤ n ∧ ¬ n ≤ 255) ∨ (b = true ∧ 0 ≤ n ∧ n ≤ 255) by
    cases b
    · exact .inl rfl
    · rcases Int.lt_or_le n 0 with h | h
      · exact .inr (.inl ⟨rfl, by omega⟩)
      · rcases Int.lt_or_le 255 n with h2 | h2
        · exact .inr (.inr (.inl ⟨rfl, h, by omega⟩))
        · exact .inr (.inr (.inr ⟨rfl, h, h2⟩))) with rfl | ⟨rfl, g1⟩ | ⟨rfl, g1, g2⟩ | ⟨rfl, g1, g2⟩
  case inr.inr.inr =>
    have HS : Hid (numB p = true) := by
      show _ = _
      rw [HN.out, decide_eq_true g1, decide_eq_true g2]
      rfl
    go_enter Tryd.func74, Tryd.ntmps74
    go_wp2_with fail
    refine (HR.out _).mono ?_
    rintro _ w1 ⟨rfl, hb1⟩
    go_wp2
    go_ret
    exact ⟨ret_bool HS.out.symm, hb1⟩
  all_goals
    have HS : Hid (numB p = false) := by
      show _ = _
      rw [HN.out, Bool.eq_false_iff]
      intro h
      simp only [Bool.and_eq_true, decide_eq_true_eq] at h
      first | exact absurd h.1 Bool.false_ne_true | omega
    go_enter Tryd.func74, Tryd.ntmps74
    go_wp2_with fail
    refine (HR.out _).mono ?_
    rintro _ w1 ⟨rfl, hb1⟩
    go_wp2
    go_ret
    first | exact ⟨ret_bool HS.out.symm, hb1⟩ | exact ⟨ret_bool (by rw [HS.out]; exact decide_eq_false (by omega)), hb1⟩
end Go.Proofs.YtkpdejnhjbojpaaDoor
