/-
  Package host: letterOrDigit, named: contracts.
-/
import Derived.Test.YtkpdejnhjbojpaaDoorHosRq
namespace Go.Proofs.YtkpdejnhjbojpaaDoor
open Go.RowKit
set_option linter.unusedVariables false

/-- Is it a letter that is small, or a digit? -/
def ldB (C : Int) : Bool := (decide (97 ≤ C) && decide (C ≤ 122)) || (decide (48 ≤ C) && decide (C ≤ 57))

theorem letter_at (C : Int) (b : Bool) (w : World) (hb : ldB C = b) :
    Calls Tryd.prog 86 #[.int .u8 C] w fun e w' => e = .returned (.bool b) ∧ w' = w := by
  subst hb
  rcases (show (97 ≤ C ∧ C ≤ 122) ∨ (¬ 97 ≤ C ∧ 48 ≤ C ∧ C ≤ 57) ∨ (97 ≤ C ∧ ¬ C ≤ 122 ∧ 48 ≤ C ∧ ¬ C ≤ 57) ∨ (¬ 97 ≤ C ∧ 48 ≤ C ∧ ¬ C ≤ 57) ∨ (¬ 97 ≤ C ∧ ¬ 48 ≤ C) by omega) with ⟨g1, g2⟩ | ⟨g1, g2, g3⟩ | ⟨g1, g2, g3, g4⟩ | ⟨g1, g2, g3⟩ | ⟨g1, g2⟩
  case inl | inr.inl =>
    have HS : Hid (ldB C = true) := by
      show _ = _
      unfold ldB
      simp only [Bool.or_eq_true, Bool.and_eq_true, decide_eq_true_eq]
      omega
    go_enter Tryd.func86, Tryd.ntmps86
    go_wp2
    go_ret
    exact ⟨ret_bool HS.out.symm, rfl⟩
  all_goals
    have HS : Hid (ldB C = false) := by
      show _ = _
      rw [Bool.eq_false_iff]
      unfold ldB
      intro h
      simp only [Bool.or_eq_true, Bool.and_eq_true, decide_eq_true_eq] at h
      omega
    go_enter Tryd.func86, Tryd.ntmps86
    go_wp2
    go_ret
    exact ⟨ret_bool HS.out.symm, rfl⟩

/-- May the byte at k stand there? -/
def spotB (s : ByteArray) (k : Nat) (h : k < s.size) : Prop := ldB (s[k].toNat : Int) = true ∨ (0 < k ∧ k < s.size - 1 ∧ s[k].toNat = 45)

theorem ld_host (c : UInt8) : hostC c = (ldB (c.toNat : Int) || decide (c.toNat = 45)) := by
  unfold hostC ldB
  rw [Bool.eq_iff_iff]
  simp only [Bool.or_eq_true, Bool.and_eq_true, decide_eq_true_eq]
  omega

theorem named_yes (s : ByteArray) (h0 : 0 < s.size) (h63 : s.size ≤ 63) (h : ∀ k (hk : k < s.size), spotB s k hk) : partB s.data.toList = true := by
  rw [partB_at s h0]
  have a1 : s[0] ≠ 45 := by
    intro e
    rcases h 0 h0 with h1 | ⟨h1, _⟩
    · rw [e] at h1; exact absurd h1 (by decide)
    · omega
  have a2 : s[s.size - 1] ≠ 45 := by
    intro e
    rcases h (s.size - 1) (by omega) with h1 | ⟨_, h1, _⟩
    · rw [e] at h1; exact absurd h1 (by decide)
    · omega
  have a3 : s.data.toList.all hostC = true := by
    rw [List.all_eq_true]
    intro c hc
    obtain ⟨k, hk, rfl⟩ := List.mem_iff_getElem.1 hc
    have hk' : k < s.size := by simpa using hk
    rw [bget s k hk', ld_host]
    rcases h k hk' with h1 | ⟨_, _, h1⟩
    · rw [h1]; rfl
    · rw [decide_eq_true h1, Bool.or_true]
  rw [decide_eq_true h63, decide_eq_true a1, decide_eq_true a2, a3]
  rfl

theorem named_no (s : ByteArray) (k : Nat) (hk : k < s.size) (h : ¬ spotB s k hk) : partB s.data.toList = false := by
  rw [Bool.eq_false_iff]
  intro hp
  rw [partB_at s (by omega)] at hp
  simp only [Bool.and_eq_true, decide_eq_true_eq] at hp
  obtain ⟨⟨⟨_, a1⟩, a2⟩, a3⟩ := hp
  have hm : s[k] ∈ s.data.toList := by rw [← bget s k hk]; exact List.getElem_mem _
  have hc := List.all_eq_true.1 a3 _ hm
  rw [ld_host, Bool.or_eq_true, decide_eq_true_eq] at hc
  rcases hc with hc | hc
  · exact h (.inl hc)
  · refine h (.inr ⟨?_, ?_, hc⟩)
    · rcases Nat.eq_zero_or_pos k with rfl | h2
      · exact absurd (UInt8.toNat.inj (by rw [hc]; rfl)) a1
      · exact h2
    · rcases Nat.lt_or_ge k (s.size - 1) with h2 | h2
      · exact h2
      · have e : k = s.size - 1 := by omega
        subst e
        exact absurd (UInt8.toNat.inj (by rw [hc]; rfl)) a2

def NamedAt (s : ByteArray) (w0 : World) (gk : Nat) (i : Value) (wr : World) : Prop :=
  ∃ k : Nat, i = .int .i64 (k : Int) ∧ k + gk = s.size + 1 ∧ 1 ≤ gk ∧ (∀ j (hj : j < s.size), j < k → spotB s j hj) ∧ wr = w0

set_option maxRecDepth 100000 in
set_option maxHeartbeats 8000000 in
theorem named_any (s : ByteArray) (w : World) (hs : s.size ≤ 1000000000000) :
    Calls Tryd.prog 72 #[.string s] w fun e w' => e = .returned (.bool (partB s.data.toList)) ∧ w' = w := by
  by_cases h0 : s.size = 0
  · have hl : s.data.toList = [] := List.eq_nil_of_length_eq_zero (by rw [list_len]; exact h0)
    obtain rfl : s = ByteArray.empty := ba_ext (by rw [hl]; rfl)
    have HP : Hid (partB (ByteArray.empty).data.toList = false) := by
      show _ = _
      rfl
    go_enter Tryd.func72, Tryd.ntmps72
    go_wp2
    go_ret
    exact ⟨ret_bool HP.out.symm, rfl⟩
  have hpos : 0 < s.size := by omega
  have hne : s.toList ≠ [] := by
    intro e
    have := list_len s
    rw [ByteArray.toList_eq] at e
    rw [e] at this
    simp at this
    omega
  have hem : s.toList.isEmpty = false := by
    cases h : s.toList with
    | nil => exact absurd h hne
    | cons _ _ => rfl
  by_cases h63 : 63 < s.size
  · have HP2 : Hid (partB s.data.toList = false) := by
      show _ = _
      rw [partB_at s hpos, decide_eq_false (show ¬ s.size ≤ 63 by omega)]
      rfl
    go_enter Tryd.func72, Tryd.ntmps72
    go_wp2
    go_ret
    exact ⟨ret_bool HP2.out.symm, rfl⟩
  have e2 : decide ((63 : Int) < (s.size : Int)) = false := decide_eq_false (by omega)
  go_enter Tryd.func72, Tryd.ntmps72
  go_wp2
  clear e2 hne hem
  go_loopg [14] (s.size + 1) (fun gk i wr => NamedAt s w gk i wr)
  case atStart => exact ⟨0, rfl, by omega, by omega, fun j hj h => absurd h (Nat.not_lt_zero _), rfl⟩
  case round =>
    obtain ⟨k, rfl, hk, hg, hall, rfl⟩ := hrel
    have HA := Lib.hid hall
    clear hall
    by_cases hlt : k < s.size
    · obtain ⟨b, hb⟩ : ∃ b, ldB (s[k].toNat : Int) = b := ⟨_, rfl⟩
      have HL := Lib.hid (letter_at (s[k].toNat : Int) b · hb)
      cases b with
      | true =>
        have HS : Hid (∀ j (hj : j < s.size), j < k + 1 → spotB s j hj) := by
          intro j hj h
          rcases Nat.lt_or_ge j k with h1 | h1
          · exact HA.out j hj h1
          · obtain rfl : j = k := by omega
            exact .inl hb
        clear hb
        rcases (show (¬ 0 < (k : Int)) ∨ (0 < (k : Int) ∧ ¬ (k : Int) < (s.size : Int) - 1) ∨ (0 < (k : Int) ∧ (k : Int) < (s.size : Int) - 1) by omega) with g1 | ⟨g1, g2⟩ | ⟨g1, g2⟩
        all_goals
          go_wp2_with (go_at_call 86; refine (HL.out _).mono ?_; rintro _ w1 ⟨rfl, rfl⟩)
          go_roundg (gk - 1)
          case measure => omega
          case rel => exact ⟨k + 1, by go_num, by omega, by omega, HS.out, rfl⟩
      | false =>
        rcases (show (0 < (k : Int) ∧ (k : Int) < (s.size : Int) - 1 ∧ (s[k].toNat : Int) = 45) ∨ (¬ 0 < (k : Int)) ∨ (0 < (k : Int) ∧ ¬ (k : Int) < (s.size : Int) - 1) ∨ (0 < (k : Int) ∧ (k : Int) < (s.size : Int) - 1 ∧ ¬ (s[k].toNat : Int) = 45) by omega) with ⟨g1, g2, g3⟩ | g1 | ⟨g1, g2⟩ | ⟨g1, g2, g3⟩
        · have HS : Hid (∀ j (hj : j < s.size), j < k + 1 → spotB s j hj) := by
            intro j hj h
            rcases Nat.lt_or_ge j k with h1 | h1
            · exact HA.out j hj h1
            · obtain rfl : j = k := by omega
              exact .inr ⟨by omega, by omega, by omega⟩
          clear hb HL
          have HL := Lib.hid (letter_at 45 false · (by decide))
          go_wp2_with (go_at_call 86; refine (HL.out _).mono ?_; rintro _ w1 ⟨rfl, rfl⟩)
          go_roundg (gk - 1)
          case measure => omega
          case rel => exact ⟨k + 1, by go_num, by omega, by omega, HS.out, rfl⟩
        all_goals
          have HS : Hid (partB s.data.toList = false) := by
            refine named_no s k hlt ?_
            rintro (h | ⟨h1, h2, h3⟩)
            · rw [hb] at h; cases h
            · omega
          try have g4 : ((s[k].toNat : Int) == 45) = false := beq_eq_false_iff_ne.2 g3
          clear hb
          go_wp2_with (go_at_call 86; refine (HL.out _).mono ?_; rintro _ w1 ⟨rfl, rfl⟩)
          go_ret
          exact ⟨ret_bool HS.out.symm, rfl⟩
    · have HS : Hid (partB s.data.toList = true) := named_yes s hpos (by omega) (fun j hj => HA.out j hj (by omega))
      go_wp2
      go_ret
      exact ⟨ret_bool HS.out.symm, rfl⟩
end Go.Proofs.YtkpdejnhjbojpaaDoor
