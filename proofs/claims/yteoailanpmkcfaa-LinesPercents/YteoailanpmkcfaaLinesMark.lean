/-
  The program's own ways to write bytes (package lines): what a byte becomes, which byte it was: contracts.
-/
import Derived.Test.YteoailanpmkcfaaLinesWay
import Derived.Test.YteoailanpmkcfaaBaseIndex
import Derived.Test.YteoailanpmkcfaaBaseBytes
import Derived.Test.YteoailanpmkcfaaBaseDraw
namespace Go.Proofs.Yteoailanpmkcfaa
open Go.RowKit
set_option linter.unusedVariables false

theorem u8_ne {c : UInt8} {C : Int} (hC : C = (c.toNat : Int)) (n : UInt8) (hn : c ≠ n) : C ≠ (n.toNat : Int) := fun h => hn (UInt8.toNat.inj (by omega))
theorem ret_byte {a b : UInt8} (h : a = b) : Ending.returned (.int .u8 (a.toNat : Int)) = .returned (.int .u8 (b.toNat : Int)) := by rw [h]

set_option maxRecDepth 100000 in
set_option maxHeartbeats 800000 in
theorem becE_any (c : UInt8) (C : Int) (w : World) (hC : C = (c.toNat : Int)) :
    Calls Try.prog 54 #[.int .u8 C] w fun e w' => e = .returned (.string ⟨(esc c).toArray⟩) ∧ Below w.heap.size w w' := by
  have h1 := fun W => two_back 92 (((⟨#[92, 116, 110, 114]⟩ : ByteArray)[0]'(by decide)).toNat : Int) 92 92 rfl rfl W
  have h2 := fun W => two_back 92 (((⟨#[92, 116, 110, 114]⟩ : ByteArray)[1]'(by decide)).toNat : Int) 92 116 rfl rfl W
  have h3 := fun W => two_back 92 (((⟨#[92, 116, 110, 114]⟩ : ByteArray)[2]'(by decide)).toNat : Int) 92 110 rfl rfl W
  have h4 := fun W => two_back 92 (((⟨#[92, 116, 110, 114]⟩ : ByteArray)[3]'(by decide)).toNat : Int) 92 114 rfl rfl W
  have h5 := fun W => one_back C c hC W
  rcases esc_cases c with ⟨rfl, e⟩ | ⟨rfl, e⟩ | ⟨rfl, e⟩ | ⟨rfl, e⟩ | ⟨n1, n2, n3, n4, e⟩
  · have HE := Lib.hid e
    have HI := Lib.hid (index_any ⟨#[92, 9, 10, 13]⟩ 92 C 0 w hC (by decide))
    clear h2 h3 h4 h5 hC e
    go_enter Try.func54, Try.ntmps54
    go_wp2_with (go_at_call 55; refine HI.out.mono ?_; rintro _ w1 ⟨rfl, rfl⟩)
    go_ret
    exact ⟨ret_str (by rw [HE.out]), (Below.refl _ _).alloc (Nat.le_refl _) _⟩
  · have HE := Lib.hid e
    have HI := Lib.hid (index_any ⟨#[92, 9, 10, 13]⟩ 9 C 1 w hC (by decide))
    clear h1 h3 h4 h5 hC e
    go_enter Try.func54, Try.ntmps54
    go_wp2_with (go_at_call 55; refine HI.out.mono ?_; rintro _ w1 ⟨rfl, rfl⟩)
    go_ret
    exact ⟨ret_str (by rw [HE.out]), (Below.refl _ _).alloc (Nat.le_refl _) _⟩
  · have HE := Lib.hid e
    have HI := Lib.hid (index_any ⟨#[92, 9, 10, 13]⟩ 10 C 2 w hC (by decide))
    clear h1 h2 h4 h5 hC e
    go_enter Try.func54, Try.ntmps54
    go_wp2_with (go_at_call 55; refine HI.out.mono ?_; rintro _ w1 ⟨rfl, rfl⟩)
    go_ret
    exact ⟨ret_str (by rw [HE.out]), (Below.refl _ _).alloc (Nat.le_refl _) _⟩
  · have HE := Lib.hid e
    have HI := Lib.hid (index_any ⟨#[92, 9, 10, 13]⟩ 13 C 3 w hC (by decide))
    clear h1 h2 h3 h5 hC e
    go_enter Try.func54, Try.ntmps54
    go_wp2_with (go_at_call 55; refine HI.out.mono ?_; rintro _ w1 ⟨rfl, rfl⟩)
    go_ret
    exact ⟨ret_str (by rw [HE.out]), (Below.refl _ _).alloc (Nat.le_refl _) _⟩
  · have HE := Lib.hid e
    have HI := Lib.hid (index_any ⟨#[92, 9, 10, 13]⟩ c C (-1) w hC (indexByte_none _ _ (by simp [n1, n2, n3, n4])))
    clear h1 h2 h3 h4 hC e n1 n2 n3 n4
    go_enter Try.func54, Try.ntmps54
    go_wp2_with (go_at_call 55; refine HI.out.mono ?_; rintro _ w1 ⟨rfl, rfl⟩)
    go_ret
    exact ⟨ret_str (by rw [HE.out]), (Below.refl _ _).alloc (Nat.le_refl _) _⟩

theorem wasE_cases (d : UInt8) : (d = 92 ∧ wasE d = 92) ∨ (d = 116 ∧ wasE d = 9) ∨ (d = 110 ∧ wasE d = 10) ∨ (d = 114 ∧ wasE d = 13) ∨ (d ≠ 92 ∧ d ≠ 116 ∧ d ≠ 110 ∧ d ≠ 114 ∧ wasE d = 0) := by
  unfold wasE
  by_cases h1 : d = 92
  · subst h1; simp
  · by_cases h2 : d = 116
    · subst h2; simp
    · by_cases h3 : d = 110
      · subst h3; simp
      · by_cases h4 : d = 114
        · subst h4; simp
        · simp [h1, h2, h3, h4]

set_option maxRecDepth 100000 in
set_option maxHeartbeats 800000 in
theorem wasE_any (s : ByteArray) (w : World) (h : 0 < s.size) :
    Calls Try.prog 56 #[.string s] w fun e w' => e = .returned (.int .u8 ((wasE s[0]).toNat : Int)) ∧ w = w' := by
  have key : ∃ i : Int, Lib.indexByte [92, 116, 110, 114] s[0] = i ∧ ((i = 0 ∧ wasE s[0] = 92) ∨ (i = 1 ∧ wasE s[0] = 9) ∨ (i = 2 ∧ wasE s[0] = 10) ∨ (i = 3 ∧ wasE s[0] = 13) ∨ (i = -1 ∧ wasE s[0] = 0)) := by
    generalize s[0] = d
    rcases wasE_cases d with ⟨rfl, e⟩ | ⟨rfl, e⟩ | ⟨rfl, e⟩ | ⟨rfl, e⟩ | ⟨n1, n2, n3, n4, e⟩
    · exact ⟨0, by decide, .inl ⟨rfl, e⟩⟩
    · exact ⟨1, by decide, .inr (.inl ⟨rfl, e⟩)⟩
    · exact ⟨2, by decide, .inr (.inr (.inl ⟨rfl, e⟩))⟩
    · exact ⟨3, by decide, .inr (.inr (.inr (.inl ⟨rfl, e⟩)))⟩
    · exact ⟨-1, indexByte_none _ _ (by simp [n1, n2, n3, n4]), .inr (.inr (.inr (.inr ⟨rfl, e⟩)))⟩
  obtain ⟨i, hi, hc⟩ := key
  have HI := Lib.hid (index_any ⟨#[92, 116, 110, 114]⟩ s[0] (s[0].toNat : Int) i w rfl hi)
  clear hi
  rcases hc with ⟨rfl, e⟩ | ⟨rfl, e⟩ | ⟨rfl, e⟩ | ⟨rfl, e⟩ | ⟨rfl, e⟩
  all_goals
    have HE := Lib.hid e
    clear e
    go_enter Try.func56, Try.ntmps56
    go_wp2_with (go_at_call 55; refine HI.out.mono ?_; rintro _ w1 ⟨rfl, rfl⟩)
    go_ret
    exact ⟨ret_byte HE.out.symm, rfl⟩
end Go.Proofs.Yteoailanpmkcfaa
