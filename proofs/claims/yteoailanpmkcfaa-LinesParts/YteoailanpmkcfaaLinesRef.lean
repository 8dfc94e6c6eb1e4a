/-
  The document's own answers (package cracknelref06): has, escaped, Escape, Unescape, safe, sign, value: contracts.
-/
import Derived.Test.YteoailanpmkcfaaLinesPct
import Derived.Test.YteoailanpmkcfaaBaseBytes
import Derived.Test.YteoailanpmkcfaaBaseDraw
namespace Go.Proofs.Yteoailanpmkcfaa
open Go.RowKit
set_option linter.unusedVariables false

theorem ret_u8 {a b : Int} (h : a = b) : Ending.returned (.int .u8 a) = .returned (.int .u8 b) := by rw [h]

def hasC (s : ByteArray) (c : UInt8) : Bool := s.data.toList.contains c

/-- What has holds at place k. -/
def HasAt (s : ByteArray) (c : UInt8) (i : Value) : Prop := ∃ k : Nat, k ≤ s.size ∧ i = .int .i64 (k : Int) ∧ (s.data.toList.take k).contains c = false

theorem contains_append (a b : List UInt8) (c : UInt8) : (a ++ b).contains c = (a.contains c || b.contains c) := by
  rw [List.contains_eq_any_beq, List.contains_eq_any_beq, List.contains_eq_any_beq, List.any_append]

theorem has_step (s : ByteArray) (c : UInt8) (k : Nat) (hk : k < s.size) (hne : s[k] ≠ c) (h : (s.data.toList.take k).contains c = false) : (s.data.toList.take (k + 1)).contains c = false := by
  rw [take_snoc s k hk, contains_append, h]
  simp only [List.contains_cons, List.contains_nil, Bool.or_false, Bool.false_or, beq_eq_false_iff_ne]
  exact fun e => hne e.symm

theorem has_here (s : ByteArray) (c : UInt8) (k : Nat) (hk : k < s.size) (he : s[k] = c) : hasC s c = true := by
  unfold hasC
  rw [List.contains_iff_mem, ← he, ← bget s k hk]
  exact List.getElem_mem _

set_option maxRecDepth 100000 in
set_option maxHeartbeats 400000 in
theorem rhas_any (s : ByteArray) (c : UInt8) (C : Int) (w : World) (hC : C = (c.toNat : Int)) (hs : s.size ≤ maxLen) :
    Calls Try.prog 36 #[.string s, .int .u8 C] w fun e w' => e = .returned (.bool (hasC s c)) ∧ w = w' := by
  subst hC
  unfold maxLen at hs
  go_enter Try.func36, Try.ntmps36
  go_wp2
  go_loop [5] (fun i => HasAt s c i) (fun i => s.size - (intOf i).toNat)
  case atStart => exact ⟨0, by omega, rfl, rfl⟩
  case round =>
    obtain ⟨k, hk, rfl, hno⟩ := hrel
    have HN := Lib.hid hno
    clear hno
    by_cases hlt : k < s.size
    · by_cases he : s[k] = c
      · have HE := Lib.hid (has_here s c k hlt he)
        have hi : (s[k].toNat : Int) = (c.toNat : Int) := by rw [he]
        clear HN he
        go_wp2
        go_ret
        exact ⟨ret_bool HE.out.symm, rfl⟩
      · have HE := Lib.hid (has_step s c k hlt he HN.out)
        have hi : ((s[k].toNat : Int) == (c.toNat : Int)) = false := by
          rw [beq_eq_false_iff_ne]
          intro h
          exact he (UInt8.toNat.inj (by omega))
        have hi2 : ¬ (s[k].toNat : Int) = (c.toNat : Int) := by simpa using hi
        clear HN he
        go_wp2
        go_round
        case rel => exact ⟨k + 1, by omega, by go_num, HE.out⟩
        case measure => simp [intOf]; omega
    · have HE : Hid (hasC s c = false) := by
        show _ = _
        have h := HN.out
        rw [List.take_of_length_le (by rw [list_len]; omega)] at h
        exact h
      clear HN
      go_wp2
      go_ret
      exact ⟨ret_bool HE.out.symm, rfl⟩

def escB (c : UInt8) : ByteArray := ⟨(esc c).toArray⟩

theorem escB_size (c : UInt8) : 1 ≤ (escB c).size ∧ (escB c).size ≤ 2 := by
  have := esc_len c
  show 1 ≤ (esc c).toArray.size ∧ (esc c).toArray.size ≤ 2
  rw [List.size_toArray]
  exact this

set_option maxRecDepth 100000 in
set_option maxHeartbeats 800000 in
theorem rescaped_any (c : UInt8) (C : Int) (w : World) (hC : C = (c.toNat : Int)) :
    Calls Try.prog 42 #[.int .u8 C] w fun e w' => e = .returned (.string (escB c)) ∧ Below w.heap.size w w' := by
  have hcl := c.toNat_lt
  have h1 := fun W => two_back 92 92 92 92 rfl rfl W
  have h2 := fun W => two_back 92 116 92 116 rfl rfl W
  have h3 := fun W => two_back 92 110 92 110 rfl rfl W
  have h4 := fun W => two_back 92 114 92 114 rfl rfl W
  have h5 := fun W => one_back C c hC W
  have ne : ∀ n : UInt8, c ≠ n → C ≠ (n.toNat : Int) := fun n hn h => hn (UInt8.toNat.inj (by omega))
  rcases esc_cases c with ⟨rfl, e⟩ | ⟨rfl, e⟩ | ⟨rfl, e⟩ | ⟨rfl, e⟩ | ⟨n1, n2, n3, n4, e⟩
  · have hC' : C = 92 := hC
    have HE : Hid (escB 92 = ⟨#[92, 92]⟩) := rfl
    subst hC'
    clear h2 h3 h4 h5 ne hcl hC e
    go_enter Try.func42, Try.ntmps42
    go_wp2
    go_ret
    exact ⟨ret_str HE.out.symm, (Below.refl _ _).alloc (Nat.le_refl _) _⟩
  · have hC' : C = 9 := hC
    have HE : Hid (escB 9 = ⟨#[92, 116]⟩) := rfl
    subst hC'
    clear h1 h3 h4 h5 ne hcl hC e
    go_enter Try.func42, Try.ntmps42
    go_wp2
    go_ret
    exact ⟨ret_str HE.out.symm, (Below.refl _ _).alloc (Nat.le_refl _) _⟩
  · have hC' : C = 10 := hC
    have HE : Hid (escB 10 = ⟨#[92, 110]⟩) := rfl
    subst hC'
    clear h1 h2 h4 h5 ne hcl hC e
    go_enter Try.func42, Try.ntmps42
    go_wp2
    go_ret
    exact ⟨ret_str HE.out.symm, (Below.refl _ _).alloc (Nat.le_refl _) _⟩
  · have hC' : C = 13 := hC
    have HE : Hid (escB 13 = ⟨#[92, 114]⟩) := rfl
    subst hC'
    clear h1 h2 h3 h5 ne hcl hC e
    go_enter Try.func42, Try.ntmps42
    go_wp2
    go_ret
    exact ⟨ret_str HE.out.symm, (Below.refl _ _).alloc (Nat.le_refl _) _⟩
  · have HE : Hid (escB c = ⟨#[c]⟩) := by show _ = _; unfold escB; rw [e]
    have m1 : ¬ C = 92 := ne 92 n1
    have m2 : ¬ C = 9 := ne 9 n2
    have m3 : ¬ C = 10 := ne 10 n3
    have m4 : ¬ C = 13 := ne 13 n4
    clear h1 h2 h3 h4 ne hcl hC e n1 n2 n3 n4
    go_enter Try.func42, Try.ntmps42
    go_wp2
    go_ret
    exact ⟨ret_str HE.out.symm, (Below.refl _ _).alloc (Nat.le_refl _) _⟩

def escLB (l : List UInt8) : ByteArray := ⟨(escL l).toArray⟩
theorem escLB_list (l : List UInt8) : (escLB l).data.toList = escL l := by simp [escLB]

theorem escL_le (l : List UInt8) : (escL l).length ≤ 2 * l.length := by
  induction l with
  | nil => simp [escL]
  | cons c t ih =>
    have := (esc_len c).2
    show (esc c ++ escL t).length ≤ 2 * (t.length + 1)
    rw [List.length_append]
    omega

theorem escLB_size (l : List UInt8) : (escLB l).size ≤ 2 * l.length := by
  rw [← list_len, escLB_list]
  exact escL_le l

theorem escLB_snoc (l : List UInt8) (c : UInt8) : escLB (l ++ [c]) = escLB l ++ escB c := by
  apply ba_ext
  rw [app_list, escLB_list, escLB_list]
  simp [escL, escB]

/-- What Escape holds at place k. -/
def EscAt (s : ByteArray) (g : Nat) (w0 : World) (out i : Value) (wr : World) : Prop :=
  ∃ k : Nat, k ≤ s.size ∧ out = .string (escLB (s.data.toList.take k)) ∧ i = .int .i64 (k : Int) ∧ Below g w0 wr

set_option maxRecDepth 100000 in
set_option maxHeartbeats 800000 in
theorem rescape_any (s : ByteArray) (w : World) (hs : s.size ≤ 140737488351232) :
    Calls Try.prog 23 #[.string s] w fun e w' => e = .returned (.string (escLB s.data.toList)) ∧ Below w.heap.size w w' := by
  go_enter Try.func23, Try.ntmps23
  go_wp2
  go_loopw [3, 4] (fun out i wr => EscAt s w.heap.size w out i wr) (fun _ i _ => s.size - (intOf i).toNat)
  case atStart => exact ⟨0, by omega, rfl, rfl, Below.refl _ _⟩
  case round =>
    obtain ⟨k, hk, rfl, rfl, hbe⟩ := hrel
    by_cases hlt : k < s.size
    · have hz := escLB_size (s.data.toList.take k)
      rw [List.length_take, list_len] at hz
      have hz2 := (escB_size s[k]).2
      have hss : (escLB (s.data.toList.take k)).size + (escB s[k]).size ≤ 9223372036854775807 := by omega
      have HE : Hid (escLB (s.data.toList.take (k + 1)) = escLB (s.data.toList.take k) ++ escB s[k]) := by
        show _ = _
        rw [take_snoc s k hlt, escLB_snoc]
      clear hz hz2
      go_wp2_with fail
      refine (rescaped_any s[k] _ _ rfl).mono ?_
      rintro _ w1 ⟨rfl, hb⟩
      have hb1 := hbe.trans (hb.mono hbe.size)
      clear hb hbe
      go_wp2
      go_roundw
      case rel => exact ⟨k + 1, by omega, by rw [HE.out], by go_num, hb1⟩
      case measure => simp [intOf]; omega
    · rw [List.take_of_length_le (by rw [list_len]; omega)]
      go_wp2
      go_ret
      exact ⟨rfl, hbe⟩

set_option maxRecDepth 100000 in
set_option maxHeartbeats 800000 in
theorem rsafe_any (n : Nat) (C : Int) (w : World) (hC : C = (n : Int)) :
    Calls Try.prog 44 #[.int .u8 C] w fun e w' => e = .returned (.bool (safeN n)) ∧ w = w' := by
  have HS : Hid (safeN n = true ↔ ((65 ≤ C ∧ C ≤ 90) ∨ (97 ≤ C ∧ C ≤ 122) ∨ (48 ≤ C ∧ C ≤ 57) ∨ C = 45 ∨ C = 46 ∨ C = 95 ∨ C = 126)) := by
    show _ ↔ _
    subst hC
    unfold safeN
    simp only [Bool.or_eq_true, Bool.and_eq_true, decide_eq_true_eq]
    omega
  clear hC
  go_enter Try.func44, Try.ntmps44
  go_wp2
  all_goals
    go_ret
    refine ⟨ret_bool ?_, rfl⟩
    rw [Bool.eq_iff_iff, HS.out]
    simp <;> omega

set_option maxRecDepth 100000 in
set_option maxHeartbeats 400000 in
theorem rsign_any (n : Nat) (C : Int) (w : World) (hC : C = (n : Int)) (hn : n < 16) :
    Calls Try.prog 46 #[.int .u8 C] w fun e w' => e = .returned (.int .u8 (hexN n : Int)) ∧ w = w' := by
  by_cases h : n < 10
  · have HE : Hid (48 + C = (hexN n : Int)) := by show _ = _; unfold hexN; rw [if_pos h]; omega
    have k1 : C < 10 := by omega
    have k0 : 0 ≤ C := by omega
    clear hC h hn
    go_enter Try.func46, Try.ntmps46
    go_wp2
    go_ret
    exact ⟨ret_u8 HE.out, rfl⟩
  · have HE : Hid (55 + C = (hexN n : Int)) := by show _ = _; unfold hexN; rw [if_neg h]; omega
    have k1 : 10 ≤ C := by omega
    have k0 : C < 16 := by omega
    clear hC h hn
    go_enter Try.func46, Try.ntmps46
    go_wp2
    go_ret
    exact ⟨ret_u8 HE.out, rfl⟩

set_option maxRecDepth 100000 in
set_option maxHeartbeats 400000 in
theorem rvalue_any (n : Nat) (C : Int) (w : World) (hC : C = (n : Int)) (hn : n < 256) :
    Calls Try.prog 45 #[.int .u8 C] w fun e w' => e = .returned (.tuple #[.int .u8 (((hexV n).getD 0 : Nat) : Int), .bool (hexV n).isSome]) ∧ w = w' := by
  have k0 : 0 ≤ C := by omega
  have k9 : C ≤ 255 := by omega
  rcases (show n < 48 ∨ (48 ≤ n ∧ n ≤ 57) ∨ (58 ≤ n ∧ n < 65) ∨ (65 ≤ n ∧ n ≤ 70) ∨ 71 ≤ n from by omega) with h | ⟨h, h'⟩ | ⟨h, h'⟩ | ⟨h, h'⟩ | h
  · have HE : Hid (hexV n = none) := by show _ = _; unfold hexV; rw [if_neg (by omega), if_neg (by omega)]
    have k1 : C < 48 := by omega
    clear hC h hn
    go_enter Try.func45, Try.ntmps45
    go_wp2
    go_ret2
    rw [HE.out]
    exact ⟨rfl, rfl⟩
  · have HE : Hid (hexV n = some (n - 48)) := by show _ = _; unfold hexV; rw [if_pos (by omega)]
    have HV : Hid (C - 48 = ((n - 48 : Nat) : Int)) := by show _ = _; omega
    have k1 : 48 ≤ C := by omega
    have k2 : C ≤ 57 := by omega
    clear hC h h' hn
    go_enter Try.func45, Try.ntmps45
    go_wp2
    go_ret2
    rw [HE.out]
    show Ending.returned (.tuple #[.int .u8 (C - 48), .bool true]) = _ ∧ _
    rw [HV.out]
    exact ⟨rfl, rfl⟩
  · have HE : Hid (hexV n = none) := by show _ = _; unfold hexV; rw [if_neg (by omega), if_neg (by omega)]
    have k1 : 58 ≤ C := by omega
    have k2 : C < 65 := by omega
    clear hC h h' hn
    go_enter Try.func45, Try.ntmps45
    go_wp2
    go_ret2
    rw [HE.out]
    exact ⟨rfl, rfl⟩
  · have HE : Hid (hexV n = some (n - 55)) := by show _ = _; unfold hexV; rw [if_neg (by omega), if_pos (by omega)]
    have HV : Hid (C - 55 = ((n - 55 : Nat) : Int)) := by show _ = _; omega
    have k1 : 65 ≤ C := by omega
    have k2 : C ≤ 70 := by omega
    clear hC h h' hn
    go_enter Try.func45, Try.ntmps45
    go_wp2
    go_ret2
    rw [HE.out]
    show Ending.returned (.tuple #[.int .u8 (C - 55), .bool true]) = _ ∧ _
    rw [HV.out]
    exact ⟨rfl, rfl⟩
  · have HE : Hid (hexV n = none) := by show _ = _; unfold hexV; rw [if_neg (by omega), if_neg (by omega)]
    have k1 : 71 ≤ C := by omega
    clear hC h hn
    go_enter Try.func45, Try.ntmps45
    go_wp2
    go_ret2
    rw [HE.out]
    exact ⟨rfl, rfl⟩
end Go.Proofs.Yteoailanpmkcfaa
