/-
  The library's cmp.Compare, slices.Compare, cmp.Or and strings.Compare, at this program's types: contracts.
-/
import Derived.Test.YtkpdejnhjbojpaaDoorCkRefC
import Derived.Lib.Bytealg
import Derived.Lib.Small
namespace Go.Proofs.YtkpdejnhjbojpaaDoor
open Go.RowKit
set_option linter.unusedVariables false

theorem cmpT_lib : ∀ a b : List UInt8, Lib.compareBytes a b = cmpT a b
  | [], [] => rfl
  | [], _ :: _ => rfl
  | _ :: _, [] => rfl
  | x :: xs, y :: ys => by
    rw [cmpT_cons]
    unfold Lib.compareBytes
    rw [cmpT_lib xs ys]
    rfl

set_option maxRecDepth 100000 in
theorem nan_text (a : ByteArray) (w : World) : Calls Tryd.prog 81 #[.string a] w fun e w' => e = .returned (.bool false) ∧ w' = w := by
  go_enter Tryd.func81, Tryd.ntmps81
  go_wp2
  go_ret
  exact ⟨by simp, rfl⟩

set_option maxRecDepth 100000 in
theorem nan_int (x : Int) (w : World) : Calls Tryd.prog 82 #[.int .i64 x] w fun e w' => e = .returned (.bool false) ∧ w' = w := by
  go_enter Tryd.func82, Tryd.ntmps82
  go_wp2
  go_ret
  exact ⟨by simp, rfl⟩

set_option maxRecDepth 100000 in
set_option maxHeartbeats 1600000 in
theorem ccmp_int (x y : Int) (w : World) : Calls Tryd.prog 65 #[.int .i64 x, .int .i64 y] w fun e w' => e = .returned (.int .i64 (cmpN x y)) ∧ w' = w := by
  have HV : Hid (cmpN x y = if x < y then -1 else if y < x then 1 else 0) := rfl
  generalize cmpN x y = R at HV ⊢
  go_enter Tryd.func65, Tryd.ntmps65
  rcases (show x < y ∨ (¬ x < y ∧ y < x) ∨ (¬ x < y ∧ ¬ y < x) by omega) with h | ⟨h, h'⟩ | ⟨h, h'⟩
  all_goals
    go_wp2_with (go_at_call 82; refine (nan_int _ _).mono ?_; rintro _ w1 ⟨rfl, rfl⟩)
    go_ret
    refine ⟨ret_i64 ?_, rfl⟩
    rw [HV.out]
    first
      | rw [if_pos (by assumption)]
      | rw [if_neg (by omega), if_pos (by assumption)]
      | rw [if_neg (by omega), if_neg (by omega)]

theorem less_cmp : ∀ a b : List UInt8, Op.bytesLess a b = decide (cmpT a b = -1)
  | [], [] => rfl
  | [], _ :: _ => rfl
  | _ :: _, [] => rfl
  | x :: xs, y :: ys => by
    rw [Op.bytesLess, less_cmp xs ys, cmpT_cons]
    by_cases h1 : x.toNat < y.toNat
    · have h : x < y := UInt8.lt_iff_toNat_lt.2 h1
      simp [h1, h]
    · have h : ¬ x < y := fun e => h1 (UInt8.lt_iff_toNat_lt.1 e)
      by_cases h2 : y.toNat < x.toNat
      · have hne : (x == y) = false := by
          rw [beq_eq_false_iff_ne]
          intro e
          subst e
          omega
        simp [h1, h, h2, hne]
      · have hxy : x = y := UInt8.toNat_inj.1 (by omega)
        subst hxy
        simp [h1]

set_option maxRecDepth 100000 in
set_option maxHeartbeats 1600000 in
theorem ccmp_text (a b : ByteArray) (w : World) : Calls Tryd.prog 63 #[.string a, .string b] w fun e w' => e = .returned (.int .i64 (cmpT a.data.toList b.data.toList)) ∧ w' = w := by
  have HL := less_cmp a.data.toList b.data.toList
  have HZ := cmpT_zero a.data.toList b.data.toList
  have h3 := ordT.three a.data.toList b.data.toList
  rw [← Lib.toList_data, ← Lib.toList_data] at HL HZ h3 ⊢
  generalize cmpT a.toList b.toList = R at *
  go_enter Tryd.func63, Tryd.ntmps63
  rcases h3 with h | h | h
  · subst h
    have hl : Op.bytesLess a.toList b.toList = true := by rw [HL]; rfl
    clear HL HZ
    go_wp2_with (go_at_call 81; refine (nan_text _ _).mono ?_; rintro _ w1 ⟨rfl, rfl⟩)
    go_ret
    exact ⟨rfl, rfl⟩
  · subst h
    have hl : Op.bytesLess a.toList b.toList = false := by rw [HL]; rfl
    have he : a.toList = b.toList := HZ.1 rfl
    clear HL HZ
    rw [he] at hl
    go_wp2_with (go_at_call 81; refine (nan_text _ _).mono ?_; rintro _ w1 ⟨rfl, rfl⟩)
    go_ret
    exact ⟨by simp, rfl⟩
  · subst h
    have hl : Op.bytesLess a.toList b.toList = false := by rw [HL]; rfl
    have he : (a.toList == b.toList) = false := by
      rw [beq_eq_false_iff_ne]
      intro e
      have := HZ.2 e
      omega
    clear HL HZ
    go_wp2_with (go_at_call 81; refine (nan_text _ _).mono ?_; rintro _ w1 ⟨rfl, rfl⟩)
    go_ret
    exact ⟨rfl, rfl⟩

set_option maxRecDepth 100000 in
set_option maxHeartbeats 1600000 in
theorem scmp_text (a b : ByteArray) (w : World) : Calls Tryd.prog 43 #[.string a, .string b] w fun e w' => e = .returned (.int .i64 (cmpT a.data.toList b.data.toList)) ∧ w' = w := by
  rw [← cmpT_lib]
  have k : ∀ w, Calls Tryd.prog 66 #[.string a, .string b] w fun e w' => e = .returned (.int .i64 (Lib.compareBytes a.data.toList b.data.toList)) ∧ w' = w := by
    intro w
    go_enter Tryd.func66, Tryd.ntmps66
    go_wp2
    rw [run_callFunc_extern Tryd.func83 (by kernel_rfl) (by kernel_rfl) (by kernel_rfl) (e := Extern.BytealgCompare.compare) (by kernel_rfl), Lib.run_compareString]
    simp only [Result.andThen]
    rw [Oper.upon_value]
    go_wp2
    go_ret
    exact ⟨rfl, rfl⟩
  go_enter Tryd.func43, Tryd.ntmps43
  go_wp2_with (go_at_call 66; refine (k _).mono ?_; rintro _ w1 ⟨rfl, rfl⟩)
  go_ret
  exact ⟨rfl, rfl⟩

/-- Two rows of texts of one length, whose parts compare so. -/
def TxtPair (w : World) (g k : Nat) (L : List Int) : Prop :=
  ∀ j, j < L.length → ∃ x y : ByteArray, w.cell? ⟨g, j, none⟩ = some (.string x) ∧ w.cell? ⟨k, j, none⟩ = some (.string y) ∧ cmpT x.data.toList y.data.toList = L.getD j 0
/-- Two rows of numbers of one length, whose parts compare so. -/
def IntPair (w : World) (g k : Nat) (L : List Int) : Prop :=
  ∀ j, j < L.length → ∃ x y : Int, w.cell? ⟨g, j, none⟩ = some (.int .i64 x) ∧ w.cell? ⟨k, j, none⟩ = some (.int .i64 y) ∧ cmpN x y = L.getD j 0
/-- A row of numbers. -/
def IntRow (w : World) (g : Nat) (L : List Int) : Prop :=
  ∀ j, j < L.length → w.cell? ⟨g, j, none⟩ = some (.int .i64 (L.getD j 0))

/-- The parts so far were alike. -/
def FirAt (L : List Int) (W : World) (gg : Nat) (i : Value) (wr : World) : Prop :=
  ∃ k : Nat, i = .int .i64 (k : Int) ∧ k + gg = L.length + 1 ∧ 1 ≤ gg ∧ firstZ L = firstZ (L.drop k) ∧ wr = W

set_option maxRecDepth 100000 in
set_option maxHeartbeats 1600000 in
theorem or_int (g : Nat) (L : List Int) (w : World) (h : IntRow w g L) (hn : L.length ≤ 100) : Calls Tryd.prog 41 #[.slice (some ⟨g, 0, none⟩) L.length L.length] w fun e w' => e = .returned (.int .i64 (firstZ L)) ∧ w' = w := by
  have HC := Lib.hid h
  clear h
  go_enter Tryd.func41, Tryd.ntmps41
  go_wp2
  go_loopg [8] (L.length + 1) (fun gg i wr => FirAt L w gg i wr)
  case atStart => exact ⟨0, rfl, by omega, by omega, rfl, rfl⟩
  case round =>
    obtain ⟨k, rfl, hk, hg, hinv, rfl⟩ := hrel
    have HI := Lib.hid hinv
    clear hinv
    by_cases hlt : k < L.length
    · have HS := Lib.hid (firstZ_at L k hlt)
      have hc := HC.out k hlt
      generalize L.getD k 0 = y at HS hc
      have d4 : (k : Int) < (L.length : Int) := by omega
      by_cases hy : y = 0
      · have HN : Hid (firstZ L = firstZ (L.drop (k + 1))) := by show _ = _; rw [HI.out, HS.out, if_pos hy]
        subst hy
        go_wp2
        go_roundg (gk - 1)
        case measure => omega
        case rel => exact ⟨k + 1, by go_num, by omega, by omega, HN.out, rfl⟩
      · have HN : Hid (firstZ L = y) := by show _ = _; rw [HI.out, HS.out, if_neg hy]
        have e0 : ((y : Int) == 0) = false := by simpa using hy
        go_wp2
        go_ret
        exact ⟨ret_i64 HN.out.symm, rfl⟩
    · have HN : Hid (firstZ L = 0) := by show _ = _; rw [HI.out, List.drop_eq_nil_of_le (by omega)]; rfl
      have d4 : ¬ (k : Int) < (L.length : Int) := by omega
      go_wp2
      go_ret
      exact ⟨ret_i64 HN.out.symm, rfl⟩

set_option maxRecDepth 100000 in
set_option maxHeartbeats 1600000 in
theorem cmp_texts (g c : Nat) (L : List Int) (w : World) (h : TxtPair w g c L) (hn : L.length ≤ 100) : Calls Tryd.prog 37 #[.slice (some ⟨g, 0, none⟩) L.length L.length, .slice (some ⟨c, 0, none⟩) L.length L.length] w fun e w' => e = .returned (.int .i64 (firstZ L)) ∧ w' = w := by
  have HC := Lib.hid h
  clear h
  go_enter Tryd.func37, Tryd.ntmps37
  go_wp2
  go_loopg [11] (L.length + 1) (fun gg i wr => FirAt L w gg i wr)
  case atStart => exact ⟨0, rfl, by omega, by omega, rfl, rfl⟩
  case round =>
    obtain ⟨k, rfl, hk, hg, hinv, rfl⟩ := hrel
    have HI := Lib.hid hinv
    clear hinv
    by_cases hlt : k < L.length
    · have HS := Lib.hid (firstZ_at L k hlt)
      obtain ⟨x, y, hx, hy, hxy⟩ := HC.out k hlt
      have HT := Lib.hid (ccmp_text x y)
      rw [hxy] at HT
      clear hxy
      generalize L.getD k 0 = r at HS HT
      have d4 : (k : Int) < (L.length : Int) := by omega
      have d5 : ¬ (k : Int) ≥ (L.length : Int) := by omega
      by_cases hr : r = 0
      · have HN : Hid (firstZ L = firstZ (L.drop (k + 1))) := by show _ = _; rw [HI.out, HS.out, if_pos hr]
        subst hr
        go_wp2_with (go_at_call 63; refine (HT.out _).mono ?_; rintro _ w1 ⟨rfl, rfl⟩)
        go_roundg (gk - 1)
        case measure => omega
        case rel => exact ⟨k + 1, by go_num, by omega, by omega, HN.out, rfl⟩
      · have HN : Hid (firstZ L = r) := by show _ = _; rw [HI.out, HS.out, if_neg hr]
        have e0 : ((r : Int) == 0) = false := by simpa using hr
        go_wp2_with (go_at_call 63; refine (HT.out _).mono ?_; rintro _ w1 ⟨rfl, rfl⟩)
        go_ret
        exact ⟨ret_i64 HN.out.symm, rfl⟩
    · have HN : Hid (firstZ L = 0) := by show _ = _; rw [HI.out, List.drop_eq_nil_of_le (by omega)]; rfl
      have d4 : ¬ (k : Int) < (L.length : Int) := by omega
      go_wp2
      go_ret
      exact ⟨ret_i64 HN.out.symm, rfl⟩

set_option maxRecDepth 100000 in
set_option maxHeartbeats 1600000 in
theorem cmp_ints (g c : Nat) (L : List Int) (w : World) (h : IntPair w g c L) (hn : L.length ≤ 100) : Calls Tryd.prog 42 #[.slice (some ⟨g, 0, none⟩) L.length L.length, .slice (some ⟨c, 0, none⟩) L.length L.length] w fun e w' => e = .returned (.int .i64 (firstZ L)) ∧ w' = w := by
  have HC := Lib.hid h
  clear h
  go_enter Tryd.func42, Tryd.ntmps42
  go_wp2
  go_loopg [11] (L.length + 1) (fun gg i wr => FirAt L w gg i wr)
  case atStart => exact ⟨0, rfl, by omega, by omega, rfl, rfl⟩
  case round =>
    obtain ⟨k, rfl, hk, hg, hinv, rfl⟩ := hrel
    have HI := Lib.hid hinv
    clear hinv
    by_cases hlt : k < L.length
    · have HS := Lib.hid (firstZ_at L k hlt)
      obtain ⟨x, y, hx, hy, hxy⟩ := HC.out k hlt
      have HT := Lib.hid (ccmp_int x y)
      rw [hxy] at HT
      clear hxy
      generalize L.getD k 0 = r at HS HT
      have d4 : (k : Int) < (L.length : Int) := by omega
      have d5 : ¬ (k : Int) ≥ (L.length : Int) := by omega
      by_cases hr : r = 0
      · have HN : Hid (firstZ L = firstZ (L.drop (k + 1))) := by show _ = _; rw [HI.out, HS.out, if_pos hr]
        subst hr
        go_wp2_with (go_at_call 65; refine (HT.out _).mono ?_; rintro _ w1 ⟨rfl, rfl⟩)
        go_roundg (gk - 1)
        case measure => omega
        case rel => exact ⟨k + 1, by go_num, by omega, by omega, HN.out, rfl⟩
      · have HN : Hid (firstZ L = r) := by show _ = _; rw [HI.out, HS.out, if_neg hr]
        have e0 : ((r : Int) == 0) = false := by simpa using hr
        go_wp2_with (go_at_call 65; refine (HT.out _).mono ?_; rintro _ w1 ⟨rfl, rfl⟩)
        go_ret
        exact ⟨ret_i64 HN.out.symm, rfl⟩
    · have HN : Hid (firstZ L = 0) := by show _ = _; rw [HI.out, List.drop_eq_nil_of_le (by omega)]; rfl
      have d4 : ¬ (k : Int) < (L.length : Int) := by omega
      go_wp2
      go_ret
      exact ⟨ret_i64 HN.out.symm, rfl⟩

end Go.Proofs.YtkpdejnhjbojpaaDoor
