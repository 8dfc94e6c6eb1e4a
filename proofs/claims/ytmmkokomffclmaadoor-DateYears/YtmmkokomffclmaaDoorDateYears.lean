/-
  For every number n, cracknellaw10.DateYears(n) returns true and leaves it as it was. Conditions: none. The program's tables are as its own text lays them (a tied card).
-/
import Derived.Test.YtmmkokomffclmaaDoorDatQc
import Derived.Test.YtmmkokomffclmaaDoorBaseBytes
import Derived.Test.YtmmkokomffclmaaDoorDatLaid
import Derived.Test.YtmmkokomffclmaaDoorTie
import Derived.Test.YtmmkokomffclmaaDoorCards
import Derived.Deep.RegionHeld3
import Derived.SevenTiedAt
import Derived.LaidLaws
import Derived.Stop.Joined
import Derived.ProofKit
import Derived.OpenShut
import Derived.ShutString
import Derived.ChangeOld
import Derived.SizedLaws
namespace Go.Proofs.YtmmkokomffclmaaDoor.dateYears
open Go.ChangeShapes Go.WideShapes Go.ChangeAt Go.RowKit
open Go.ChangeMaps (open_string shut_string)
set_option linter.unusedVariables false

theorem own : ownKnob Tryd.prog.godebug = none := by kernel_rfl

theorem dig_at (a : Int) (n k : Nat) (ha : a = (n : Int)) (hk : n = k % 10) : (48 + a : Int) = ((UInt8.ofNat (48 + k % 10)).toNat : Int) := by
  rw [dig_toNat (k % 10) (by omega)]
  omega

/-- The four digits of a year. -/
theorem year_bytes (a : Int) (n : Nat) (ha : a = (n : Int)) (hn : n ≤ 9999) (W : World) :
    Sem.run Tryd.prog (convert 30 9 (.slice (some ⟨W.heap.size, 0, none⟩) 4 4)) (W.alloc (.cells #[.int .u8 (48 + a / 1000), .int .u8 (48 + a / 100 % 10), .int .u8 (48 + a / 10 % 10), .int .u8 (48 + a % 10)] 5)) =
      .ok (.string (padB n 4)) (W.alloc (.cells #[.int .u8 (48 + a / 1000), .int .u8 (48 + a / 100 % 10), .int .u8 (48 + a / 10 % 10), .int .u8 (48 + a % 10)] 5)) :=
  four_back _ _ _ _ _ _ _ _ (dig_at (a / 1000) (n / 1000) (n / 10 ^ 3) (by omega) (by omega)) (dig_at (a / 100 % 10) (n / 100 % 10) (n / 10 ^ 2) (by omega) (by omega))
    (dig_at (a / 10 % 10) (n / 10 % 10) (n / 10 ^ 1) (by omega) (by omega)) (dig_at (a % 10) (n % 10) (n / 10 ^ 0) (by omega) (by simp)) W

theorem year_raw (a : Int) (n : Nat) (ha : a = (n : Int)) (hn : n ≤ 9999) (W : World) :
    Sem.run Tryd.prog (convert 30 9 (.slice (some ⟨W.heap.size, 0, none⟩) 4 4)) (W.alloc (.cells #[.int .u8 (IntKind.u8.wrap (IntKind.i64.wrap (48 + IntKind.i64.wrap (a.tdiv 1000)))), .int .u8 (IntKind.u8.wrap (IntKind.i64.wrap (48 + (IntKind.i64.wrap (a.tdiv 100)).tmod 10))), .int .u8 (IntKind.u8.wrap (IntKind.i64.wrap (48 + (IntKind.i64.wrap (a.tdiv 10)).tmod 10))), .int .u8 (IntKind.u8.wrap (IntKind.i64.wrap (48 + a.tmod 10)))] 5)) =
      .ok (.string (padB n 4)) (W.alloc (.cells #[.int .u8 (IntKind.u8.wrap (IntKind.i64.wrap (48 + IntKind.i64.wrap (a.tdiv 1000)))), .int .u8 (IntKind.u8.wrap (IntKind.i64.wrap (48 + (IntKind.i64.wrap (a.tdiv 100)).tmod 10))), .int .u8 (IntKind.u8.wrap (IntKind.i64.wrap (48 + (IntKind.i64.wrap (a.tdiv 10)).tmod 10))), .int .u8 (IntKind.u8.wrap (IntKind.i64.wrap (48 + a.tmod 10)))] 5)) := by
  have w64 : ∀ x : Int, 0 ≤ x → x ≤ 100000 → IntKind.i64.wrap x = x := fun x h1 h2 => by rw [IntKind.wrap_i64]; omega
  have w8 : ∀ x : Int, 0 ≤ x → x ≤ 255 → IntKind.u8.wrap x = x := fun x h1 h2 => by
    show (if (false && decide (x % (2 ^ 8 : Int) ≥ (2 ^ 7 : Int))) = true then x % (2 ^ 8 : Int) - (2 ^ 8 : Int) else x % (2 ^ 8 : Int)) = x
    rw [if_neg (by simp)]
    omega
  have d : ∀ k : Int, a.tdiv k = a / k := fun k => Int.tdiv_eq_ediv_of_nonneg (by omega)
  have m : ∀ x : Int, 0 ≤ x → x.tmod 10 = x % 10 := fun x h => Int.tmod_eq_emod_of_nonneg h
  have e0 : IntKind.u8.wrap (IntKind.i64.wrap (48 + IntKind.i64.wrap (a.tdiv 1000))) = 48 + a / 1000 := by rw [d 1000, w64 (a / 1000) (by omega) (by omega), w64 (48 + a / 1000) (by omega) (by omega), w8 _ (by omega) (by omega)]
  have e1 : IntKind.u8.wrap (IntKind.i64.wrap (48 + (IntKind.i64.wrap (a.tdiv 100)).tmod 10)) = 48 + a / 100 % 10 := by rw [d 100, w64 (a / 100) (by omega) (by omega), m _ (by omega), w64 (48 + a / 100 % 10) (by omega) (by omega), w8 _ (by omega) (by omega)]
  have e2 : IntKind.u8.wrap (IntKind.i64.wrap (48 + (IntKind.i64.wrap (a.tdiv 10)).tmod 10)) = 48 + a / 10 % 10 := by rw [d 10, w64 (a / 10) (by omega) (by omega), m _ (by omega), w64 (48 + a / 10 % 10) (by omega) (by omega), w8 _ (by omega) (by omega)]
  have e3 : IntKind.u8.wrap (IntKind.i64.wrap (48 + a.tmod 10)) = 48 + a % 10 := by rw [m _ (by omega), w64 (48 + a % 10) (by omega) (by omega), w8 _ (by omega) (by omega)]
  rw [e0, e1, e2, e3]
  exact year_bytes a n ha hn W

theorem jan_text (F : ByteArray) (l : List UInt8) (hF : F.data.toList = l) :
    (((⟨#[49, 32, 74, 97, 110, 32]⟩ : ByteArray) ++ F) ++ ⟨#[32, 48, 48, 58, 48, 48, 58, 48, 48]⟩).data.toList = janL l := by
  rw [app_list, app_list, hF]
  rfl

theorem secs_jan (y : Int) : secs y 1 1 0 0 0 = 86400 * ys y := by
  unfold secs dayNum
  rw [ms_one]
  omega

theorem jan_range (y : Int) (h1 : 1 ≤ y) (h2 : y ≤ 9999) : -62135596800 ≤ secs y 1 1 0 0 0 ∧ secs y 1 1 0 0 0 ≤ 253402300799 := (show Shows (secs y 1 1 0 0 0) y 1 1 0 0 0 from ⟨isClock_jan y h1 h2, rfl⟩).within

theorem jan_neg (y : Int) (h : y < 1970) : secs y 1 1 0 0 0 < 0 := by
  rw [secs_jan]
  have a := ys_mono (show y + 1 ≤ 1970 by omega)
  have b := ys_succ y
  have c := long_pos y
  rw [ys_1970] at a
  omega

theorem jan_pos (y : Int) (h : 1970 ≤ y) : 0 ≤ secs y 1 1 0 0 0 := by
  rw [secs_jan]
  have a := ys_mono h
  rw [ys_1970] at a
  omega

theorem jan_iso (y : Nat) (h1 : 1970 ≤ y) (h2 : y ≤ 9999) : IsIso (secs y 1 1 0 0 0) ⟨(isoL y 1 1 0 0 0).toArray⟩ :=
  ⟨y, 1, 1, 0, 0, 0, ⟨isClock_jan y (by omega) (by omega), rfl⟩, jan_pos y (by omega), rfl⟩

theorem iso_parts (y : Nat) (S : ByteArray) (hS : S = ⟨(isoL y 1 1 0 0 0).toArray⟩) : S.size = 20 ∧ S.extract 0 4 = padB y 4 ∧ S.extract 4 20 = ⟨#[45, 48, 49, 45, 48, 49, 84, 48, 48, 58, 48, 48, 58, 48, 48, 90]⟩ := by
  obtain ⟨p0, p1, _⟩ := iso_pieces y 1 1 0 0 0
  have hl : S.data.toList = isoL y 1 1 0 0 0 := by rw [hS]
  refine ⟨by rw [← list_len, hl]; exact p0, ?_, ?_⟩
  · apply ba_ext
    rw [extract_list, hl, padB_list]
    exact p1
  · apply ba_ext
    rw [extract_list, hl]
    simp [isoL, hmsL, padK]

theorem bel_alloc {w W : World} (o : Obj) (h : Below w.heap.size w W) : Below w.heap.size w (W.alloc o) := h.alloc h.size o

theorem alive_on {w W : World} (hT : DTabs w) (h : Below w.heap.size w W) : Calls Tryd.prog 10 #[] W fun e w' => e = .returned (.bool true) ∧ Below w.heap.size w w' :=
  (alive_any W (hT.keep h)).mono fun e w' ⟨a, b⟩ => ⟨a, chain h b⟩

/-- What the two texts tell. -/
theorem years_case (n : Nat) (hn : n ≤ 9999) (i4 i2 : Int) (b4 b2 : Bool) (h4 : cookieL (janL (padK n 4)) = (i4, b4)) (h2 : cookieL (janL (padK n 2)) = (i2, b2)) :
    b2 = true ∧ ((n < 70 ∧ b4 = true ∧ i4 = secs ((2000 + n : Nat) : Int) 1 1 0 0 0 ∧ i2 = i4) ∨ (70 ≤ n ∧ n < 100 ∧ b4 = true ∧ i4 = secs ((1900 + n : Nat) : Int) 1 1 0 0 0 ∧ i2 = i4) ∨
      (100 ≤ n ∧ n < 1601 ∧ b4 = false ∧ i4 = 0) ∨ (1601 ≤ n ∧ n < 1970 ∧ b4 = true ∧ i4 = secs (n : Int) 1 1 0 0 0) ∨ (1970 ≤ n ∧ b4 = true ∧ i4 = secs (n : Int) 1 1 0 0 0)) := by
  rw [cookie_jan _ (padK_all n 4) (by rw [padK_len]; decide) (by rw [padK_len]; decide), pad_at n 4 (by omega)] at h4
  rw [cookie_jan _ (padK_all n 2) (by rw [padK_len]; decide) (by rw [padK_len]; decide), valN_pad] at h2
  have e2 : yearOf ((n % 10 ^ 2 : Nat) : Int) = if n % 100 < 70 then ((2000 + n % 100 : Nat) : Int) else ((1900 + n % 100 : Nat) : Int) := by
    unfold yearOf
    by_cases h : n % 100 < 70
    · rw [if_neg (by omega), if_pos (by omega), if_pos h]; omega
    · rw [if_pos (by omega), if_neg h]; omega
  have hy2 : 1601 ≤ yearOf ((n % 10 ^ 2 : Nat) : Int) := by rw [e2]; split <;> omega
  rw [if_pos hy2] at h2
  injection h2 with h2a h2b
  refine ⟨h2b.symm, ?_⟩
  by_cases c1 : n < 70
  · have e : yearOf (n : Int) = ((2000 + n : Nat) : Int) := by unfold yearOf; rw [if_neg (by omega), if_pos (by omega)]; omega
    rw [e, if_pos (by omega)] at h4
    injection h4 with h4a h4b
    rw [e2, if_pos (by omega), Nat.mod_eq_of_lt (by omega)] at h2a
    exact .inl ⟨c1, h4b.symm, h4a.symm, by rw [← h2a, h4a]⟩
  by_cases c2 : n < 100
  · have e : yearOf (n : Int) = ((1900 + n : Nat) : Int) := by unfold yearOf; rw [if_pos (by omega)]; omega
    rw [e, if_pos (by omega)] at h4
    injection h4 with h4a h4b
    rw [e2, if_neg (by omega), Nat.mod_eq_of_lt (by omega)] at h2a
    exact .inr (.inl ⟨by omega, c2, h4b.symm, h4a.symm, by rw [← h2a, h4a]⟩)
  have e : yearOf (n : Int) = (n : Int) := by unfold yearOf; rw [if_neg (by omega), if_neg (by omega)]
  rw [e] at h4
  by_cases c3 : n < 1601
  · rw [if_neg (by omega)] at h4
    injection h4 with h4a h4b
    exact .inr (.inr (.inl ⟨by omega, c3, h4b.symm, h4a.symm⟩))
  rw [if_pos (by omega)] at h4
  injection h4 with h4a h4b
  by_cases c4 : n < 1970
  · exact .inr (.inr (.inr (.inl ⟨by omega, c4, h4b.symm, h4a.symm⟩)))
  · exact .inr (.inr (.inr (.inr ⟨by omega, h4b.symm, h4a.symm⟩)))

set_option maxRecDepth 100000 in
set_option maxHeartbeats 1600000 in
theorem walk (a0 : Int) (w0 : (Lit.int .i64 a0).wf = true) (w : World) (hT : Tabs w) :
    Calls Tryd.prog 9 #[.int .i64 a0] w fun e w' => e = .returned (.bool true) ∧ Below w.heap.size w w' := by
  obtain ⟨l0, u0⟩ := bounds_i64 w0
  clear w0
  have HT0 : Hid (DTabs w) := hT
  by_cases hlo : a0 < 0
  · go_enter Tryd.func9, Tryd.ntmps9
    go_wp2_with fail
    with_reducible refine (alive_any _ hT).mono ?_
    rintro _ w1 ⟨rfl, hb1⟩
    replace hT := hT.keep hb1
    clear hT
    go_wp2
    go_ret
    exact ⟨rfl, hb1⟩
  by_cases hhi : 9999 < a0
  · go_enter Tryd.func9, Tryd.ntmps9
    go_wp2_with fail
    with_reducible refine (alive_any _ hT).mono ?_
    rintro _ w1 ⟨rfl, hb1⟩
    replace hT := hT.keep hb1
    clear hT
    go_wp2
    go_ret
    exact ⟨rfl, hb1⟩
  obtain ⟨n, hn⟩ : ∃ n : Nat, a0 = (n : Int) := ⟨a0.toNat, by omega⟩
  have hn9 : n ≤ 9999 := by omega
  have hcv := year_bytes a0 n hn hn9
  obtain ⟨F, hF⟩ : ∃ F, F = padB n 4 := ⟨_, rfl⟩
  rw [← hF] at hcv
  have hz4 : F.size = 4 := by rw [hF, padB_size]
  have hFL : F.data.toList = padK n 4 := by rw [hF, padB_list]
  have hGL : (F.extract 2 4).data.toList = padK n 2 := by rw [extract_list, hFL]; simp [padK]
  have hz2 : (F.extract 2 4).size = 2 := by rw [← list_len, hGL, padK_len]
  obtain ⟨i4, b4, h4⟩ : ∃ i b, cookieL (janL (padK n 4)) = (i, b) := ⟨_, _, rfl⟩
  obtain ⟨i2, b2, h2⟩ : ∃ i b, cookieL (janL (padK n 2)) = (i, b) := ⟨_, _, rfl⟩
  obtain ⟨hb2t, hcase⟩ := years_case n hn9 i4 i2 b4 b2 h4 h2
  subst hb2t
  have HC := Lib.hid (fun W => cookie_at W (i := i4) (b := b4) (s := ((⟨#[49, 32, 74, 97, 110, 32]⟩ : ByteArray) ++ F) ++ ⟨#[32, 48, 48, 58, 48, 48, 58, 48, 48]⟩) (by rw [ByteArray.size_append, ByteArray.size_append, hz4]; decide) (by rw [jan_text F _ hFL]; exact h4))
  have HD := Lib.hid (fun W => cookie_at W (i := i2) (b := true) (s := ((⟨#[49, 32, 74, 97, 110, 32]⟩ : ByteArray) ++ F.extract 2 4) ++ ⟨#[32, 48, 48, 58, 48, 48, 58, 48, 48]⟩) (by rw [ByteArray.size_append, ByteArray.size_append, hz2]; decide) (by rw [jan_text _ _ hGL]; exact h2))
  have hcas : (a0 < 70 ∧ b4 = true ∧ i4 = secs ((2000 + n : Nat) : Int) 1 1 0 0 0 ∧ i2 = i4) ∨ (¬ a0 < 70 ∧ a0 < 100 ∧ b4 = true ∧ i4 = secs ((1900 + n : Nat) : Int) 1 1 0 0 0 ∧ i2 = i4) ∨
      (¬ a0 < 100 ∧ a0 < 1601 ∧ b4 = false ∧ i4 = 0) ∨ (¬ a0 < 1601 ∧ a0 < 1970 ∧ b4 = true ∧ i4 = secs (n : Int) 1 1 0 0 0) ∨ (¬ a0 < 1970 ∧ b4 = true ∧ i4 = secs (n : Int) 1 1 0 0 0) := by
    rcases hcase with ⟨a, b⟩ | ⟨a, b, c⟩ | ⟨a, b, c⟩ | ⟨a, b, c⟩ | ⟨a, b⟩
    · exact .inl ⟨by omega, b⟩
    · exact .inr (.inl ⟨by omega, by omega, c⟩)
    · exact .inr (.inr (.inl ⟨by omega, by omega, c⟩))
    · exact .inr (.inr (.inr (.inl ⟨by omega, by omega, c⟩)))
    · exact .inr (.inr (.inr (.inr ⟨by omega, b⟩)))
  have HCASE := Lib.hid hcas
  have HN := Lib.hid hn
  have hext : F.extract 2 F.size = F.extract 2 4 := by rw [hz4]
  clear hcase hcas h4 h2 hGL hFL hF hn hn9
  go_enter Tryd.func9, Tryd.ntmps9
  have hb0 := (Below.refl w.heap.size w).alloc (Nat.le_refl _) (.cells #[.int .u8 (48 + a0 / 1000), .int .u8 (48 + a0 / 100 % 10), .int .u8 (48 + a0 / 10 % 10), .int .u8 (48 + a0 % 10)] 5)
  replace hT := hT.alloc (.cells #[.int .u8 (48 + a0 / 1000), .int .u8 (48 + a0 / 100 % 10), .int .u8 (48 + a0 / 10 % 10), .int .u8 (48 + a0 % 10)] 5)
  go_wp2_with fail
  with_reducible refine (HC.out _ hT).mono ?_
  rintro _ w1 ⟨rfl, hb⟩
  have hb1 := chain hb0 hb
  replace hT := hT.keep hb
  clear hb hb0
  clear hcv HC
  go_wp2_with fail
  with_reducible refine (HD.out _ hT).mono ?_
  rintro _ w2 ⟨rfl, hb⟩
  have hb2 := chain hb1 hb
  replace hT := hT.keep hb
  clear hb hb1
  clear hext HD
  rcases HCASE.out with ⟨g1, hb4, hi, he⟩ | ⟨g1, g2, hb4, hi, he⟩ | ⟨g1, g2, hb4, hi⟩ | ⟨g1, g2, hb4, hi⟩ | ⟨g1, hb4, hi⟩
  · have hn := HN.out
    have g0 : a0 < 100 := by omega
    subst hb4
    replace he := he.symm
    subst he
    have hip : 0 ≤ i4 := by rw [hi]; exact jan_pos _ (by omega)
    obtain ⟨S, hS⟩ : ∃ S : ByteArray, S = ⟨(isoL (2000 + n) 1 1 0 0 0).toArray⟩ := ⟨_, rfl⟩
    have HS : Hid (IsIso i4 S) := by show IsIso _ _; rw [hi, hS]; exact jan_iso (2000 + n) (by omega) (by omega)
    obtain ⟨p1, p2, p3⟩ := iso_parts (2000 + n) S hS
    have hyb := year_raw (2000 + a0) (2000 + n) (by omega) (by omega)
    obtain ⟨P, hP⟩ : ∃ P, P = padB (2000 + n) 4 := ⟨_, rfl⟩
    rw [← hP] at hyb p2
    have hp3 : S.extract 4 S.size = S.extract 4 20 := by rw [p1]
    have HP3 := Lib.hid p3
    have HYB := Lib.hid hyb
    have p1i : (S.size : Int) = 20 := by omega
    clear hi hS hP hyb p3 HCASE hn
    go_wp2_with fail
    with_reducible refine (iso_is i4 S _ HS.out hT).mono ?_
    rintro _ w3 ⟨rfl, hb⟩
    have hb3 := chain hb2 hb
    replace hT := hT.keep hb
    clear hb hb2
    go_wp2_with (with_reducible refine wp_halt ?_)
    refine Halt.on ?_
    have hbd := hb3.drew
    have hyb := HYB.out
    clear HYB HS HN l0 u0 hlo hhi
    go_region_held3 (fun W => Below w.heap.size w W) (first | assumption | (refine bel_alloc _ ?_; assumption)) (first
      | (go_at_call 10; ((with_reducible refine (alive_on HT0.out (by assumption)).mono ?_); rintro _ _ ⟨rfl, hS1⟩)))
    all_goals
      go_wp2
      go_ret
      refine ⟨by first | rfl | exact ret_bool (by rw [HP3.out, ByteArray.toList_eq]; rfl), ?_⟩
      assumption
  · have hn := HN.out
    subst hb4
    replace he := he.symm
    subst he
    have hip : 0 ≤ i4 := by rw [hi]; exact jan_pos _ (by omega)
    obtain ⟨S, hS⟩ : ∃ S : ByteArray, S = ⟨(isoL (1900 + n) 1 1 0 0 0).toArray⟩ := ⟨_, rfl⟩
    have HS : Hid (IsIso i4 S) := by show IsIso _ _; rw [hi, hS]; exact jan_iso (1900 + n) (by omega) (by omega)
    obtain ⟨p1, p2, p3⟩ := iso_parts (1900 + n) S hS
    have hyb := year_raw (1900 + a0) (1900 + n) (by omega) (by omega)
    obtain ⟨P, hP⟩ : ∃ P, P = padB (1900 + n) 4 := ⟨_, rfl⟩
    rw [← hP] at hyb p2
    have hp3 : S.extract 4 S.size = S.extract 4 20 := by rw [p1]
    have HP3 := Lib.hid p3
    have HYB := Lib.hid hyb
    have p1i : (S.size : Int) = 20 := by omega
    clear hi hS hP hyb p3 HCASE hn
    go_wp2_with fail
    with_reducible refine (iso_is i4 S _ HS.out hT).mono ?_
    rintro _ w3 ⟨rfl, hb⟩
    have hb3 := chain hb2 hb
    replace hT := hT.keep hb
    clear hb hb2
    go_wp2_with (with_reducible refine wp_halt ?_)
    refine Halt.on ?_
    have hbd := hb3.drew
    have hyb := HYB.out
    clear HYB HS HN l0 u0 hlo hhi
    go_region_held3 (fun W => Below w.heap.size w W) (first | assumption | (refine bel_alloc _ ?_; assumption)) (first
      | (go_at_call 10; ((with_reducible refine (alive_on HT0.out (by assumption)).mono ?_); rintro _ _ ⟨rfl, hS1⟩)))
    all_goals
      go_wp2
      go_ret
      refine ⟨by first | rfl | exact ret_bool (by rw [HP3.out, ByteArray.toList_eq]; rfl), ?_⟩
      assumption
  · subst hb4 hi
    obtain ⟨S, hS⟩ := exists_iso 0 (by decide) (by decide)
    have HS := Lib.hid hS
    clear hS HCASE
    go_wp2_with fail
    with_reducible refine (iso_is 0 S _ HS.out hT).mono ?_
    rintro _ w3 ⟨rfl, hb⟩
    have hb3 := chain hb2 hb
    replace hT := hT.keep hb
    clear hb hb2
    go_wp2_with fail
    with_reducible refine (alive_any _ hT).mono ?_
    rintro _ w4 ⟨rfl, hb⟩
    have hb4 := chain hb3 hb
    replace hT := hT.keep hb
    clear hb hb3
    clear hT
    go_wp2
    go_ret
    exact ⟨rfl, hb4⟩
  · have hn := HN.out
    have hin : i4 < 0 := by rw [hi]; exact jan_neg _ (by omega)
    have hir := jan_range (n : Int) (by omega) (by omega)
    rw [← hi] at hir
    obtain ⟨hi1, hi2⟩ := hir
    subst hb4
    clear hi hn HCASE
    go_wp2_with fail
    with_reducible refine (iso_not i4 _ (by omega) (by omega) (.inl hin) hT).mono ?_
    rintro _ w3 ⟨rfl, hb⟩
    have hb3 := chain hb2 hb
    replace hT := hT.keep hb
    clear hb hb2
    go_wp2_with fail
    with_reducible refine (alive_any _ hT).mono ?_
    rintro _ w4 ⟨rfl, hb⟩
    have hb4 := chain hb3 hb
    replace hT := hT.keep hb
    clear hb hb3
    clear hT
    go_wp2
    go_ret
    exact ⟨(by first | rfl | exact ret_bool (by simp; omega)), hb4⟩
  · have hn := HN.out
    have g0 : ¬ a0 < 100 := by omega
    subst hb4
    have hip : 0 ≤ i4 := by rw [hi]; exact jan_pos _ (by omega)
    obtain ⟨S, hS⟩ : ∃ S : ByteArray, S = ⟨(isoL (n) 1 1 0 0 0).toArray⟩ := ⟨_, rfl⟩
    have HS : Hid (IsIso i4 S) := by show IsIso _ _; rw [hi, hS]; exact jan_iso (n) (by omega) (by omega)
    obtain ⟨p1, p2, p3⟩ := iso_parts (n) S hS
    have hyb := year_raw (a0) (n) (by omega) (by omega)
    obtain ⟨P, hP⟩ : ∃ P, P = padB (n) 4 := ⟨_, rfl⟩
    rw [← hP] at hyb p2
    have hp3 : S.extract 4 S.size = S.extract 4 20 := by rw [p1]
    have HP3 := Lib.hid p3
    have HYB := Lib.hid hyb
    have p1i : (S.size : Int) = 20 := by omega
    clear hi hS hP hyb p3 HCASE hn
    go_wp2_with fail
    with_reducible refine (iso_is i4 S _ HS.out hT).mono ?_
    rintro _ w3 ⟨rfl, hb⟩
    have hb3 := chain hb2 hb
    replace hT := hT.keep hb
    clear hb hb2
    go_wp2_with (with_reducible refine wp_halt ?_)
    refine Halt.on ?_
    have hbd := hb3.drew
    have hyb := HYB.out
    clear HYB HS HN l0 u0 hlo hhi
    go_region_held3 (fun W => Below w.heap.size w W) (first | assumption | (refine bel_alloc _ ?_; assumption)) (first
      | (go_at_call 10; ((with_reducible refine (alive_on HT0.out (by assumption)).mono ?_); rintro _ _ ⟨rfl, hS1⟩)))
    all_goals
      go_wp2
      go_ret
      refine ⟨by first | rfl | exact ret_bool (by rw [HP3.out, ByteArray.toList_eq]; rfl), ?_⟩
      assumption

set_option maxRecDepth 100000 in
theorem lifted (os : Os) (started : os.Started) (H : Type) (enc : TypeId × Value → H) :
    ReturnsInHanded {} Tryd.checked os 9 .any (fun w args => (Rows.dateYearsSpec.pre enc Tryd.prog Tryd.f9 [] false w args ∧ laidMetH Tryd.prog listed w) ∧ sizedMet enc Tryd.prog Tryd.f9 (OpenSpec.ofChange Rows.dateYearsSpec) false w args)
      (Rows.dateYearsSpec.post enc Tryd.prog Tryd.f9 false true false false) := by
  refine returnsInHanded_of_change_and (C := Tryd.checked) (X := fun w _ => laidMetH Tryd.prog listed w) (fun _ _ _ hh h => h.of_heap hh) own started (by kernel_rfl) Tryd.func9
    (ChangeSpec.witness_shaped (enc := enc) (C := Tryd.checked) (os := os) (X := fun w _ => laidMetH Tryd.prog listed w) false (laidOver (World.holding Tryd.prog os ⟨#[], #[], []⟩)) #[.int .i64 0] 8 rfl (World.shaped_of_RefB (by kernel_rfl) (by kernel_rfl)) (by kernel_rfl) (by kernel_rfl) (by kernel_rfl) (laid_over os _)) ?_
  intro W base args ds gs before hval0 hW hcnd hsz0 hL _
  have hT := tabs_listed hL
  have hval : ∀ (j : Nat) t v, Tryd.f9.params[j]? = some t → args[j]? = some v → Value.okWide Tryd.prog W .any base t v := hval0
  have hsz : (DataW.weightsEach Tryd.prog (Tryd.f9.params.toList ++ Rows.dateYearsSpec.plain.varTypes Tryd.prog) (ds ++ gs)).all (· ≤ reachBytes) = true := hsz0
  have hW' := hW
  obtain ⟨p, q, hA0, hV, rfl, hfz, hnd⟩ := hW
  have hA : DataW.TrodAll enc Tryd.prog W 0 (fun _ => true) true Tryd.f9.params.toList args.toList ds p := hA0
  rw [Tryd.params9] at hA hval hsz
  obtain ⟨v0, vs0, d0, ds0, p0, q0, hargs, rfl, rfl, h0, r0⟩ := trodAll_cons hA
  obtain ⟨rfl, rfl, rfl⟩ := trodAll_nil r0
  obtain rfl : args = #[v0] := by cases args; simp_all
  obtain ⟨rfl, rfl⟩ := trodVars_none hV
  obtain ⟨a0, rfl, rfl, rfl, w0⟩ := open_int Tryd.underlying3 (hval 0 3 v0 rfl rfl) h0
  clear hA0 hval0 hsz hsz0
  refine (walk a0 w0 W hT).mono fun e W' ⟨he, bel⟩ => ?_
  subst he
  exact ⟨_, rfl, _, _, _, [], _, [], hW', trodAll_mk1 (shut_bool Tryd.underlying4 _), (trodAll_cons_mk (shut_int Tryd.underlying3 w0) trodAll_mk0), rfl, bel.frame _, fun h => by cases h⟩

theorem over : Rows.dateYearsRow.holds Tryd.pinned (OpenSpec.ofChange Rows.dateYearsSpec) :=
  OpenClaim.holds_of_wide 9 Tryd.f9 rfl rfl rfl rfl rfl rfl rfl ⟨rfl, rfl, rfl, rfl, rfl⟩ rfl rfl rfl rfl rfl (by kernel_rfl) Tryd.func9 (by kernel_rfl)
    (of_decide_eq_true (by kernel_rfl)) (by unfold Func.isWrapper; first | (rw [if_pos (by decide +kernel)]; kernel_rfl) | (rw [if_neg (by decide +kernel)]; exact ⟨rfl, rfl⟩))
    (fun os started H enc _ => lifted os started H enc)

set_option maxRecDepth 100000 in
theorem card : Rows.DateYearsCardSaid :=
  Claim7.holds_tied_plain_at .later [] _ true Rows.dateYearsCard.stood.harness false
    over (fun _ h => by cases h) (by kernel_rfl) (fun _ h => by cases h) dateYears_row_tie rfl ⟨rfl, rfl⟩ (by kernel_rfl) rfl
    (fun f fn hf hfn => by
      obtain rfl : f = 9 := Option.some.inj ((show Tryd.prog.funcNamed Rows.dateYearsRow.func = some 9 by kernel_rfl).symm.trans hf) |>.symm
      obtain rfl : fn = Tryd.f9 := (Option.some.inj (Tryd.func9.symm.trans hfn)).symm
      exact ⟨by kernel_rfl, fun j t ht => by
        rw [Tryd.params9] at ht
        have hm : t ∈ [3] := by first | (simpa using Array.mem_of_getElem? ht) | (have hq := Array.mem_of_getElem? ht; simp at hq ⊢; omega)
        have hall : ([3].all fun u => !Tryd.prog.wantsStandIn u) = true := by kernel_rfl
        exact (show Tryd.prog.wantsStandIn t = false by simpa using List.all_eq_true.1 hall t hm)⟩)
    (by kernel_rfl)

end Go.Proofs.YtmmkokomffclmaaDoor.dateYears
namespace Go.Proofs.YtmmkokomffclmaaDoor
/-- The statement. -/
theorem dateYears_proved : Rows.DateYearsCardSaid := dateYears.card
end Go.Proofs.YtmmkokomffclmaaDoor
