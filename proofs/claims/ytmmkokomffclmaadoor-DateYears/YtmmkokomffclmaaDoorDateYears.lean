/-
  For every number n, cracknellaw10.DateYears(n) returns true and leaves it as it was. Conditions: none. The program's tables are as its own text lays them (a tied card).
-/
import Derived.Test.YtmmkokomffclmaaDoorDatQc
import Derived.Test.YtmmkokomffclmaaDoorBaseBytes
import Derived.Test.YtmmkokomffclmaaDoorDatLaid
import Derived.Test.YtmmkokomffclmaaDoorTie
import Derived.Test.YtmmkokomffclmaaDoorCards
import Derived.Deep.RegionHeld3
import Derived.SevenTiedAt
import Derived.LaidLaws
import Derived.Stop.Joined
import Derived.ProofKit
import Derived.OpenShut
import Derived.ShutString
import Derived.ChangeOld
import Derived.SizedLaws
namespace Go.Proofs.YtmmkokomffclmaaDoor.dateYears
open Go.ChangeShapes Go.WideShapes Go.ChangeAt Go.RowKit
open Go.ChangeMaps (open_string shut_string)
set_option linter.unusedVariables false

theorem own : ownKnob Tryd.prog.godebug = none := by kernel_rfl

theorem dig_at (a : Int) (n k : Nat) (ha : a = (n : Int)) (hk : n = k % 10) : (48 + a : Int) = ((UInt8.ofNat (48 + k % 10)).toNat : Int) := by
  rw [dig_toNat (k % 10) (by omega)]
  omega

/-- The four digits of a year. -/
theorem year_bytes (a : Int) (n : Nat) (ha : a = (n : Int)) (hn : n ≤ 9999) (W : World) :
    Sem.run Tryd.prog (convert 30 9 (.slice (some ⟨W.heap.size, 0, none⟩) 4 4)) (W.alloc (.cells #[.int .u8 (48 + a / 1000), .int .u8 (48 + a / 100 % 10), .int .u8 (48 + a / 10 % 10), .int .u8 (48 + a % 10)] 5)) =
      .ok (.string (padB n 4)) (W.alloc (.cells #[.int .u8 (48 + a / 1000), .int .u8 (48 + a / 100 % 10), .int .u8 (48 + a / 10 % 10), .int .u8 (48 + a % 10)] 5)) :=
  four_back _ _ _ _ _ _ _ _ (dig_at (a / 1000) (n / 1000) (n / 10 ^ 3) (by omega) (by omega)) (dig_at (a / 100 % 10) (n / 100 % 10) (n / 10 ^ 2) (by omega) (by omega))
    (dig_at (a / 10 % 10) (n / 10 % 10) (n / 10 ^ 1) (by omega) (by omega)) (dig_at (a % 10) (n % 10) (n / 10 ^ 0) (by omega) (by simp)) W

theorem year_raw (a : Int) (n : Nat) (ha : a = (n : Int)) (hn : n ≤ 9999) (W : World) :
    Sem.run Tryd.prog (convert 30 9 (.slice (some ⟨W.heap.size, 0, none⟩) 4 4)) (W.alloc (.cells #[.int .u8 (IntKind.u8.wrap (IntKind.i64.wrap (48 + IntKind.i64.wrap (a.tdiv 1000)))), .int .u8 (IntKind.u8.wrap (IntKind.i64.wrap (48 + (IntKind.i64.wrap (a.tdiv 100)).tmod 10))), .int .u8 (IntKind.u8.wrap (IntKind.i64.wrap (48 + (IntKind.i64.wrap (a.tdiv 10)).tmod 10))), .int .u8 (IntKind.u8.wrap (IntKind.i64.wrap (48 + a.tmod 10)))] 5)) =
      .ok (.string (padB n 4)) (W.alloc (.cells #[.int .u8 (IntKind.u8.wrap (IntKind.i64.wrap (48 + IntKind.i64.wrap (a.tdiv 1000)))), .int .u8 (IntKind.u8.wrap (IntKind.i64.wrap (48 + (IntKind.i64.wrap (a.tdiv 100)).tmod 10))), .int .u8 (IntKind.u8.wrap (IntKind.i64.wrap (48 + (IntKind.i64.wrap (a.tdiv 10)).tmod 10))), .int .u8 (IntKind.u8.wrap (IntKind.i64.wrap (48 + a.tmod 10)))] 5)) := by
  have w64 : ∀ x : Int, 0 ≤ x → x ≤ 100000 → IntKind.i64.wrap x = x := fun x h1 h2 => by rw [IntKind.wrap_i64]; omega
  have w8 : ∀ x : Int, 0 ≤ x → x ≤ 255 → IntKind.u8.wrap x = x := fun x h1 h2 => by
    show (if (false && decide (x % (2 ^ 8 : Int) ≥ (2 ^ 7 : Int))) = true then x % (2 ^ 8 : Int) - (2 ^ 8 : Int) else x % (2 ^ 8 : Int)) = x
    rw [if_neg (by simp)]
    omega
  have d : ∀ k : Int, a.tdiv k = a / k := fun k => Int.tdiv_eq_ediv_of_nonneg (by omega)
  have m : ∀ x : Int, 0 ≤ x → x.tmod 10 = x % 10 := fun x h => Int.tmod_eq_emod_of_nonneg h
  have e0 : IntKind.u8.wrap (IntKind.i64.wrap (48 + IntKind.i64.wrap (a.tdiv 1000))) = 48 + a / 1000 := by rw [d 1000, w64 (a / 1000) (by omega) (by omega), w64 (48 + a / 1000) (by omega) (by omega), w8 _ (by omega) (by omega)]
  have e1 : IntKind.u8.wrap (IntKind.i64.wrap (48 + (IntKind.i64.wrap (a.tdiv 100)).tmod 10)) = 48 + a / 100 % 10 := by rw [d 100, w64 (a / 100) (by omega) (by omega), m _ (by omega), w64 (48 + a / 100 % 10) (by omega) (by omega), w8 _ (by omega) (by omega)]
  have e2 : IntKind.u8.wrap (IntKind.i64.wrap (48 + (IntKind.i64.wrap (a.tdiv 10)).tmod 10)) = 48 + a / 10 % 10 := by rw [d 10, w64 (a / 10) (by omega) (by omega), m _ (by omega), w64 (48 + a / 10 % 10) (by omega) (by omega), w8 _ (by omega) (by omega)]
  have e3 : IntKind.u8.wrap (IntKind.i64.wrap (48 + a.tmod 10)) = 48 + a % 10 := by rw [m _ (by omega), w64 (48 + a % 10) (by omega) (by omega), w8 _ (by omega) (by omega)]
  rw [e0, e1, e2, e3]
  exact year_bytes a n ha hn W

theorem jan_text (F : ByteArray) (l : List UInt8) (hF : F.data.toList = l) :
    (((⟨#[49, 32, 74, 97, 110, 32]⟩ : ByteArray) ++ F) ++ ⟨#[32, 48, 48, 58, 48, 48, 58, 48, 48]⟩).data.toList = janL l := by
  rw [app_list, app_list, hF]
  rfl

theorem secs_jan (y : Int) : secs y 1 1 0 0 0 = 86400 * ys y := by
  unfold secs dayNum
  rw [ms_one]
  omega

theorem jan_range (y : Int) (h1 : 1 ≤ y) (h2 : y ≤ 9999) : -62135596800 ≤ secs y 1 1 0 0 0 ∧ secs y 1 1 0 0 0 ≤ 253402300799 := (show Shows (secs y 1 1 0 0 0) y 1 1 0 0 0 from ⟨isClock_jan y h1 h2, rfl⟩).within

theorem jan_neg (y : Int) (h : y < 1970) : secs y 1 1 0 0 0 < 0 := by
  rw [secs_jan]
  have a := ys_mono (show y + 1 ≤ 1970 by omega)
  have b := ys_succ y
  have c := long_pos y
  rw [ys_1970] at a
  omega

theorem jan_pos (y : Int) (h : 1970 ≤ y) : 0 ≤ secs y 1 1 0 0 0 := by
  rw [secs_jan]
  have a := ys_mono h
  rw [ys_1970] at a
  omega

theorem jan_iso (y : Nat) (h1 : 1970 ≤ y) (h2 : y ≤ 9999) : IsIso (secs y 1 1 0 0 0) ⟨(isoL y 1 1 0 0 0).toArray⟩ :=
  ⟨y, 1, 1, 0, 0, 0, ⟨isClock_jan y (by omega) (by omega), rfl⟩, jan_pos y (by omega), rfl⟩

theorem iso_parts (y : Nat) (S : ByteArray) (hS : S = ⟨(isoL y 1 1 0 0 0).toArray⟩) : S.size = 20 ∧ S.extract 0 4 = padB y 4 ∧ S.extract 4 20 = ⟨#[45, 48, 49, 45, 48, 49, 84, 48, 48, 58, 48, 48, 58, 48, 48, 90]⟩ := by
  obtain ⟨p0, p1, _⟩ := iso_pieces y 1 1 0 0 0
  have hl : S.data.toList = isoL y 1 1 0 0 0 := by rw [hS]
  refine ⟨by rw [← list_len, hl]; exact p0, ?_, ?_⟩
  · apply ba_ext
    rw [extract_list, hl, padB_list]
    exact p1
  · apply ba_ext
    rw [extract_list, hl]
    simp [isoL, hmsL, padK]

theorem bel_alloc {w W : World} (o : Obj) (h : Below w.heap.size w W) : Below w.heap.size w (W.alloc o) := h.alloc h.size o

theorem alive_on {w W : World} (hT : DTabs w) (h : Below w.heap.size w W) : Calls Tryd.prog 10 #[] W fun e w' => e = .returned (.bool true) ∧ Below w.heap.size w w' :=
  (alive_any W (hT.keep h)).mono fun e w' ⟨a, b⟩ => ⟨a, chain h b⟩

/-- What the two texts tell. -/
theorem years_case (n : Nat) (hn : n ≤ 9999) (i4 i2 : Int) (b4 b2 : Bool) (h4 : cookieL (janL (padK n 4)) = (i4, b4)) (h2 : cookieL (janL (padK n 2)) = (i2, b2)) :
    b2 = true ∧ ((n < 70 ∧ b4 = true ∧ i4 = secs ((2000 + n : Nat) : Int) 1 1 0 0 0 ∧ i2 = i4) ∨ (70 ≤ n ∧ n < 100 ∧ b4 = true ∧ i4 = secs ((1900 + n : Nat) : Int) 1 1 0 0 0 ∧ i2 = i4) ∨
      (100 ≤ n ∧ n < 1601 ∧ b4 = false ∧ i4 = 0) ∨ (1601 ≤ n ∧ n < 1970 ∧ b4 = true ∧ i4 = secs (n : Int) 1 1 0 0 0) ∨ (1970 ≤ n ∧ b4 = true ∧ i4 = secs (n : Int) 1 1 0 0 0)) := by
  rw [cookie_jan _ (padK_all n 4) (by rw [padK_len]; decide) (by rw [padK_len]; decide), pad_at n 4 (by omega)] at h4
  rw [cookie_jan _ (padK_all n 2) (by rw [padK_len]; decide) (by rw [padK_len]; decide), valN_pad] at h2
  have e2 : yearOf ((n % 10 ^ 2 : Nat) : Int) = if n % 100 < 70 then ((2000 + n % 100 : Nat) : Int) else ((1900 + n % 100 : Nat) : Int) := by
    unfold yearOf
    by_cases h : n % 100 < 70
    · rw [if_neg (by omega), if_pos (by omega), if_pos h]; omega
    · rw [if_pos (by omega), if_neg h]; omega
  have hy2 : 1601 ≤ yearOf ((n % 10 ^ 2 : Nat) : Int) := by rw [e2]; split <;> omega
  rw [if_pos hy2] at h2
  injection h2 with h2a h2b
  refine ⟨h2b.symm, ?_⟩
  by_cases c1 : n < 70
  · have e : yearOf (n : Int) = ((2000 + n : Nat) : Int) := by unfold yearOf; rw [if_neg (by omega), if_pos (by omega)]; omega
    rw [e, if_pos (by omega)] at h4
    injection h4 with h4a h4b
    rw [e2, if_pos (by omega), Nat.mod_eq_of_lt (by omega)] at h2a
    exact .inl ⟨c1, h4b.symm, h4a.symm, by rw [← h2a, h4a]⟩
  by_cases c2 : n < 100
  · have e : yearOf (n : Int) = ((1900 + n : Nat) : Int) := by unfold yearOf; rw [if_pos (by omega)]; omega
    rw [e, if_pos (by omega)] at h4
    injection h4 with h4a h4b
    rw [e2, if_neg (by omega), Nat.mod_eq_of_lt (by omega)] at h2a
    exact .inr (.inl ⟨by omega, c2, h4b.symm, h4a.symm, by rw [← h2a, h4a]⟩)
  have e : yearOf (n : Int) = (n : Int) := by unfold yearOf; rw [if_neg (by omega), if_neg (by omega)]
  rw [e] at h4
  by_cases c3 : n < 1601
  · rw [if_neg (by omega)] at h4
    injection h4 with h4a h4b
    exact .inr (.inr (.inl ⟨by omega, c3, h4b.symm, h4a.symm⟩))
  rw [if_pos (by omega)] at h4
  injection h4 with h4a h4b
  by_cases c4 : n < 1970
  · exact .inr (.inr (.inr (.inl ⟨by omega, c4, h4b.symm, h4a.symm⟩)))
  · exact .inr (.inr (.inr (.inr ⟨by omega, h4b.symm, h4a.symm⟩)))

set_option maxRecDepth 100000 in
set_option maxHeartbeats 1600000 in
theorem walk (a0 : Int) (w0 : (Lit.int .i64 a0).wf = true) (w : World) (hT : Tabs w) :
    Calls Tryd.prog 9 #[.int .i64 a0] w fun e w' => e = .returned (.bool true) ∧ Below w.heap.size w w' := by
  obtain ⟨l0, u0⟩ := bounds_i64 w0
  clear w0
  have HT0 : Hid (DTabs w) := hT
  by_cases hlo : a0 < 0
  · go_enter Tryd.func9, Tryd.ntmps9
    go_wp2_with fail
    with_reducible refine (alive_any _ hT).mono ?_
    rintro _ w1 ⟨rfl, hb1⟩
    replace hT := hT.keep hb1
    clear hT
    go_wp2
    go_ret
    exact ⟨rfl, hb1⟩
  by_cases hhi : 9999 < a0
  · go_enter Tryd.func9, Tryd.ntmps9
    go_wp2_with fail
    with_reducible refine (alive_any _ hT).mono ?_
    rintro _ w1 ⟨rfl, hb1⟩
    replace hT := hT.keep hb1
    clear hT
    go_wp2
    go_ret
    exact ⟨rfl, hb1⟩
  obtain ⟨n, hn⟩ : ∃ n : Nat, a0 = (n : Int) := ⟨a0.toNat, by omega⟩
  have hn9 : n ≤ 9999 := by omega
  have hcv := year_bytes a0 n hn hn9
  obtain ⟨F, hF⟩ : ∃ F, F = padB n 4 := ⟨_, rfl⟩
  rw [← hF] at hcv
  have hz4 : F.size = 4 := by rw [hF, padB_size]
  have hFL : F.data.toList = padK n 4 := by rw [hF, padB_list]
  have hGL : (F.extract 2 4).data.toList = padK n 2 := by rw [extract_list, hFL]; simp [padK]
  have hz2 : (F.extract 2 4).size = 2 := by rw [← list_len, hGL, padK_len]
  obtain ⟨i4, b4, h4⟩ : ∃ i b, cookieL (janL (padK n 4)) = (i, b) := ⟨_, _, rfl⟩
  obtain ⟨i2, b2, h2⟩ : ∃ i b, cookieL (janL (padK n 2)) = (i, b) := ⟨_, _, rfl⟩
  obtain ⟨hb2t, hcase⟩ := years_case n hn9 i4 i2 b4 b2 h4 h2
  subst hb2t
  have HC := Lib.hid (fun W => cookie_at W (i := i4) (b := b4) (s := ((⟨#[49, 32, 74, 97, 110, 32]⟩ : ByteArray) ++ F) ++ ⟨#[32, 48, 48, 58, 48, 48, 58, 48, 48]⟩) (by rw [ByteArray.size_append, ByteArray.size_append, hz4]; decide) (by rw [jan_text F _ hFL]; exact h4))
  have HD := Lib.hid (fun W => cookie_at W (i := i2) (b := true) (s := ((⟨#[49, 32, 74, 97, 110, 32]⟩ : ByteArray) ++ F.extract 2 4) ++ ⟨#[32, 48, 48, 58, 48, 48, 58, 48, 48]⟩) (by rw [ByteArray.size_append, ByteArray.size_append, hz2]; decide) (by rw [jan_text _ _ hGL]; exact h2))
  have hcas : (a0 < 70 ∧ b4 = true ∧ i4 = secs ((2000 + n : Nat) : Int) 1 1 0 0 0 ∧ i2 = i4) ∨ (¬ a0 < 70 ∧ a0 < 100 ∧ b4 = true ∧ i4 = secs ((1900 + n : Nat) : Int) 1 1 0 0 0 ∧ i2 = i4) ∨
      (¬ a0 < 100 ∧ a0 < 1601 ∧ b4 = false ∧ i4 = 0) ∨ (¬ a0 < 1601 ∧ a0 < 1970 ∧ b4 = true ∧ i4 = secs (n : Int) 1 1 0 0 0) ∨ (¬ a0 < 1970 ∧ b4 = true ∧ i4 = secs (n : Int) 1 1 0 0 0) := by
    rcases hcase with ⟨a, b⟩ | ⟨a, b, c⟩ | ⟨a, b, c⟩ | ⟨a, b, c⟩ | ⟨a, b⟩
    · exact .inl ⟨by omega, b⟩
    · exact .inr (.inl ⟨by omega, by omega, c⟩)
    · exact .inr (.inr (.inl ⟨by omega, by omega, c⟩))
    · exact .inr (.inr (.inr (.inl ⟨by omega, by omega, c⟩)))
    · exact .inr (.inr (.inr (.inr ⟨by omega, b⟩)))
  have HCASE := Lib.hid hcas
  have HN := Lib.hid hn
  have hext : F.extract 2 F.size = F.extract 2 4 := by rw [hz4]
  clear hcase hcas h4 h2 hGL hFL hF hn hn9
  go_enter Tryd.func9, Tryd.ntmps9
  have hb0 := (Below.refl w.heap.size w).alloc (Nat.le_refl _) (.cells #[.int .u8 (48 + a0 / 1000), .int .u8 (48 + a0 / 100 % 10), .int .u8 (48 + a0 / 10 % 10), .int .u8 (48 + a0 % 10)] 5)
  replace hT := hT.alloc (.cells #[.int .u8 (48 + a0 / 1000), .int .u8 (48 + a0 / 100 % 10), .int .u8 (48 + a0 / 10 % 10), .int .u8 (48 + a0 % 10)] 5)
  go_wp2_with fail
  with_reducible refine (HC.out _ hT).mono ?_
  rintro _ w1 ⟨rfl, hb⟩
  have hb1 := chain hb0 hb
  replace hT := hT.keep hb
  clear hb hb0
  clear hcv HC
  go_wp2_with fail
  with_reducible refine (HD.out _ hT).mono ?_
  rintro _ w2 ⟨rfl, hb⟩
  have hb2 := chain hb1 hb
  replace hT := hT.keep hb
  clear hb hb1
  clear hext HD
  rcases HCASE.out with ⟨g1, hb4, hi, he⟩ | ⟨g1, g2, hb4, hi, he⟩ | ⟨g1, g2, hb4, hi⟩ | ⟨g1, g2, hb4, hi⟩ | ⟨g1, hb4, hi⟩
  · have hn := HN.out
    have g0 : a0 < 100 := by omega
    subst hb4
    replace he := he.symm
    subst he
    have hip : 0 ≤ i4 := by rw [hi]; exact jan_pos _ (by omega)
    obtain ⟨S, hS⟩ : ∃ S : ByteArray, S = ⟨(isoL (2000 + n) 1 1 0 0 0).toArray⟩ := ⟨_, rfl⟩
    have HS : Hid (IsIso i4 S) := by show IsIso _ _; rw [hi, hS]; exact jan_iso (2000 + n) (by omega) (by omega)
    obtain ⟨p1, p2, p3⟩ := iso_parts (2000 + n) S hS
    have hyb := year_raw (2000 + a0) (2000 + n) (by omega) (by omega)
    obtain ⟨P, hP⟩ : ∃ P, P = padB (2000 + n) 4 := ⟨_, rfl⟩
    rw [← hP] at hyb p2
    have hp3 : S.extract 4 S.size = S.extract 4 20 := by rw [p1]
    have HP3 := Lib.hid p3
    have HYB := Lib.hid hyb
    have p1i : (S.size : Int) = 20 := by omega
    clear hi hS hP hyb p3 HCASE hn
    go_wp2_with fail
    with_reducible refine (iso_is i4 S _ HS.out hT).mono ?_
    rintro _ w3 ⟨rfl, hb⟩
    have hb3 := chain hb2 hb
    replace hT := hT.keep hb
    clear hb hb2
    go_wp2_with (with_reducible refine wp_halt ?_)
    refine Halt.on ?_
    have hbd := hb3.drew
    have hyb := HYB.out
    clear HYB HS HN l0 u0 hlo hhi
    refine wp_region_held_drew (S := fun W => Below w.heap.size w W) (by kernel_rfl) ?_ (fun hHeld => ?_)
    · exact hbd
    refine wpAnyH_ready (rs := [0]) (by kernel_rfl) (by simp) ?_
    refine AllReadyH.cons rfl (fun K hK => ?_) AllReadyH.nil
    go_simp
    with_reducible refine (alive_on HT0.out hHeld).mono ?_
    rintro _ w4 ⟨rfl, hS1⟩
    go_wp2_with fail
    refine hK.out _ _ hS1 (fun hHeld => ?_)
    clear hK K hS1
    try simp only [Act.put, List.setIfInBounds_toArray, List.set_cons_zero, List.set_cons_succ]
    refine wpAnyH_take (i := 1) (oi := ?po1) (v := ?pv1) ?ph1 ?pa1 ?pb1 ?pc1 ?pe1 ?pd1 hHeld ?pr1
    case ph1 => (simp only [List.getElem?_toArray, List.getElem?_cons_succ, List.getElem?_cons_zero]; rfl)
    case pa1 => kernel_rfl
    case pb1 => kernel_rfl
    case pc1 => kernel_rfl
    case pe1 => exact fun _ _ _ h => h
    case pd1 => (refine Or.inl ⟨by rfl, ?_⟩; intro w hSw; (try dsimp only at hSw); go_simp; try with_reducible rfl)
    try simp only [Act.put, List.setIfInBounds_toArray, List.set_cons_zero, List.set_cons_succ]
    refine wpAnyH_take (i := 2) (oi := ?po2) (v := ?pv2) ?ph2 ?pa2 ?pb2 ?pc2 ?pe2 ?pd2 hHeld ?pr2
    case ph2 => (simp only [List.getElem?_toArray, List.getElem?_cons_succ, List.getElem?_cons_zero]; rfl)
    case pa2 => kernel_rfl
    case pb2 => kernel_rfl
    case pc2 => kernel_rfl
    case pe2 => exact fun _ _ _ h => h
    case pd2 => (refine Or.inl ⟨by rfl, ?_⟩; intro w hSw; (try dsimp only at hSw); go_simp; try with_reducible rfl)
    try simp only [Act.put, List.setIfInBounds_toArray, List.set_cons_zero, List.set_cons_succ]
    refine wpAnyH_take (i := 3) (oi := ?po3) (v := ?pv3) ?ph3 ?pa3 ?pb3 ?pc3 ?pe3 ?pd3 hHeld ?pr3
    case ph3 => (simp only [List.getElem?_toArray, List.getElem?_cons_succ, List.getElem?_cons_zero]; rfl)
    case pa3 => kernel_rfl
    case pb3 => kernel_rfl
    case pc3 => kernel_rfl
    case pe3 => exact fun _ _ _ h => h
    case pd3 => (refine Or.inl ⟨by rfl, ?_⟩; intro w hSw; (try dsimp only at hSw); go_simp; try with_reducible rfl)
    try simp only [Act.put, List.setIfInBounds_toArray, List.set_cons_zero, List.set_cons_succ]
    refine wpAnyH_take (i := 4) (oi := ?po4) (v := ?pv4) ?ph4 ?pa4 ?pb4 ?pc4 ?pe4 ?pd4 hHeld ?pr4
    case ph4 => (simp only [List.getElem?_toArray, List.getElem?_cons_succ, List.getElem?_cons_zero]; rfl)
    case pa4 => kernel_rfl
    case pb4 => kernel_rfl
    case pc4 => kernel_rfl
    case pe4 => exact fun _ _ _ h => h
    case pd4 => (refine Or.inl ⟨by rfl, ?_⟩; intro w hSw; (try dsimp only at hSw); go_simp; try with_reducible rfl)
    try simp only [Act.put, List.setIfInBounds_toArray, List.set_cons_zero, List.set_cons_succ]
    refine wpAnyH_take (i := 5) (oi := ?po5) (v := ?pv5) ?ph5 ?pa5 ?pb5 ?pc5 ?pe5 ?pd5 hHeld ?pr5
    case ph5 => (simp only [List.getElem?_toArray, List.getElem?_cons_succ, List.getElem?_cons_zero]; rfl)
    case pa5 => kernel_rfl
    case pb5 => kernel_rfl
    case pc5 => kernel_rfl
    case pe5 => exact fun _ _ _ h => h
    case pd5 => (refine Or.inl ⟨by rfl, ?_⟩; intro w hSw; (try dsimp only at hSw); go_simp; try with_reducible rfl)
    try simp only [Act.put, List.setIfInBounds_toArray, List.set_cons_zero, List.set_cons_succ]
    refine wpAnyH_take (i := 6) (oi := ?po6) (v := ?pv6) ?ph6 ?pa6 ?pb6 ?pc6 ?pe6 ?pd6 hHeld ?pr6
    case ph6 => (simp only [List.getElem?_toArray, List.getElem?_cons_succ, List.getElem?_cons_zero]; rfl)
    case pa6 => kernel_rfl
    case pb6 => kernel_rfl
    case pc6 => kernel_rfl
    case pe6 => exact fun _ _ _ h => h
    case pd6 => (refine Or.inl ⟨by rfl, ?_⟩; intro w hSw; (try dsimp only at hSw); go_simp; try with_reducible rfl)
    try simp only [Act.put, List.setIfInBounds_toArray, List.set_cons_zero, List.set_cons_succ]
    refine wpAnyH_take (i := 7) (oi := ?po7) (v := ?pv7) ?ph7 ?pa7 ?pb7 ?pc7 ?pe7 ?pd7 hHeld ?pr7
    case ph7 => (simp only [List.getElem?_toArray, List.getElem?_cons_succ, List.getElem?_cons_zero]; rfl)
    case pa7 => kernel_rfl
    case pb7 => kernel_rfl
    case pc7 => kernel_rfl
    case pe7 => exact fun _ _ _ h => h
    case pd7 => (refine Or.inl ⟨by rfl, ?_⟩; intro w hSw; (try dsimp only at hSw); go_simp; try with_reducible rfl)
    try simp only [Act.put, List.setIfInBounds_toArray, List.set_cons_zero, List.set_cons_succ]
    refine wpAnyH_take (i := 8) (oi := ?po8) (v := ?pv8) ?ph8 ?pa8 ?pb8 ?pc8 ?pe8 ?pd8 hHeld ?pr8
    case ph8 => (simp only [List.getElem?_toArray, List.getElem?_cons_succ, List.getElem?_cons_zero]; rfl)
    case pa8 => kernel_rfl
    case pb8 => kernel_rfl
    case pc8 => kernel_rfl
    case pe8 => exact fun _ _ _ h => h
    case pd8 => (refine Or.inl ⟨by rfl, ?_⟩; intro w hSw; (try dsimp only at hSw); go_simp; try with_reducible rfl)
    try simp only [Act.put, List.setIfInBounds_toArray, List.set_cons_zero, List.set_cons_succ]
    refine wpAnyH_take (i := 9) (oi := ?po9) (v := ?pv9) ?ph9 ?pa9 ?pb9 ?pc9 ?pe9 ?pd9 hHeld ?pr9
    case ph9 => (simp only [List.getElem?_toArray, List.getElem?_cons_succ, List.getElem?_cons_zero]; rfl)
    case pa9 => kernel_rfl
    case pb9 => kernel_rfl
    case pc9 => kernel_rfl
    case pe9 => exact fun _ _ _ h => h
    case pd9 => (refine Or.inl ⟨by rfl, ?_⟩; intro w hSw; (try dsimp only at hSw); go_simp; try with_reducible rfl)
    try simp only [Act.put, List.setIfInBounds_toArray, List.set_cons_zero, List.set_cons_succ]
    refine wpAnyH_take (i := 10) (oi := ?po10) (v := ?pv10) ?ph10 ?pa10 ?pb10 ?pc10 ?pe10 ?pd10 hHeld ?pr10
    case ph10 => (simp only [List.getElem?_toArray, List.getElem?_cons_succ, List.getElem?_cons_zero]; rfl)
    case pa10 => kernel_rfl
    case pb10 => kernel_rfl
    case pc10 => kernel_rfl
    case pe10 => exact fun _ _ _ h => h
    case pd10 => (refine Or.inl ⟨by rfl, ?_⟩; intro w hSw; (try dsimp only at hSw); go_simp; try with_reducible rfl)
    try simp only [Act.put, List.setIfInBounds_toArray, List.set_cons_zero, List.set_cons_succ]
    refine wpAnyH_take (i := 11) (oi := ?po11) (v := ?pv11) ?ph11 ?pa11 ?pb11 ?pc11 ?pe11 ?pd11 hHeld ?pr11
    case ph11 => (simp only [List.getElem?_toArray, List.getElem?_cons_succ, List.getElem?_cons_zero]; rfl)
    case pa11 => kernel_rfl
    case pb11 => kernel_rfl
    case pc11 => kernel_rfl
    case pe11 => exact fun _ _ _ h => h
    case pd11 => (refine Or.inl ⟨by rfl, ?_⟩; intro w hSw; (try dsimp only at hSw); go_simp; try with_reducible rfl)
    try simp only [Act.put, List.setIfInBounds_toArray, List.set_cons_zero, List.set_cons_succ]
    refine wpAnyH_take (i := 12) (oi := ?po12) (v := ?pv12) ?ph12 ?pa12 ?pb12 ?pc12 ?pe12 ?pd12 hHeld ?pr12
    case ph12 => (simp only [List.getElem?_toArray, List.getElem?_cons_succ, List.getElem?_cons_zero]; rfl)
    case pa12 => kernel_rfl
    case pb12 => kernel_rfl
    case pc12 => kernel_rfl
    case pe12 => exact fun _ _ _ h => h
    case pd12 => (refine Or.inl ⟨by rfl, ?_⟩; intro w hSw; (try dsimp only at hSw); go_simp; try with_reducible rfl)
    try simp only [Act.put, List.setIfInBounds_toArray, List.set_cons_zero, List.set_cons_succ]
    refine wpAnyH_take (i := 13) (oi := ?po13) (v := ?pv13) ?ph13 ?pa13 ?pb13 ?pc13 ?pe13 ?pd13 hHeld ?pr13
    case ph13 => (simp only [List.getElem?_toArray, List.getElem?_cons_succ, List.getElem?_cons_zero]; rfl)
    case pa13 => kernel_rfl
    case pb13 => kernel_rfl
    case pc13 => kernel_rfl
    case pe13 => exact fun _ _ _ h => h
    case pd13 => (refine Or.inl ⟨by rfl, ?_⟩; intro w hSw; (try dsimp only at hSw); go_simp; try with_reducible rfl)
    try simp only [Act.put, List.setIfInBounds_toArray, List.set_cons_zero, List.set_cons_succ]
    refine wpAnyH_take (i := 14) (oi := ?po14) (v := ?pv14) ?ph14 ?pa14 ?pb14 ?pc14 ?pe14 ?pd14 hHeld ?pr14
    case ph14 => (simp only [List.getElem?_toArray, List.getElem?_cons_succ, List.getElem?_cons_zero]; rfl)
    case pa14 => kernel_rfl
    case pb14 => kernel_rfl
    case pc14 => kernel_rfl
    case pe14 => exact fun _ _ _ h => h
    case pd14 => (refine Or.inl ⟨by rfl, ?_⟩; intro w hSw; (try dsimp only at hSw); go_simp; try with_reducible rfl)
    try simp only [Act.put, List.setIfInBounds_toArray, List.set_cons_zero, List.set_cons_succ]
    refine wpAnyH_take (i := 15) (oi := ?po15) (v := ?pv15) ?ph15 ?pa15 ?pb15 ?pc15 ?pe15 ?pd15 hHeld ?pr15
    case ph15 => (simp only [List.getElem?_toArray, List.getElem?_cons_succ, List.getElem?_cons_zero]; rfl)
    case pa15 => kernel_rfl
    case pb15 => kernel_rfl
    case pc15 => kernel_rfl
    case pe15 => exact fun _ _ _ h => h
    case pd15 => (refine Or.inl ⟨by rfl, ?_⟩; intro w hSw; (try dsimp only at hSw); go_simp; try with_reducible rfl)
    try simp only [Act.put, List.setIfInBounds_toArray, List.set_cons_zero, List.set_cons_succ]
    refine wpAnyH_take (i := 16) (oi := ?po16) (v := ?pv16) ?ph16 ?pa16 ?pb16 ?pc16 ?pe16 ?pd16 hHeld ?pr16
    case ph16 => (simp only [List.getElem?_toArray, List.getElem?_cons_succ, List.getElem?_cons_zero]; rfl)
    case pa16 => kernel_rfl
    case pb16 => kernel_rfl
    case pc16 => kernel_rfl
    case pe16 => exact fun _ _ _ h => h
    case pd16 => (refine Or.inl ⟨by rfl, ?_⟩; intro w hSw; (try dsimp only at hSw); go_simp; try with_reducible rfl)
    try simp only [Act.put, List.setIfInBounds_toArray, List.set_cons_zero, List.set_cons_succ]
    refine wpAnyH_take (i := 17) (oi := ?po17) (v := ?pv17) ?ph17 ?pa17 ?pb17 ?pc17 ?pe17 ?pd17 hHeld ?pr17
    case ph17 => (simp only [List.getElem?_toArray, List.getElem?_cons_succ, List.getElem?_cons_zero]; rfl)
    case pa17 => kernel_rfl
    case pb17 => kernel_rfl
    case pc17 => kernel_rfl
    case pe17 => exact fun _ _ _ h => h
    case pd17 => (refine Or.inl ⟨by rfl, ?_⟩; intro w hSw; (try dsimp only at hSw); go_simp; try with_reducible rfl)
    try simp only [Act.put, List.setIfInBounds_toArray, List.set_cons_zero, List.set_cons_succ]
    refine wpAnyH_take (i := 18) (oi := ?po18) (v := ?pv18) ?ph18 ?pa18 ?pb18 ?pc18 ?pe18 ?pd18 hHeld ?pr18
    case ph18 => (simp only [List.getElem?_toArray, List.getElem?_cons_succ, List.getElem?_cons_zero]; rfl)
    case pa18 => kernel_rfl
    case pb18 => kernel_rfl
    case pc18 => kernel_rfl
    case pe18 => exact fun _ _ _ h => h
    case pd18 => (refine Or.inl ⟨by rfl, ?_⟩; intro w hSw; (try dsimp only at hSw); go_simp; try with_reducible rfl)
    try simp only [Act.put, List.setIfInBounds_toArray, List.set_cons_zero, List.set_cons_succ]
    refine wpAnyH_take (i := 19) (oi := ?po19) (v := ?pv19) ?ph19 ?pa19 ?pb19 ?pc19 ?pe19 ?pd19 hHeld ?pr19
    case ph19 => (simp only [List.getElem?_toArray, List.getElem?_cons_succ, List.getElem?_cons_zero]; rfl)
    case pa19 => kernel_rfl
    case pb19 => kernel_rfl
    case pc19 => kernel_rfl
    case pe19 => exact fun _ _ _ h => h
    case pd19 => (refine Or.inl ⟨by rfl, ?_⟩; intro w hSw; (try dsimp only at hSw); go_simp; try with_reducible rfl)
    try simp only [Act.put, List.setIfInBounds_toArray, List.set_cons_zero, List.set_cons_succ]
    refine wpAnyH_take (i := 20) (oi := ?po20) (v := ?pv20) ?ph20 ?pa20 ?pb20 ?pc20 ?pe20 ?pd20 hHeld ?pr20
    case ph20 => (simp only [List.getElem?_toArray, List.getElem?_cons_succ, List.getElem?_cons_zero]; rfl)
    case pa20 => kernel_rfl
    case pb20 => kernel_rfl
    case pc20 => kernel_rfl
    case pe20 => exact fun _ _ _ h => h
    case pd20 => (refine Or.inl ⟨by rfl, ?_⟩; intro w hSw; (try dsimp only at hSw); go_simp; try with_reducible rfl)
    try simp only [Act.put, List.setIfInBounds_toArray, List.set_cons_zero, List.set_cons_succ]
    refine wpAnyH_take (i := 21) (oi := ?po21) (v := ?pv21) ?ph21 ?pa21 ?pb21 ?pc21 ?pe21 ?pd21 hHeld ?pr21
    case ph21 => (simp only [List.getElem?_toArray, List.getElem?_cons_succ, List.getElem?_cons_zero]; rfl)
    case pa21 => kernel_rfl
    case pb21 => kernel_rfl
    case pc21 => kernel_rfl
    case pe21 => exact fun _ _ _ h => h
    case pd21 => (refine Or.inl ⟨by rfl, ?_⟩; intro w hSw; (try dsimp only at hSw); go_simp; try with_reducible rfl)
    try simp only [Act.put, List.setIfInBounds_toArray, List.set_cons_zero, List.set_cons_succ]
    refine wpAnyH_take (i := 22) (oi := ?po22) (v := ?pv22) ?ph22 ?pa22 ?pb22 ?pc22 ?pe22 ?pd22 hHeld ?pr22
    case ph22 => (simp only [List.getElem?_toArray, List.getElem?_cons_succ, List.getElem?_cons_zero]; rfl)
    case pa22 => kernel_rfl
    case pb22 => kernel_rfl
    case pc22 => kernel_rfl
    case pe22 => exact fun _ _ _ h => h
    case pd22 => (refine Or.inl ⟨by rfl, ?_⟩; intro w hSw; (try dsimp only at hSw); go_simp; try with_reducible rfl)
    try simp only [Act.put, List.setIfInBounds_toArray, List.set_cons_zero, List.set_cons_succ]
    refine wpAnyH_take (i := 23) (oi := ?po23) (v := ?pv23) ?ph23 ?pa23 ?pb23 ?pc23 ?pe23 ?pd23 hHeld ?pr23
    case ph23 => (simp only [List.getElem?_toArray, List.getElem?_cons_succ, List.getElem?_cons_zero]; rfl)
    case pa23 => kernel_rfl
    case pb23 => kernel_rfl
    case pc23 => kernel_rfl
    case pe23 => exact fun _ _ _ h => h
    case pd23 => (refine Or.inl ⟨by rfl, ?_⟩; intro w hSw; (try dsimp only at hSw); go_simp; try with_reducible rfl)
    try simp only [Act.put, List.setIfInBounds_toArray, List.set_cons_zero, List.set_cons_succ]
    refine wpAnyH_take (i := 24) (oi := ?po24) (v := ?pv24) ?ph24 ?pa24 ?pb24 ?pc24 ?pe24 ?pd24 hHeld ?pr24
    case ph24 => (simp only [List.getElem?_toArray, List.getElem?_cons_succ, List.getElem?_cons_zero]; rfl)
    case pa24 => kernel_rfl
    case pb24 => kernel_rfl
    case pc24 => kernel_rfl
    case pe24 => exact fun _ _ _ h => h
    case pd24 => (refine Or.inl ⟨by rfl, ?_⟩; intro w hSw; (try dsimp only at hSw); go_simp; try with_reducible rfl)
    try simp only [Act.put, List.setIfInBounds_toArray, List.set_cons_zero, List.set_cons_succ]
    refine wpAnyH_take (i := 25) (oi := ?po25) (v := ?pv25) ?ph25 ?pa25 ?pb25 ?pc25 ?pe25 ?pd25 hHeld ?pr25
    case ph25 => (simp only [List.getElem?_toArray, List.getElem?_cons_succ, List.getElem?_cons_zero]; rfl)
    case pa25 => kernel_rfl
    case pb25 => kernel_rfl
    case pc25 => kernel_rfl
    case pe25 => exact fun _ _ _ h => h
    case pd25 => (refine Or.inl ⟨by rfl, ?_⟩; intro w hSw; (try dsimp only at hSw); go_simp; try with_reducible rfl)
    try simp only [Act.put, List.setIfInBounds_toArray, List.set_cons_zero, List.set_cons_succ]
    refine wpAnyH_take (i := 26) (oi := ?po26) (v := ?pv26) ?ph26 ?pa26 ?pb26 ?pc26 ?pe26 ?pd26 hHeld ?pr26
    case ph26 => (simp only [List.getElem?_toArray, List.getElem?_cons_succ, List.getElem?_cons_zero]; rfl)
    case pa26 => kernel_rfl
    case pb26 => kernel_rfl
    case pc26 => kernel_rfl
    case pe26 => exact fun _ _ _ h => h
    case pd26 => (refine Or.inl ⟨by rfl, ?_⟩; intro w hSw; (try dsimp only at hSw); go_simp; try with_reducible rfl)
    try simp only [Act.put, List.setIfInBounds_toArray, List.set_cons_zero, List.set_cons_succ]
    refine wpAnyH_take (i := 27) (oi := ?po27) (v := ?pv27) ?ph27 ?pa27 ?pb27 ?pc27 ?pe27 ?pd27 hHeld ?pr27
    case ph27 => (simp only [List.getElem?_toArray, List.getElem?_cons_succ, List.getElem?_cons_zero]; rfl)
    case pa27 => kernel_rfl
    case pb27 => kernel_rfl
    case pc27 => kernel_rfl
    case pe27 => exact fun _ _ _ h => h
    case pd27 => (refine Or.inl ⟨by rfl, ?_⟩; intro w hSw; (try dsimp only at hSw); go_simp; try with_reducible rfl)
    try simp only [Act.put, List.setIfInBounds_toArray, List.set_cons_zero, List.set_cons_succ]
    refine wpAnyH_take (i := 28) (oi := ?po28) (v := ?pv28) ?ph28 ?pa28 ?pb28 ?pc28 ?pe28 ?pd28 hHeld ?pr28
    case ph28 => (simp only [List.getElem?_toArray, List.getElem?_cons_succ, List.getElem?_cons_zero]; rfl)
    case pa28 => kernel_rfl
    case pb28 => kernel_rfl
    case pc28 => kernel_rfl
    case pe28 => exact fun _ _ _ h => h
    case pd28 => (refine Or.inl ⟨by rfl, ?_⟩; intro w hSw; (try dsimp only at hSw); go_simp; try with_reducible rfl)
    try simp only [Act.put, List.setIfInBounds_toArray, List.set_cons_zero, List.set_cons_succ]
    refine wpAnyH_take (i := 29) (oi := ?po29) (v := ?pv29) ?ph29 ?pa29 ?pb29 ?pc29 ?pe29 ?pd29 hHeld ?pr29
    case ph29 => (simp only [List.getElem?_toArray, List.getElem?_cons_succ, List.getElem?_cons_zero]; rfl)
    case pa29 => kernel_rfl
    case pb29 => kernel_rfl
    case pc29 => kernel_rfl
    case pe29 => exact fun _ _ _ h => h
    case pd29 => (refine Or.inl ⟨by rfl, ?_⟩; intro w hSw; (try dsimp only at hSw); go_simp; try with_reducible rfl)
    try simp only [Act.put, List.setIfInBounds_toArray, List.set_cons_zero, List.set_cons_succ]
    refine wpAnyH_ready (rs := [30]) (by kernel_rfl) (by simp) ?_
    refine AllReadyH.cons rfl (fun K hK => ?_) AllReadyH.nil
    go_simp
    refine hK.out _ _ (by first | exact hHeld | exact bel_alloc _ hHeld) (fun hHeld => ?_)
    clear hK K
    try simp only [Act.put, List.setIfInBounds_toArray, List.set_cons_zero, List.set_cons_succ]
    refine wpAnyH_ready (rs := [31]) (by kernel_rfl) (by simp) ?_
    refine AllReadyH.cons rfl (fun K hK => ?_) AllReadyH.nil
    go_simp
    refine hK.out _ _ (by first | exact hHeld | exact bel_alloc _ hHeld) (fun hHeld => ?_)
    clear hK K
    try simp only [Act.put, List.setIfInBounds_toArray, List.set_cons_zero, List.set_cons_succ]
    refine wpAnyH_take (i := 32) (oi := ?po32) (v := ?pv32) ?ph32 ?pa32 ?pb32 ?pc32 ?pe32 ?pd32 hHeld ?pr32
    case ph32 => (simp only [List.getElem?_toArray, List.getElem?_cons_succ, List.getElem?_cons_zero]; rfl)
    case pa32 => kernel_rfl
    case pb32 => kernel_rfl
    case pc32 => kernel_rfl
    case pe32 => exact fun _ _ _ h => h
    case pd32 => (refine Or.inl ⟨by rfl, ?_⟩; intro w hSw; (try dsimp only at hSw); go_simp; try with_reducible rfl)
    try simp only [Act.put, List.setIfInBounds_toArray, List.set_cons_zero, List.set_cons_succ]
    refine wpAnyH_take (i := 33) (oi := ?po33) (v := ?pv33) ?ph33 ?pa33 ?pb33 ?pc33 ?pe33 ?pd33 hHeld ?pr33
    case ph33 => (simp only [List.getElem?_toArray, List.getElem?_cons_succ, List.getElem?_cons_zero]; rfl)
    case pa33 => kernel_rfl
    case pb33 => kernel_rfl
    case pc33 => kernel_rfl
    case pe33 => exact fun _ _ _ h => h
    case pd33 => (refine Or.inl ⟨by rfl, ?_⟩; intro w hSw; (try dsimp only at hSw); go_simp; try with_reducible rfl)
    try simp only [Act.put, List.setIfInBounds_toArray, List.set_cons_zero, List.set_cons_succ]
    refine wpAnyH_take (i := 34) (oi := ?po34) (v := ?pv34) ?ph34 ?pa34 ?pb34 ?pc34 ?pe34 ?pd34 hHeld ?pr34
    case ph34 => (simp only [List.getElem?_toArray, List.getElem?_cons_succ, List.getElem?_cons_zero]; rfl)
    case pa34 => kernel_rfl
    case pb34 => kernel_rfl
    case pc34 => kernel_rfl
    case pe34 => exact fun _ _ _ h => h
    case pd34 => (refine Or.inl ⟨by rfl, ?_⟩; intro w hSw; (try dsimp only at hSw); go_simp; try with_reducible rfl)
    try simp only [Act.put, List.setIfInBounds_toArray, List.set_cons_zero, List.set_cons_succ]
    refine wpAnyH_take (i := 35) (oi := ?po35) (v := ?pv35) ?ph35 ?pa35 ?pb35 ?pc35 ?pe35 ?pd35 hHeld ?pr35
    case ph35 => (simp only [List.getElem?_toArray, List.getElem?_cons_succ, List.getElem?_cons_zero]; rfl)
    case pa35 => kernel_rfl
    case pb35 => kernel_rfl
    case pc35 => kernel_rfl
    case pe35 => exact fun _ _ _ h => h
    case pd35 => (refine Or.inl ⟨by rfl, ?_⟩; intro w hSw; (try dsimp only at hSw); go_simp; try with_reducible rfl)
    try simp only [Act.put, List.setIfInBounds_toArray, List.set_cons_zero, List.set_cons_succ]
    refine wpAnyH_take (i := 36) (oi := ?po36) (v := ?pv36) ?ph36 ?pa36 ?pb36 ?pc36 ?pe36 ?pd36 hHeld ?pr36
    case ph36 => (simp only [List.getElem?_toArray, List.getElem?_cons_succ, List.getElem?_cons_zero]; rfl)
    case pa36 => kernel_rfl
    case pb36 => kernel_rfl
    case pc36 => kernel_rfl
    case pe36 => exact fun _ _ _ h => h
    case pd36 => (refine Or.inl ⟨by rfl, ?_⟩; intro w hSw; (try dsimp only at hSw); go_simp; try with_reducible rfl)
    try simp only [Act.put, List.setIfInBounds_toArray, List.set_cons_zero, List.set_cons_succ]
    refine wpAnyH_take (i := 37) (oi := ?po37) (v := ?pv37) ?ph37 ?pa37 ?pb37 ?pc37 ?pe37 ?pd37 hHeld ?pr37
    case ph37 => (simp only [List.getElem?_toArray, List.getElem?_cons_succ, List.getElem?_cons_zero]; rfl)
    case pa37 => kernel_rfl
    case pb37 => kernel_rfl
    case pc37 => kernel_rfl
    case pe37 => exact fun _ _ _ h => h
    case pd37 => (refine Or.inl ⟨by rfl, ?_⟩; intro w hSw; (try dsimp only at hSw); go_simp; try with_reducible rfl)
    try simp only [Act.put, List.setIfInBounds_toArray, List.set_cons_zero, List.set_cons_succ]
    refine wpAnyH_take (i := 38) (oi := ?po38) (v := ?pv38) ?ph38 ?pa38 ?pb38 ?pc38 ?pe38 ?pd38 hHeld ?pr38
    case ph38 => (simp only [List.getElem?_toArray, List.getElem?_cons_succ, List.getElem?_cons_zero]; rfl)
    case pa38 => kernel_rfl
    case pb38 => kernel_rfl
    case pc38 => kernel_rfl
    case pe38 => exact fun _ _ _ h => h
    case pd38 => (refine Or.inl ⟨by rfl, ?_⟩; intro w hSw; (try dsimp only at hSw); go_simp; try with_reducible rfl)
    try simp only [Act.put, List.setIfInBounds_toArray, List.set_cons_zero, List.set_cons_succ]
    refine wpAnyH_take (i := 39) (oi := ?po39) (v := ?pv39) ?ph39 ?pa39 ?pb39 ?pc39 ?pe39 ?pd39 hHeld ?pr39
    case ph39 => (simp only [List.getElem?_toArray, List.getElem?_cons_succ, List.getElem?_cons_zero]; rfl)
    case pa39 => kernel_rfl
    case pb39 => kernel_rfl
    case pc39 => kernel_rfl
    case pe39 => exact fun _ _ _ h => h
    case pd39 => (refine Or.inl ⟨by rfl, ?_⟩; intro w hSw; (try dsimp only at hSw); go_simp; try with_reducible rfl)
    try simp only [Act.put, List.setIfInBounds_toArray, List.set_cons_zero, List.set_cons_succ]
    refine wpAnyH_done (by kernel_rfl) ?_ _
    go_wp2
    go_ret
    refine ⟨by first | rfl | exact ret_bool (by rw [HP3.out, ByteArray.toList_eq]; rfl), ?_⟩
    assumption
  · have hn := HN.out
    subst hb4
    replace he := he.symm
    subst he
    have hip : 0 ≤ i4 := by rw [hi]; exact jan_pos _ (by omega)
    obtain ⟨S, hS⟩ : ∃ S : ByteArray, S = ⟨(isoL (1900 + n) 1 1 0 0 0).toArray⟩ := ⟨_, rfl⟩
    have HS : Hid (IsIso i4 S) := by show IsIso _ _; rw [hi, hS]; exact jan_iso (1900 + n) (by omega) (by omega)
    obtain ⟨p1, p2, p3⟩ := iso_parts (1900 + n) S hS
    have hyb := year_raw (1900 + a0) (1900 + n) (by omega) (by omega)
    obtain ⟨P, hP⟩ : ∃ P, P = padB (1900 + n) 4 := ⟨_, rfl⟩
    rw [← hP] at hyb p2
    have hp3 : S.extract 4 S.size = S.extract 4 20 := by rw [p1]
    have HP3 := Lib.hid p3
    have HYB := Lib.hid hyb
    have p1i : (S.size : Int) = 20 := by omega
    clear hi hS hP hyb p3 HCASE hn
    go_wp2_with fail
    with_reducible refine (iso_is i4 S _ HS.out hT).mono ?_
    rintro _ w3 ⟨rfl, hb⟩
    have hb3 := chain hb2 hb
    replace hT := hT.keep hb
    clear hb hb2
    go_wp2_with (with_reducible refine wp_halt ?_)
    refine Halt.on ?_
    have hbd := hb3.drew
    have hyb := HYB.out
    clear HYB HS HN l0 u0 hlo hhi
    refine wp_region_held_drew (S := fun W => Below w.heap.size w W) (by kernel_rfl) ?_ (fun hHeld => ?_)
    · exact hbd
    refine wpAnyH_ready (rs := [0]) (by kernel_rfl) (by simp) ?_
    refine AllReadyH.cons rfl (fun K hK => ?_) AllReadyH.nil
    go_simp
    with_reducible refine (alive_on HT0.out hHeld).mono ?_
    rintro _ w4 ⟨rfl, hS1⟩
    go_wp2_with fail
    refine hK.out _ _ hS1 (fun hHeld => ?_)
    clear hK K hS1
    try simp only [Act.put, List.setIfInBounds_toArray, List.set_cons_zero, List.set_cons_succ]
    refine wpAnyH_take (i := 1) (oi := ?qo1) (v := ?qv1) ?qh1 ?qa1 ?qb1 ?qc1 ?qe1 ?qd1 hHeld ?qr1
    case qh1 => (simp only [List.getElem?_toArray, List.getElem?_cons_succ, List.getElem?_cons_zero]; rfl)
    case qa1 => kernel_rfl
    case qb1 => kernel_rfl
    case qc1 => kernel_rfl
    case qe1 => exact fun _ _ _ h => h
    case qd1 => (refine Or.inl ⟨by rfl, ?_⟩; intro w hSw; (try dsimp only at hSw); go_simp; try with_reducible rfl)
    try simp only [Act.put, List.setIfInBounds_toArray, List.set_cons_zero, List.set_cons_succ]
    refine wpAnyH_take (i := 2) (oi := ?qo2) (v := ?qv2) ?qh2 ?qa2 ?qb2 ?qc2 ?qe2 ?qd2 hHeld ?qr2
    case qh2 => (simp only [List.getElem?_toArray, List.getElem?_cons_succ, List.getElem?_cons_zero]; rfl)
    case qa2 => kernel_rfl
    case qb2 => kernel_rfl
    case qc2 => kernel_rfl
    case qe2 => exact fun _ _ _ h => h
    case qd2 => (refine Or.inl ⟨by rfl, ?_⟩; intro w hSw; (try dsimp only at hSw); go_simp; try with_reducible rfl)
    try simp only [Act.put, List.setIfInBounds_toArray, List.set_cons_zero, List.set_cons_succ]
    refine wpAnyH_take (i := 3) (oi := ?qo3) (v := ?qv3) ?qh3 ?qa3 ?qb3 ?qc3 ?qe3 ?qd3 hHeld ?qr3
    case qh3 => (simp only [List.getElem?_toArray, List.getElem?_cons_succ, List.getElem?_cons_zero]; rfl)
    case qa3 => kernel_rfl
    case qb3 => kernel_rfl
    case qc3 => kernel_rfl
    case qe3 => exact fun _ _ _ h => h
    case qd3 => (refine Or.inl ⟨by rfl, ?_⟩; intro w hSw; (try dsimp only at hSw); go_simp; try with_reducible rfl)
    try simp only [Act.put, List.setIfInBounds_toArray, List.set_cons_zero, List.set_cons_succ]
    refine wpAnyH_take (i := 4) (oi := ?qo4) (v := ?qv4) ?qh4 ?qa4 ?qb4 ?qc4 ?qe4 ?qd4 hHeld ?qr4
    case qh4 => (simp only [List.getElem?_toArray, List.getElem?_cons_succ, List.getElem?_cons_zero]; rfl)
    case qa4 => kernel_rfl
    case qb4 => kernel_rfl
    case qc4 => kernel_rfl
    case qe4 => exact fun _ _ _ h => h
    case qd4 => (refine Or.inl ⟨by rfl, ?_⟩; intro w hSw; (try dsimp only at hSw); go_simp; try with_reducible rfl)
    try simp only [Act.put, List.setIfInBounds_toArray, List.set_cons_zero, List.set_cons_succ]
    refine wpAnyH_take (i := 5) (oi := ?qo5) (v := ?qv5) ?qh5 ?qa5 ?qb5 ?qc5 ?qe5 ?qd5 hHeld ?qr5
    case qh5 => (simp only [List.getElem?_toArray, List.getElem?_cons_succ, List.getElem?_cons_zero]; rfl)
    case qa5 => kernel_rfl
    case qb5 => kernel_rfl
    case qc5 => kernel_rfl
    case qe5 => exact fun _ _ _ h => h
    case qd5 => (refine Or.inl ⟨by rfl, ?_⟩; intro w hSw; (try dsimp only at hSw); go_simp; try with_reducible rfl)
    try simp only [Act.put, List.setIfInBounds_toArray, List.set_cons_zero, List.set_cons_succ]
    refine wpAnyH_take (i := 6) (oi := ?qo6) (v := ?qv6) ?qh6 ?qa6 ?qb6 ?qc6 ?qe6 ?qd6 hHeld ?qr6
    case qh6 => (simp only [List.getElem?_toArray, List.getElem?_cons_succ, List.getElem?_cons_zero]; rfl)
    case qa6 => kernel_rfl
    case qb6 => kernel_rfl
    case qc6 => kernel_rfl
    case qe6 => exact fun _ _ _ h => h
    case qd6 => (refine Or.inl ⟨by rfl, ?_⟩; intro w hSw; (try dsimp only at hSw); go_simp; try with_reducible rfl)
    try simp only [Act.put, List.setIfInBounds_toArray, List.set_cons_zero, List.set_cons_succ]
    refine wpAnyH_take (i := 7) (oi := ?qo7) (v := ?qv7) ?qh7 ?qa7 ?qb7 ?qc7 ?qe7 ?qd7 hHeld ?qr7
    case qh7 => (simp only [List.getElem?_toArray, List.getElem?_cons_succ, List.getElem?_cons_zero]; rfl)
    case qa7 => kernel_rfl
    case qb7 => kernel_rfl
    case qc7 => kernel_rfl
    case qe7 => exact fun _ _ _ h => h
    case qd7 => (refine Or.inl ⟨by rfl, ?_⟩; intro w hSw; (try dsimp only at hSw); go_simp; try with_reducible rfl)
    try simp only [Act.put, List.setIfInBounds_toArray, List.set_cons_zero, List.set_cons_succ]
    refine wpAnyH_take (i := 8) (oi := ?qo8) (v := ?qv8) ?qh8 ?qa8 ?qb8 ?qc8 ?qe8 ?qd8 hHeld ?qr8
    case qh8 => (simp only [List.getElem?_toArray, List.getElem?_cons_succ, List.getElem?_cons_zero]; rfl)
    case qa8 => kernel_rfl
    case qb8 => kernel_rfl
    case qc8 => kernel_rfl
    case qe8 => exact fun _ _ _ h => h
    case qd8 => (refine Or.inl ⟨by rfl, ?_⟩; intro w hSw; (try dsimp only at hSw); go_simp; try with_reducible rfl)
    try simp only [Act.put, List.setIfInBounds_toArray, List.set_cons_zero, List.set_cons_succ]
    refine wpAnyH_take (i := 9) (oi := ?qo9) (v := ?qv9) ?qh9 ?qa9 ?qb9 ?qc9 ?qe9 ?qd9 hHeld ?qr9
    case qh9 => (simp only [List.getElem?_toArray, List.getElem?_cons_succ, List.getElem?_cons_zero]; rfl)
    case qa9 => kernel_rfl
    case qb9 => kernel_rfl
    case qc9 => kernel_rfl
    case qe9 => exact fun _ _ _ h => h
    case qd9 => (refine Or.inl ⟨by rfl, ?_⟩; intro w hSw; (try dsimp only at hSw); go_simp; try with_reducible rfl)
    try simp only [Act.put, List.setIfInBounds_toArray, List.set_cons_zero, List.set_cons_succ]
    refine wpAnyH_take (i := 10) (oi := ?qo10) (v := ?qv10) ?qh10 ?qa10 ?qb10 ?qc10 ?qe10 ?qd10 hHeld ?qr10
    case qh10 => (simp only [List.getElem?_toArray, List.getElem?_cons_succ, List.getElem?_cons_zero]; rfl)
    case qa10 => kernel_rfl
    case qb10 => kernel_rfl
    case qc10 => kernel_rfl
    case qe10 => exact fun _ _ _ h => h
    case qd10 => (refine Or.inl ⟨by rfl, ?_⟩; intro w hSw; (try dsimp only at hSw); go_simp; try with_reducible rfl)
    try simp only [Act.put, List.setIfInBounds_toArray, List.set_cons_zero, List.set_cons_succ]
    refine wpAnyH_take (i := 11) (oi := ?qo11) (v := ?qv11) ?qh11 ?qa11 ?qb11 ?qc11 ?qe11 ?qd11 hHeld ?qr11
    case qh11 => (simp only [List.getElem?_toArray, List.getElem?_cons_succ, List.getElem?_cons_zero]; rfl)
    case qa11 => kernel_rfl
    case qb11 => kernel_rfl
    case qc11 => kernel_rfl
    case qe11 => exact fun _ _ _ h => h
    case qd11 => (refine Or.inl ⟨by rfl, ?_⟩; intro w hSw; (try dsimp only at hSw); go_simp; try with_reducible rfl)
    try simp only [Act.put, List.setIfInBounds_toArray, List.set_cons_zero, List.set_cons_succ]
    refine wpAnyH_take (i := 12) (oi := ?qo12) (v := ?qv12) ?qh12 ?qa12 ?qb12 ?qc12 ?qe12 ?qd12 hHeld ?qr12
    case qh12 => (simp only [List.getElem?_toArray, List.getElem?_cons_succ, List.getElem?_cons_zero]; rfl)
    case qa12 => kernel_rfl
    case qb12 => kernel_rfl
    case qc12 => kernel_rfl
    case qe12 => exact fun _ _ _ h => h
    case qd12 => (refine Or.inl ⟨by rfl, ?_⟩; intro w hSw; (try dsimp only at hSw); go_simp; try with_reducible rfl)
    try simp only [Act.put, List.setIfInBounds_toArray, List.set_cons_zero, List.set_cons_succ]
    refine wpAnyH_take (i := 13) (oi := ?qo13) (v := ?qv13) ?qh13 ?qa13 ?qb13 ?qc13 ?qe13 ?qd13 hHeld ?qr13
    case qh13 => (simp only [List.getElem?_toArray, List.getElem?_cons_succ, List.getElem?_cons_zero]; rfl)
    case qa13 => kernel_rfl
    case qb13 => kernel_rfl
    case qc13 => kernel_rfl
    case qe13 => exact fun _ _ _ h => h
    case qd13 => (refine Or.inl ⟨by rfl, ?_⟩; intro w hSw; (try dsimp only at hSw); go_simp; try with_reducible rfl)
    try simp only [Act.put, List.setIfInBounds_toArray, List.set_cons_zero, List.set_cons_succ]
    refine wpAnyH_take (i := 14) (oi := ?qo14) (v := ?qv14) ?qh14 ?qa14 ?qb14 ?qc14 ?qe14 ?qd14 hHeld ?qr14
    case qh14 => (simp only [List.getElem?_toArray, List.getElem?_cons_succ, List.getElem?_cons_zero]; rfl)
    case qa14 => kernel_rfl
    case qb14 => kernel_rfl
    case qc14 => kernel_rfl
    case qe14 => exact fun _ _ _ h => h
    case qd14 => (refine Or.inl ⟨by rfl, ?_⟩; intro w hSw; (try dsimp only at hSw); go_simp; try with_reducible rfl)
    try simp only [Act.put, List.setIfInBounds_toArray, List.set_cons_zero, List.set_cons_succ]
    refine wpAnyH_take (i := 15) (oi := ?qo15) (v := ?qv15) ?qh15 ?qa15 ?qb15 ?qc15 ?qe15 ?qd15 hHeld ?qr15
    case qh15 => (simp only [List.getElem?_toArray, List.getElem?_cons_succ, List.getElem?_cons_zero]; rfl)
    case qa15 => kernel_rfl
    case qb15 => kernel_rfl
    case qc15 => kernel_rfl
    case qe15 => exact fun _ _ _ h => h
    case qd15 => (refine Or.inl ⟨by rfl, ?_⟩; intro w hSw; (try dsimp only at hSw); go_simp; try with_reducible rfl)
    try simp only [Act.put, List.setIfInBounds_toArray, List.set_cons_zero, List.set_cons_succ]
    refine wpAnyH_take (i := 16) (oi := ?qo16) (v := ?qv16) ?qh16 ?qa16 ?qb16 ?qc16 ?qe16 ?qd16 hHeld ?qr16
    case qh16 => (simp only [List.getElem?_toArray, List.getElem?_cons_succ, List.getElem?_cons_zero]; rfl)
    case qa16 => kernel_rfl
    case qb16 => kernel_rfl
    case qc16 => kernel_rfl
    case qe16 => exact fun _ _ _ h => h
    case qd16 => (refine Or.inl ⟨by rfl, ?_⟩; intro w hSw; (try dsimp only at hSw); go_simp; try with_reducible rfl)
    try simp only [Act.put, List.setIfInBounds_toArray, List.set_cons_zero, List.set_cons_succ]
    refine wpAnyH_take (i := 17) (oi := ?qo17) (v := ?qv17) ?qh17 ?qa17 ?qb17 ?qc17 ?qe17 ?qd17 hHeld ?qr17
    case qh17 => (simp only [List.getElem?_toArray, List.getElem?_cons_succ, List.getElem?_cons_zero]; rfl)
    case qa17 => kernel_rfl
    case qb17 => kernel_rfl
    case qc17 => kernel_rfl
    case qe17 => exact fun _ _ _ h => h
    case qd17 => (refine Or.inl ⟨by rfl, ?_⟩; intro w hSw; (try dsimp only at hSw); go_simp; try with_reducible rfl)
    try simp only [Act.put, List.setIfInBounds_toArray, List.set_cons_zero, List.set_cons_succ]
    refine wpAnyH_take (i := 18) (oi := ?qo18) (v := ?qv18) ?qh18 ?qa18 ?qb18 ?qc18 ?qe18 ?qd18 hHeld ?qr18
    case qh18 => (simp only [List.getElem?_toArray, List.getElem?_cons_succ, List.getElem?_cons_zero]; rfl)
    case qa18 => kernel_rfl
    case qb18 => kernel_rfl
    case qc18 => kernel_rfl
    case qe18 => exact fun _ _ _ h => h
    case qd18 => (refine Or.inl ⟨by rfl, ?_⟩; intro w hSw; (try dsimp only at hSw); go_simp; try with_reducible rfl)
    try simp only [Act.put, List.setIfInBounds_toArray, List.set_cons_zero, List.set_cons_succ]
    refine wpAnyH_take (i := 19) (oi := ?qo19) (v := ?qv19) ?qh19 ?qa19 ?qb19 ?qc19 ?qe19 ?qd19 hHeld ?qr19
    case qh19 => (simp only [List.getElem?_toArray, List.getElem?_cons_succ, List.getElem?_cons_zero]; rfl)
    case qa19 => kernel_rfl
    case qb19 => kernel_rfl
    case qc19 => kernel_rfl
    case qe19 => exact fun _ _ _ h => h
    case qd19 => (refine Or.inl ⟨by rfl, ?_⟩; intro w hSw; (try dsimp only at hSw); go_simp; try with_reducible rfl)
    try simp only [Act.put, List.setIfInBounds_toArray, List.set_cons_zero, List.set_cons_succ]
    refine wpAnyH_take (i := 20) (oi := ?qo20) (v := ?qv20) ?qh20 ?qa20 ?qb20 ?qc20 ?qe20 ?qd20 hHeld ?qr20
    case qh20 => (simp only [List.getElem?_toArray, List.getElem?_cons_succ, List.getElem?_cons_zero]; rfl)
    case qa20 => kernel_rfl
    case qb20 => kernel_rfl
    case qc20 => kernel_rfl
    case qe20 => exact fun _ _ _ h => h
    case qd20 => (refine Or.inl ⟨by rfl, ?_⟩; intro w hSw; (try dsimp only at hSw); go_simp; try with_reducible rfl)
    try simp only [Act.put, List.setIfInBounds_toArray, List.set_cons_zero, List.set_cons_succ]
    refine wpAnyH_take (i := 21) (oi := ?qo21) (v := ?qv21) ?qh21 ?qa21 ?qb21 ?qc21 ?qe21 ?qd21 hHeld ?qr21
    case qh21 => (simp only [List.getElem?_toArray, List.getElem?_cons_succ, List.getElem?_cons_zero]; rfl)
    case qa21 => kernel_rfl
    case qb21 => kernel_rfl
    case qc21 => kernel_rfl
    case qe21 => exact fun _ _ _ h => h
    case qd21 => (refine Or.inl ⟨by rfl, ?_⟩; intro w hSw; (try dsimp only at hSw); go_simp; try with_reducible rfl)
    try simp only [Act.put, List.setIfInBounds_toArray, List.set_cons_zero, List.set_cons_succ]
    refine wpAnyH_take (i := 22) (oi := ?qo22) (v := ?qv22) ?qh22 ?qa22 ?qb22 ?qc22 ?qe22 ?qd22 hHeld ?qr22
    case qh22 => (simp only [List.getElem?_toArray, List.getElem?_cons_succ, List.getElem?_cons_zero]; rfl)
    case qa22 => kernel_rfl
    case qb22 => kernel_rfl
    case qc22 => kernel_rfl
    case qe22 => exact fun _ _ _ h => h
    case qd22 => (refine Or.inl ⟨by rfl, ?_⟩; intro w hSw; (try dsimp only at hSw); go_simp; try with_reducible rfl)
    try simp only [Act.put, List.setIfInBounds_toArray, List.set_cons_zero, List.set_cons_succ]
    refine wpAnyH_take (i := 23) (oi := ?qo23) (v := ?qv23) ?qh23 ?qa23 ?qb23 ?qc23 ?qe23 ?qd23 hHeld ?qr23
    case qh23 => (simp only [List.getElem?_toArray, List.getElem?_cons_succ, List.getElem?_cons_zero]; rfl)
    case qa23 => kernel_rfl
    case qb23 => kernel_rfl
    case qc23 => kernel_rfl
    case qe23 => exact fun _ _ _ h => h
    case qd23 => (refine Or.inl ⟨by rfl, ?_⟩; intro w hSw; (try dsimp only at hSw); go_simp; try with_reducible rfl)
    try simp only [Act.put, List.setIfInBounds_toArray, List.set_cons_zero, List.set_cons_succ]
    refine wpAnyH_take (i := 24) (oi := ?qo24) (v := ?qv24) ?qh24 ?qa24 ?qb24 ?qc24 ?qe24 ?qd24 hHeld ?qr24
    case qh24 => (simp only [List.getElem?_toArray, List.getElem?_cons_succ, List.getElem?_cons_zero]; rfl)
    case qa24 => kernel_rfl
    case qb24 => kernel_rfl
    case qc24 => kernel_rfl
    case qe24 => exact fun _ _ _ h => h
    case qd24 => (refine Or.inl ⟨by rfl, ?_⟩; intro w hSw; (try dsimp only at hSw); go_simp; try with_reducible rfl)
    try simp only [Act.put, List.setIfInBounds_toArray, List.set_cons_zero, List.set_cons_succ]
    refine wpAnyH_take (i := 25) (oi := ?qo25) (v := ?qv25) ?qh25 ?qa25 ?qb25 ?qc25 ?qe25 ?qd25 hHeld ?qr25
    case qh25 => (simp only [List.getElem?_toArray, List.getElem?_cons_succ, List.getElem?_cons_zero]; rfl)
    case qa25 => kernel_rfl
    case qb25 => kernel_rfl
    case qc25 => kernel_rfl
    case qe25 => exact fun _ _ _ h => h
    case qd25 => (refine Or.inl ⟨by rfl, ?_⟩; intro w hSw; (try dsimp only at hSw); go_simp; try with_reducible rfl)
    try simp only [Act.put, List.setIfInBounds_toArray, List.set_cons_zero, List.set_cons_succ]
    refine wpAnyH_take (i := 26) (oi := ?qo26) (v := ?qv26) ?qh26 ?qa26 ?qb26 ?qc26 ?qe26 ?qd26 hHeld ?qr26
    case qh26 => (simp only [List.getElem?_toArray, List.getElem?_cons_succ, List.getElem?_cons_zero]; rfl)
    case qa26 => kernel_rfl
    case qb26 => kernel_rfl
    case qc26 => kernel_rfl
    case qe26 => exact fun _ _ _ h => h
    case qd26 => (refine Or.inl ⟨by rfl, ?_⟩; intro w hSw; (try dsimp only at hSw); go_simp; try with_reducible rfl)
    try simp only [Act.put, List.setIfInBounds_toArray, List.set_cons_zero, List.set_cons_succ]
    refine wpAnyH_take (i := 27) (oi := ?qo27) (v := ?qv27) ?qh27 ?qa27 ?qb27 ?qc27 ?qe27 ?qd27 hHeld ?qr27
    case qh27 => (simp only [List.getElem?_toArray, List.getElem?_cons_succ, List.getElem?_cons_zero]; rfl)
    case qa27 => kernel_rfl
    case qb27 => kernel_rfl
    case qc27 => kernel_rfl
    case qe27 => exact fun _ _ _ h => h
    case qd27 => (refine Or.inl ⟨by rfl, ?_⟩; intro w hSw; (try dsimp only at hSw); go_simp; try with_reducible rfl)
    try simp only [Act.put, List.setIfInBounds_toArray, List.set_cons_zero, List.set_cons_succ]
    refine wpAnyH_take (i := 28) (oi := ?qo28) (v := ?qv28) ?qh28 ?qa28 ?qb28 ?qc28 ?qe28 ?qd28 hHeld ?qr28
    case qh28 => (simp only [List.getElem?_toArray, List.getElem?_cons_succ, List.getElem?_cons_zero]; rfl)
    case qa28 => kernel_rfl
    case qb28 => kernel_rfl
    case qc28 => kernel_rfl
    case qe28 => exact fun _ _ _ h => h
    case qd28 => (refine Or.inl ⟨by rfl, ?_⟩; intro w hSw; (try dsimp only at hSw); go_simp; try with_reducible rfl)
    try simp only [Act.put, List.setIfInBounds_toArray, List.set_cons_zero, List.set_cons_succ]
    refine wpAnyH_take (i := 29) (oi := ?qo29) (v := ?qv29) ?qh29 ?qa29 ?qb29 ?qc29 ?qe29 ?qd29 hHeld ?qr29
    case qh29 => (simp only [List.getElem?_toArray, List.getElem?_cons_succ, List.getElem?_cons_zero]; rfl)
    case qa29 => kernel_rfl
    case qb29 => kernel_rfl
    case qc29 => kernel_rfl
    case qe29 => exact fun _ _ _ h => h
    case qd29 => (refine Or.inl ⟨by rfl, ?_⟩; intro w hSw; (try dsimp only at hSw); go_simp; try with_reducible rfl)
    try simp only [Act.put, List.setIfInBounds_toArray, List.set_cons_zero, List.set_cons_succ]
    refine wpAnyH_ready (rs := [30]) (by kernel_rfl) (by simp) ?_
    refine AllReadyH.cons rfl (fun K hK => ?_) AllReadyH.nil
    go_simp
    refine hK.out _ _ (by first | exact hHeld | exact bel_alloc _ hHeld) (fun hHeld => ?_)
    clear hK K
    try simp only [Act.put, List.setIfInBounds_toArray, List.set_cons_zero, List.set_cons_succ]
    refine wpAnyH_ready (rs := [31]) (by kernel_rfl) (by simp) ?_
    refine AllReadyH.cons rfl (fun K hK => ?_) AllReadyH.nil
    go_simp
    refine hK.out _ _ (by first | exact hHeld | exact bel_alloc _ hHeld) (fun hHeld => ?_)
    clear hK K
    try simp only [Act.put, List.setIfInBounds_toArray, List.set_cons_zero, List.set_cons_succ]
    refine wpAnyH_take (i := 32) (oi := ?qo32) (v := ?qv32) ?qh32 ?qa32 ?qb32 ?qc32 ?qe32 ?qd32 hHeld ?qr32
    case qh32 => (simp only [List.getElem?_toArray, List.getElem?_cons_succ, List.getElem?_cons_zero]; rfl)
    case qa32 => kernel_rfl
    case qb32 => kernel_rfl
    case qc32 => kernel_rfl
    case qe32 => exact fun _ _ _ h => h
    case qd32 => (refine Or.inl ⟨by rfl, ?_⟩; intro w hSw; (try dsimp only at hSw); go_simp; try with_reducible rfl)
    try simp only [Act.put, List.setIfInBounds_toArray, List.set_cons_zero, List.set_cons_succ]
    refine wpAnyH_take (i := 33) (oi := ?qo33) (v := ?qv33) ?qh33 ?qa33 ?qb33 ?qc33 ?qe33 ?qd33 hHeld ?qr33
    case qh33 => (simp only [List.getElem?_toArray, List.getElem?_cons_succ, List.getElem?_cons_zero]; rfl)
    case qa33 => kernel_rfl
    case qb33 => kernel_rfl
    case qc33 => kernel_rfl
    case qe33 => exact fun _ _ _ h => h
    case qd33 => (refine Or.inl ⟨by rfl, ?_⟩; intro w hSw; (try dsimp only at hSw); go_simp; try with_reducible rfl)
    try simp only [Act.put, List.setIfInBounds_toArray, List.set_cons_zero, List.set_cons_succ]
    refine wpAnyH_take (i := 34) (oi := ?qo34) (v := ?qv34) ?qh34 ?qa34 ?qb34 ?qc34 ?qe34 ?qd34 hHeld ?qr34
    case qh34 => (simp only [List.getElem?_toArray, List.getElem?_cons_succ, List.getElem?_cons_zero]; rfl)
    case qa34 => kernel_rfl
    case qb34 => kernel_rfl
    case qc34 => kernel_rfl
    case qe34 => exact fun _ _ _ h => h
    case qd34 => (refine Or.inl ⟨by rfl, ?_⟩; intro w hSw; (try dsimp only at hSw); go_simp; try with_reducible rfl)
    try simp only [Act.put, List.setIfInBounds_toArray, List.set_cons_zero, List.set_cons_succ]
    refine wpAnyH_take (i := 35) (oi := ?qo35) (v := ?qv35) ?qh35 ?qa35 ?qb35 ?qc35 ?qe35 ?qd35 hHeld ?qr35
    case qh35 => (simp only [List.getElem?_toArray, List.getElem?_cons_succ, List.getElem?_cons_zero]; rfl)
    case qa35 => kernel_rfl
    case qb35 => kernel_rfl
    case qc35 => kernel_rfl
    case qe35 => exact fun _ _ _ h => h
    case qd35 => (refine Or.inl ⟨by rfl, ?_⟩; intro w hSw; (try dsimp only at hSw); go_simp; try with_reducible rfl)
    try simp only [Act.put, List.setIfInBounds_toArray, List.set_cons_zero, List.set_cons_succ]
    refine wpAnyH_take (i := 36) (oi := ?qo36) (v := ?qv36) ?qh36 ?qa36 ?qb36 ?qc36 ?qe36 ?qd36 hHeld ?qr36
    case qh36 => (simp only [List.getElem?_toArray, List.getElem?_cons_succ, List.getElem?_cons_zero]; rfl)
    case qa36 => kernel_rfl
    case qb36 => kernel_rfl
    case qc36 => kernel_rfl
    case qe36 => exact fun _ _ _ h => h
    case qd36 => (refine Or.inl ⟨by rfl, ?_⟩; intro w hSw; (try dsimp only at hSw); go_simp; try with_reducible rfl)
    try simp only [Act.put, List.setIfInBounds_toArray, List.set_cons_zero, List.set_cons_succ]
    refine wpAnyH_take (i := 37) (oi := ?qo37) (v := ?qv37) ?qh37 ?qa37 ?qb37 ?qc37 ?qe37 ?qd37 hHeld ?qr37
    case qh37 => (simp only [List.getElem?_toArray, List.getElem?_cons_succ, List.getElem?_cons_zero]; rfl)
    case qa37 => kernel_rfl
    case qb37 => kernel_rfl
    case qc37 => kernel_rfl
    case qe37 => exact fun _ _ _ h => h
    case qd37 => (refine Or.inl ⟨by rfl, ?_⟩; intro w hSw; (try dsimp only at hSw); go_simp; try with_reducible rfl)
    try simp only [Act.put, List.setIfInBounds_toArray, List.set_cons_zero, List.set_cons_succ]
    refine wpAnyH_take (i := 38) (oi := ?qo38) (v := ?qv38) ?qh38 ?qa38 ?qb38 ?qc38 ?qe38 ?qd38 hHeld ?qr38
    case qh38 => (simp only [List.getElem?_toArray, List.getElem?_cons_succ, List.getElem?_cons_zero]; rfl)
    case qa38 => kernel_rfl
    case qb38 => kernel_rfl
    case qc38 => kernel_rfl
    case qe38 => exact fun _ _ _ h => h
    case qd38 => (refine Or.inl ⟨by rfl, ?_⟩; intro w hSw; (try dsimp only at hSw); go_simp; try with_reducible rfl)
    try simp only [Act.put, List.setIfInBounds_toArray, List.set_cons_zero, List.set_cons_succ]
    refine wpAnyH_take (i := 39) (oi := ?qo39) (v := ?qv39) ?qh39 ?qa39 ?qb39 ?qc39 ?qe39 ?qd39 hHeld ?qr39
    case qh39 => (simp only [List.getElem?_toArray, List.getElem?_cons_succ, List.getElem?_cons_zero]; rfl)
    case qa39 => kernel_rfl
    case qb39 => kernel_rfl
    case qc39 => kernel_rfl
    case qe39 => exact fun _ _ _ h => h
    case qd39 => (refine Or.inl ⟨by rfl, ?_⟩; intro w hSw; (try dsimp only at hSw); go_simp; try with_reducible rfl)
    try simp only [Act.put, List.setIfInBounds_toArray, List.set_cons_zero, List.set_cons_succ]
    refine wpAnyH_done (by kernel_rfl) ?_ _
    go_wp2
    go_ret
    refine ⟨by first | rfl | exact ret_bool (by rw [HP3.out, ByteArray.toList_eq]; rfl), ?_⟩
    assumption
  · subst hb4 hi
    obtain ⟨S, hS⟩ := exists_iso 0 (by decide) (by decide)
    have HS := Lib.hid hS
    clear hS HCASE
    go_wp2_with fail
    with_reducible refine (iso_is 0 S _ HS.out hT).mono ?_
    rintro _ w3 ⟨rfl, hb⟩
    have hb3 := chain hb2 hb
    replace hT := hT.keep hb
    clear hb hb2
    go_wp2_with fail
    with_reducible refine (alive_any _ hT).mono ?_
    rintro _ w4 ⟨rfl, hb⟩
    have hb4 := chain hb3 hb
    replace hT := hT.keep hb
    clear hb hb3
    clear hT
    go_wp2
    go_ret
    exact ⟨rfl, hb4⟩
  · have hn := HN.out
    have hin : i4 < 0 := by rw [hi]; exact jan_neg _ (by omega)
    have hir := jan_range (n : Int) (by omega) (by omega)
    rw [← hi] at hir
    obtain ⟨hi1, hi2⟩ := hir
    subst hb4
    clear hi hn HCASE
    go_wp2_with fail
    with_reducible refine (iso_not i4 _ (by omega) (by omega) (.inl hin) hT).mono ?_
    rintro _ w3 ⟨rfl, hb⟩
    have hb3 := chain hb2 hb
    replace hT := hT.keep hb
    clear hb hb2
    go_wp2_with fail
    with_reducible refine (alive_any _ hT).mono ?_
    rintro _ w4 ⟨rfl, hb⟩
    have hb4 := chain hb3 hb
    replace hT := hT.keep hb
    clear hb hb3
    clear hT
    go_wp2
    go_ret
    exact ⟨(by first | rfl | exact ret_bool (by simp; omega)), hb4⟩
  · have hn := HN.out
    have g0 : ¬ a0 < 100 := by omega
    subst hb4
    have hip : 0 ≤ i4 := by rw [hi]; exact jan_pos _ (by omega)
    obtain ⟨S, hS⟩ : ∃ S : ByteArray, S = ⟨(isoL (n) 1 1 0 0 0).toArray⟩ := ⟨_, rfl⟩
    have HS : Hid (IsIso i4 S) := by show IsIso _ _; rw [hi, hS]; exact jan_iso (n) (by omega) (by omega)
    obtain ⟨p1, p2, p3⟩ := iso_parts (n) S hS
    have hyb := year_raw (a0) (n) (by omega) (by omega)
    obtain ⟨P, hP⟩ : ∃ P, P = padB (n) 4 := ⟨_, rfl⟩
    rw [← hP] at hyb p2
    have hp3 : S.extract 4 S.size = S.extract 4 20 := by rw [p1]
    have HP3 := Lib.hid p3
    have HYB := Lib.hid hyb
    have p1i : (S.size : Int) = 20 := by omega
    clear hi hS hP hyb p3 HCASE hn
    go_wp2_with fail
    with_reducible refine (iso_is i4 S _ HS.out hT).mono ?_
    rintro _ w3 ⟨rfl, hb⟩
    have hb3 := chain hb2 hb
    replace hT := hT.keep hb
    clear hb hb2
    go_wp2_with (with_reducible refine wp_halt ?_)
    refine Halt.on ?_
    have hbd := hb3.drew
    have hyb := HYB.out
    clear HYB HS HN l0 u0 hlo hhi
    refine wp_region_held_drew (S := fun W => Below w.heap.size w W) (by kernel_rfl) ?_ (fun hHeld => ?_)
    · exact hbd
    refine wpAnyH_ready (rs := [0]) (by kernel_rfl) (by simp) ?_
    refine AllReadyH.cons rfl (fun K hK => ?_) AllReadyH.nil
    go_simp
    with_reducible refine (alive_on HT0.out hHeld).mono ?_
    rintro _ w4 ⟨rfl, hS1⟩
    go_wp2_with fail
    refine hK.out _ _ hS1 (fun hHeld => ?_)
    clear hK K hS1
    try simp only [Act.put, List.setIfInBounds_toArray, List.set_cons_zero, List.set_cons_succ]
    refine wpAnyH_take (i := 1) (oi := ?ro1) (v := ?rv1) ?rh1 ?ra1 ?rb1 ?rc1 ?re1 ?rd1 hHeld ?rr1
    case rh1 => (simp only [List.getElem?_toArray, List.getElem?_cons_succ, List.getElem?_cons_zero]; rfl)
    case ra1 => kernel_rfl
    case rb1 => kernel_rfl
    case rc1 => kernel_rfl
    case re1 => exact fun _ _ _ h => h
    case rd1 => (refine Or.inl ⟨by rfl, ?_⟩; intro w hSw; (try dsimp only at hSw); go_simp; try with_reducible rfl)
    try simp only [Act.put, List.setIfInBounds_toArray, List.set_cons_zero, List.set_cons_succ]
    refine wpAnyH_take (i := 2) (oi := ?ro2) (v := ?rv2) ?rh2 ?ra2 ?rb2 ?rc2 ?re2 ?rd2 hHeld ?rr2
    case rh2 => (simp only [List.getElem?_toArray, List.getElem?_cons_succ, List.getElem?_cons_zero]; rfl)
    case ra2 => kernel_rfl
    case rb2 => kernel_rfl
    case rc2 => kernel_rfl
    case re2 => exact fun _ _ _ h => h
    case rd2 => (refine Or.inl ⟨by rfl, ?_⟩; intro w hSw; (try dsimp only at hSw); go_simp; try with_reducible rfl)
    try simp only [Act.put, List.setIfInBounds_toArray, List.set_cons_zero, List.set_cons_succ]
    refine wpAnyH_take (i := 3) (oi := ?ro3) (v := ?rv3) ?rh3 ?ra3 ?rb3 ?rc3 ?re3 ?rd3 hHeld ?rr3
    case rh3 => (simp only [List.getElem?_toArray, List.getElem?_cons_succ, List.getElem?_cons_zero]; rfl)
    case ra3 => kernel_rfl
    case rb3 => kernel_rfl
    case rc3 => kernel_rfl
    case re3 => exact fun _ _ _ h => h
    case rd3 => (refine Or.inl ⟨by rfl, ?_⟩; intro w hSw; (try dsimp only at hSw); go_simp; try with_reducible rfl)
    try simp only [Act.put, List.setIfInBounds_toArray, List.set_cons_zero, List.set_cons_succ]
    refine wpAnyH_take (i := 4) (oi := ?ro4) (v := ?rv4) ?rh4 ?ra4 ?rb4 ?rc4 ?re4 ?rd4 hHeld ?rr4
    case rh4 => (simp only [List.getElem?_toArray, List.getElem?_cons_succ, List.getElem?_cons_zero]; rfl)
    case ra4 => kernel_rfl
    case rb4 => kernel_rfl
    case rc4 => kernel_rfl
    case re4 => exact fun _ _ _ h => h
    case rd4 => (refine Or.inl ⟨by rfl, ?_⟩; intro w hSw; (try dsimp only at hSw); go_simp; try with_reducible rfl)
    try simp only [Act.put, List.setIfInBounds_toArray, List.set_cons_zero, List.set_cons_succ]
    refine wpAnyH_take (i := 5) (oi := ?ro5) (v := ?rv5) ?rh5 ?ra5 ?rb5 ?rc5 ?re5 ?rd5 hHeld ?rr5
    case rh5 => (simp only [List.getElem?_toArray, List.getElem?_cons_succ, List.getElem?_cons_zero]; rfl)
    case ra5 => kernel_rfl
    case rb5 => kernel_rfl
    case rc5 => kernel_rfl
    case re5 => exact fun _ _ _ h => h
    case rd5 => (refine Or.inl ⟨by rfl, ?_⟩; intro w hSw; (try dsimp only at hSw); go_simp; try with_reducible rfl)
    try simp only [Act.put, List.setIfInBounds_toArray, List.set_cons_zero, List.set_cons_succ]
    refine wpAnyH_take (i := 6) (oi := ?ro6) (v := ?rv6) ?rh6 ?ra6 ?rb6 ?rc6 ?re6 ?rd6 hHeld ?rr6
    case rh6 => (simp only [List.getElem?_toArray, List.getElem?_cons_succ, List.getElem?_cons_zero]; rfl)
    case ra6 => kernel_rfl
    case rb6 => kernel_rfl
    case rc6 => kernel_rfl
    case re6 => exact fun _ _ _ h => h
    case rd6 => (refine Or.inl ⟨by rfl, ?_⟩; intro w hSw; (try dsimp only at hSw); go_simp; try with_reducible rfl)
    try simp only [Act.put, List.setIfInBounds_toArray, List.set_cons_zero, List.set_cons_succ]
    refine wpAnyH_take (i := 7) (oi := ?ro7) (v := ?rv7) ?rh7 ?ra7 ?rb7 ?rc7 ?re7 ?rd7 hHeld ?rr7
    case rh7 => (simp only [List.getElem?_toArray, List.getElem?_cons_succ, List.getElem?_cons_zero]; rfl)
    case ra7 => kernel_rfl
    case rb7 => kernel_rfl
    case rc7 => kernel_rfl
    case re7 => exact fun _ _ _ h => h
    case rd7 => (refine Or.inl ⟨by rfl, ?_⟩; intro w hSw; (try dsimp only at hSw); go_simp; try with_reducible rfl)
    try simp only [Act.put, List.setIfInBounds_toArray, List.set_cons_zero, List.set_cons_succ]
    refine wpAnyH_take (i := 8) (oi := ?ro8) (v := ?rv8) ?rh8 ?ra8 ?rb8 ?rc8 ?re8 ?rd8 hHeld ?rr8
    case rh8 => (simp only [List.getElem?_toArray, List.getElem?_cons_succ, List.getElem?_cons_zero]; rfl)
    case ra8 => kernel_rfl
    case rb8 => kernel_rfl
    case rc8 => kernel_rfl
    case re8 => exact fun _ _ _ h => h
    case rd8 => (refine Or.inl ⟨by rfl, ?_⟩; intro w hSw; (try dsimp only at hSw); go_simp; try with_reducible rfl)
    try simp only [Act.put, List.setIfInBounds_toArray, List.set_cons_zero, List.set_cons_succ]
    refine wpAnyH_take (i := 9) (oi := ?ro9) (v := ?rv9) ?rh9 ?ra9 ?rb9 ?rc9 ?re9 ?rd9 hHeld ?rr9
    case rh9 => (simp only [List.getElem?_toArray, List.getElem?_cons_succ, List.getElem?_cons_zero]; rfl)
    case ra9 => kernel_rfl
    case rb9 => kernel_rfl
    case rc9 => kernel_rfl
    case re9 => exact fun _ _ _ h => h
    case rd9 => (refine Or.inl ⟨by rfl, ?_⟩; intro w hSw; (try dsimp only at hSw); go_simp; try with_reducible rfl)
    try simp only [Act.put, List.setIfInBounds_toArray, List.set_cons_zero, List.set_cons_succ]
    refine wpAnyH_take (i := 10) (oi := ?ro10) (v := ?rv10) ?rh10 ?ra10 ?rb10 ?rc10 ?re10 ?rd10 hHeld ?rr10
    case rh10 => (simp only [List.getElem?_toArray, List.getElem?_cons_succ, List.getElem?_cons_zero]; rfl)
    case ra10 => kernel_rfl
    case rb10 => kernel_rfl
    case rc10 => kernel_rfl
    case re10 => exact fun _ _ _ h => h
    case rd10 => (refine Or.inl ⟨by rfl, ?_⟩; intro w hSw; (try dsimp only at hSw); go_simp; try with_reducible rfl)
    try simp only [Act.put, List.setIfInBounds_toArray, List.set_cons_zero, List.set_cons_succ]
    refine wpAnyH_take (i := 11) (oi := ?ro11) (v := ?rv11) ?rh11 ?ra11 ?rb11 ?rc11 ?re11 ?rd11 hHeld ?rr11
    case rh11 => (simp only [List.getElem?_toArray, List.getElem?_cons_succ, List.getElem?_cons_zero]; rfl)
    case ra11 => kernel_rfl
    case rb11 => kernel_rfl
    case rc11 => kernel_rfl
    case re11 => exact fun _ _ _ h => h
    case rd11 => (refine Or.inl ⟨by rfl, ?_⟩; intro w hSw; (try dsimp only at hSw); go_simp; try with_reducible rfl)
    try simp only [Act.put, List.setIfInBounds_toArray, List.set_cons_zero, List.set_cons_succ]
    refine wpAnyH_take (i := 12) (oi := ?ro12) (v := ?rv12) ?rh12 ?ra12 ?rb12 ?rc12 ?re12 ?rd12 hHeld ?rr12
    case rh12 => (simp only [List.getElem?_toArray, List.getElem?_cons_succ, List.getElem?_cons_zero]; rfl)
    case ra12 => kernel_rfl
    case rb12 => kernel_rfl
    case rc12 => kernel_rfl
    case re12 => exact fun _ _ _ h => h
    case rd12 => (refine Or.inl ⟨by rfl, ?_⟩; intro w hSw; (try dsimp only at hSw); go_simp; try with_reducible rfl)
    try simp only [Act.put, List.setIfInBounds_toArray, List.set_cons_zero, List.set_cons_succ]
    refine wpAnyH_take (i := 13) (oi := ?ro13) (v := ?rv13) ?rh13 ?ra13 ?rb13 ?rc13 ?re13 ?rd13 hHeld ?rr13
    case rh13 => (simp only [List.getElem?_toArray, List.getElem?_cons_succ, List.getElem?_cons_zero]; rfl)
    case ra13 => kernel_rfl
    case rb13 => kernel_rfl
    case rc13 => kernel_rfl
    case re13 => exact fun _ _ _ h => h
    case rd13 => (refine Or.inl ⟨by rfl, ?_⟩; intro w hSw; (try dsimp only at hSw); go_simp; try with_reducible rfl)
    try simp only [Act.put, List.setIfInBounds_toArray, List.set_cons_zero, List.set_cons_succ]
    refine wpAnyH_take (i := 14) (oi := ?ro14) (v := ?rv14) ?rh14 ?ra14 ?rb14 ?rc14 ?re14 ?rd14 hHeld ?rr14
    case rh14 => (simp only [List.getElem?_toArray, List.getElem?_cons_succ, List.getElem?_cons_zero]; rfl)
    case ra14 => kernel_rfl
    case rb14 => kernel_rfl
    case rc14 => kernel_rfl
    case re14 => exact fun _ _ _ h => h
    case rd14 => (refine Or.inl ⟨by rfl, ?_⟩; intro w hSw; (try dsimp only at hSw); go_simp; try with_reducible rfl)
    try simp only [Act.put, List.setIfInBounds_toArray, List.set_cons_zero, List.set_cons_succ]
    refine wpAnyH_take (i := 15) (oi := ?ro15) (v := ?rv15) ?rh15 ?ra15 ?rb15 ?rc15 ?re15 ?rd15 hHeld ?rr15
    case rh15 => (simp only [List.getElem?_toArray, List.getElem?_cons_succ, List.getElem?_cons_zero]; rfl)
    case ra15 => kernel_rfl
    case rb15 => kernel_rfl
    case rc15 => kernel_rfl
    case re15 => exact fun _ _ _ h => h
    case rd15 => (refine Or.inl ⟨by rfl, ?_⟩; intro w hSw; (try dsimp only at hSw); go_simp; try with_reducible rfl)
    try simp only [Act.put, List.setIfInBounds_toArray, List.set_cons_zero, List.set_cons_succ]
    refine wpAnyH_take (i := 16) (oi := ?ro16) (v := ?rv16) ?rh16 ?ra16 ?rb16 ?rc16 ?re16 ?rd16 hHeld ?rr16
    case rh16 => (simp only [List.getElem?_toArray, List.getElem?_cons_succ, List.getElem?_cons_zero]; rfl)
    case ra16 => kernel_rfl
    case rb16 => kernel_rfl
    case rc16 => kernel_rfl
    case re16 => exact fun _ _ _ h => h
    case rd16 => (refine Or.inl ⟨by rfl, ?_⟩; intro w hSw; (try dsimp only at hSw); go_simp; try with_reducible rfl)
    try simp only [Act.put, List.setIfInBounds_toArray, List.set_cons_zero, List.set_cons_succ]
    refine wpAnyH_take (i := 17) (oi := ?ro17) (v := ?rv17) ?rh17 ?ra17 ?rb17 ?rc17 ?re17 ?rd17 hHeld ?rr17
    case rh17 => (simp only [List.getElem?_toArray, List.getElem?_cons_succ, List.getElem?_cons_zero]; rfl)
    case ra17 => kernel_rfl
    case rb17 => kernel_rfl
    case rc17 => kernel_rfl
    case re17 => exact fun _ _ _ h => h
    case rd17 => (refine Or.inl ⟨by rfl, ?_⟩; intro w hSw; (try dsimp only at hSw); go_simp; try with_reducible rfl)
    try simp only [Act.put, List.setIfInBounds_toArray, List.set_cons_zero, List.set_cons_succ]
    refine wpAnyH_take (i := 18) (oi := ?ro18) (v := ?rv18) ?rh18 ?ra18 ?rb18 ?rc18 ?re18 ?rd18 hHeld ?rr18
    case rh18 => (simp only [List.getElem?_toArray, List.getElem?_cons_succ, List.getElem?_cons_zero]; rfl)
    case ra18 => kernel_rfl
    case rb18 => kernel_rfl
    case rc18 => kernel_rfl
    case re18 => exact fun _ _ _ h => h
    case rd18 => (refine Or.inl ⟨by rfl, ?_⟩; intro w hSw; (try dsimp only at hSw); go_simp; try with_reducible rfl)
    try simp only [Act.put, List.setIfInBounds_toArray, List.set_cons_zero, List.set_cons_succ]
    refine wpAnyH_take (i := 19) (oi := ?ro19) (v := ?rv19) ?rh19 ?ra19 ?rb19 ?rc19 ?re19 ?rd19 hHeld ?rr19
    case rh19 => (simp only [List.getElem?_toArray, List.getElem?_cons_succ, List.getElem?_cons_zero]; rfl)
    case ra19 => kernel_rfl
    case rb19 => kernel_rfl
    case rc19 => kernel_rfl
    case re19 => exact fun _ _ _ h => h
    case rd19 => (refine Or.inl ⟨by rfl, ?_⟩; intro w hSw; (try dsimp only at hSw); go_simp; try with_reducible rfl)
    try simp only [Act.put, List.setIfInBounds_toArray, List.set_cons_zero, List.set_cons_succ]
    refine wpAnyH_take (i := 20) (oi := ?ro20) (v := ?rv20) ?rh20 ?ra20 ?rb20 ?rc20 ?re20 ?rd20 hHeld ?rr20
    case rh20 => (simp only [List.getElem?_toArray, List.getElem?_cons_succ, List.getElem?_cons_zero]; rfl)
    case ra20 => kernel_rfl
    case rb20 => kernel_rfl
    case rc20 => kernel_rfl
    case re20 => exact fun _ _ _ h => h
    case rd20 => (refine Or.inl ⟨by rfl, ?_⟩; intro w hSw; (try dsimp only at hSw); go_simp; try with_reducible rfl)
    try simp only [Act.put, List.setIfInBounds_toArray, List.set_cons_zero, List.set_cons_succ]
    refine wpAnyH_take (i := 21) (oi := ?ro21) (v := ?rv21) ?rh21 ?ra21 ?rb21 ?rc21 ?re21 ?rd21 hHeld ?rr21
    case rh21 => (simp only [List.getElem?_toArray, List.getElem?_cons_succ, List.getElem?_cons_zero]; rfl)
    case ra21 => kernel_rfl
    case rb21 => kernel_rfl
    case rc21 => kernel_rfl
    case re21 => exact fun _ _ _ h => h
    case rd21 => (refine Or.inl ⟨by rfl, ?_⟩; intro w hSw; (try dsimp only at hSw); go_simp; try with_reducible rfl)
    try simp only [Act.put, List.setIfInBounds_toArray, List.set_cons_zero, List.set_cons_succ]
    refine wpAnyH_take (i := 22) (oi := ?ro22) (v := ?rv22) ?rh22 ?ra22 ?rb22 ?rc22 ?re22 ?rd22 hHeld ?rr22
    case rh22 => (simp only [List.getElem?_toArray, List.getElem?_cons_succ, List.getElem?_cons_zero]; rfl)
    case ra22 => kernel_rfl
    case rb22 => kernel_rfl
    case rc22 => kernel_rfl
    case re22 => exact fun _ _ _ h => h
    case rd22 => (refine Or.inl ⟨by rfl, ?_⟩; intro w hSw; (try dsimp only at hSw); go_simp; try with_reducible rfl)
    try simp only [Act.put, List.setIfInBounds_toArray, List.set_cons_zero, List.set_cons_succ]
    refine wpAnyH_take (i := 23) (oi := ?ro23) (v := ?rv23) ?rh23 ?ra23 ?rb23 ?rc23 ?re23 ?rd23 hHeld ?rr23
    case rh23 => (simp only [List.getElem?_toArray, List.getElem?_cons_succ, List.getElem?_cons_zero]; rfl)
    case ra23 => kernel_rfl
    case rb23 => kernel_rfl
    case rc23 => kernel_rfl
    case re23 => exact fun _ _ _ h => h
    case rd23 => (refine Or.inl ⟨by rfl, ?_⟩; intro w hSw; (try dsimp only at hSw); go_simp; try with_reducible rfl)
    try simp only [Act.put, List.setIfInBounds_toArray, List.set_cons_zero, List.set_cons_succ]
    refine wpAnyH_take (i := 24) (oi := ?ro24) (v := ?rv24) ?rh24 ?ra24 ?rb24 ?rc24 ?re24 ?rd24 hHeld ?rr24
    case rh24 => (simp only [List.getElem?_toArray, List.getElem?_cons_succ, List.getElem?_cons_zero]; rfl)
    case ra24 => kernel_rfl
    case rb24 => kernel_rfl
    case rc24 => kernel_rfl
    case re24 => exact fun _ _ _ h => h
    case rd24 => (refine Or.inl ⟨by rfl, ?_⟩; intro w hSw; (try dsimp only at hSw); go_simp; try with_reducible rfl)
    try simp only [Act.put, List.setIfInBounds_toArray, List.set_cons_zero, List.set_cons_succ]
    refine wpAnyH_take (i := 25) (oi := ?ro25) (v := ?rv25) ?rh25 ?ra25 ?rb25 ?rc25 ?re25 ?rd25 hHeld ?rr25
    case rh25 => (simp only [List.getElem?_toArray, List.getElem?_cons_succ, List.getElem?_cons_zero]; rfl)
    case ra25 => kernel_rfl
    case rb25 => kernel_rfl
    case rc25 => kernel_rfl
    case re25 => exact fun _ _ _ h => h
    case rd25 => (refine Or.inl ⟨by rfl, ?_⟩; intro w hSw; (try dsimp only at hSw); go_simp; try with_reducible rfl)
    try simp only [Act.put, List.setIfInBounds_toArray, List.set_cons_zero, List.set_cons_succ]
    refine wpAnyH_take (i := 26) (oi := ?ro26) (v := ?rv26) ?rh26 ?ra26 ?rb26 ?rc26 ?re26 ?rd26 hHeld ?rr26
    case rh26 => (simp only [List.getElem?_toArray, List.getElem?_cons_succ, List.getElem?_cons_zero]; rfl)
    case ra26 => kernel_rfl
    case rb26 => kernel_rfl
    case rc26 => kernel_rfl
    case re26 => exact fun _ _ _ h => h
    case rd26 => (refine Or.inl ⟨by rfl, ?_⟩; intro w hSw; (try dsimp only at hSw); go_simp; try with_reducible rfl)
    try simp only [Act.put, List.setIfInBounds_toArray, List.set_cons_zero, List.set_cons_succ]
    refine wpAnyH_take (i := 27) (oi := ?ro27) (v := ?rv27) ?rh27 ?ra27 ?rb27 ?rc27 ?re27 ?rd27 hHeld ?rr27
    case rh27 => (simp only [List.getElem?_toArray, List.getElem?_cons_succ, List.getElem?_cons_zero]; rfl)
    case ra27 => kernel_rfl
    case rb27 => kernel_rfl
    case rc27 => kernel_rfl
    case re27 => exact fun _ _ _ h => h
    case rd27 => (refine Or.inl ⟨by rfl, ?_⟩; intro w hSw; (try dsimp only at hSw); go_simp; try with_reducible rfl)
    try simp only [Act.put, List.setIfInBounds_toArray, List.set_cons_zero, List.set_cons_succ]
    refine wpAnyH_take (i := 28) (oi := ?ro28) (v := ?rv28) ?rh28 ?ra28 ?rb28 ?rc28 ?re28 ?rd28 hHeld ?rr28
    case rh28 => (simp only [List.getElem?_toArray, List.getElem?_cons_succ, List.getElem?_cons_zero]; rfl)
    case ra28 => kernel_rfl
    case rb28 => kernel_rfl
    case rc28 => kernel_rfl
    case re28 => exact fun _ _ _ h => h
    case rd28 => (refine Or.inl ⟨by rfl, ?_⟩; intro w hSw; (try dsimp only at hSw); go_simp; try with_reducible rfl)
    try simp only [Act.put, List.setIfInBounds_toArray, List.set_cons_zero, List.set_cons_succ]
    refine wpAnyH_take (i := 29) (oi := ?ro29) (v := ?rv29) ?rh29 ?ra29 ?rb29 ?rc29 ?re29 ?rd29 hHeld ?rr29
    case rh29 => (simp only [List.getElem?_toArray, List.getElem?_cons_succ, List.getElem?_cons_zero]; rfl)
    case ra29 => kernel_rfl
    case rb29 => kernel_rfl
    case rc29 => kernel_rfl
    case re29 => exact fun _ _ _ h => h
    case rd29 => (refine Or.inl ⟨by rfl, ?_⟩; intro w hSw; (try dsimp only at hSw); go_simp; try with_reducible rfl)
    try simp only [Act.put, List.setIfInBounds_toArray, List.set_cons_zero, List.set_cons_succ]
    refine wpAnyH_ready (rs := [30]) (by kernel_rfl) (by simp) ?_
    refine AllReadyH.cons rfl (fun K hK => ?_) AllReadyH.nil
    go_simp
    refine hK.out _ _ (by first | exact hHeld | exact bel_alloc _ hHeld) (fun hHeld => ?_)
    clear hK K
    try simp only [Act.put, List.setIfInBounds_toArray, List.set_cons_zero, List.set_cons_succ]
    refine wpAnyH_ready (rs := [31]) (by kernel_rfl) (by simp) ?_
    refine AllReadyH.cons rfl (fun K hK => ?_) AllReadyH.nil
    go_simp
    refine hK.out _ _ (by first | exact hHeld | exact bel_alloc _ hHeld) (fun hHeld => ?_)
    clear hK K
    try simp only [Act.put, List.setIfInBounds_toArray, List.set_cons_zero, List.set_cons_succ]
    refine wpAnyH_take (i := 32) (oi := ?ro32) (v := ?rv32) ?rh32 ?ra32 ?rb32 ?rc32 ?re32 ?rd32 hHeld ?rr32
    case rh32 => (simp only [List.getElem?_toArray, List.getElem?_cons_succ, List.getElem?_cons_zero]; rfl)
    case ra32 => kernel_rfl
    case rb32 => kernel_rfl
    case rc32 => kernel_rfl
    case re32 => exact fun _ _ _ h => h
    case rd32 => (refine Or.inl ⟨by rfl, ?_⟩; intro w hSw; (try dsimp only at hSw); go_simp; try with_reducible rfl)
    try simp only [Act.put, List.setIfInBounds_toArray, List.set_cons_zero, List.set_cons_succ]
    refine wpAnyH_take (i := 33) (oi := ?ro33) (v := ?rv33) ?rh33 ?ra33 ?rb33 ?rc33 ?re33 ?rd33 hHeld ?rr33
    case rh33 => (simp only [List.getElem?_toArray, List.getElem?_cons_succ, List.getElem?_cons_zero]; rfl)
    case ra33 => kernel_rfl
    case rb33 => kernel_rfl
    case rc33 => kernel_rfl
    case re33 => exact fun _ _ _ h => h
    case rd33 => (refine Or.inl ⟨by rfl, ?_⟩; intro w hSw; (try dsimp only at hSw); go_simp; try with_reducible rfl)
    try simp only [Act.put, List.setIfInBounds_toArray, List.set_cons_zero, List.set_cons_succ]
    refine wpAnyH_take (i := 34) (oi := ?ro34) (v := ?rv34) ?rh34 ?ra34 ?rb34 ?rc34 ?re34 ?rd34 hHeld ?rr34
    case rh34 => (simp only [List.getElem?_toArray, List.getElem?_cons_succ, List.getElem?_cons_zero]; rfl)
    case ra34 => kernel_rfl
    case rb34 => kernel_rfl
    case rc34 => kernel_rfl
    case re34 => exact fun _ _ _ h => h
    case rd34 => (refine Or.inl ⟨by rfl, ?_⟩; intro w hSw; (try dsimp only at hSw); go_simp; try with_reducible rfl)
    try simp only [Act.put, List.setIfInBounds_toArray, List.set_cons_zero, List.set_cons_succ]
    refine wpAnyH_take (i := 35) (oi := ?ro35) (v := ?rv35) ?rh35 ?ra35 ?rb35 ?rc35 ?re35 ?rd35 hHeld ?rr35
    case rh35 => (simp only [List.getElem?_toArray, List.getElem?_cons_succ, List.getElem?_cons_zero]; rfl)
    case ra35 => kernel_rfl
    case rb35 => kernel_rfl
    case rc35 => kernel_rfl
    case re35 => exact fun _ _ _ h => h
    case rd35 => (refine Or.inl ⟨by rfl, ?_⟩; intro w hSw; (try dsimp only at hSw); go_simp; try with_reducible rfl)
    try simp only [Act.put, List.setIfInBounds_toArray, List.set_cons_zero, List.set_cons_succ]
    refine wpAnyH_take (i := 36) (oi := ?ro36) (v := ?rv36) ?rh36 ?ra36 ?rb36 ?rc36 ?re36 ?rd36 hHeld ?rr36
    case rh36 => (simp only [List.getElem?_toArray, List.getElem?_cons_succ, List.getElem?_cons_zero]; rfl)
    case ra36 => kernel_rfl
    case rb36 => kernel_rfl
    case rc36 => kernel_rfl
    case re36 => exact fun _ _ _ h => h
    case rd36 => (refine Or.inl ⟨by rfl, ?_⟩; intro w hSw; (try dsimp only at hSw); go_simp; try with_reducible rfl)
    try simp only [Act.put, List.setIfInBounds_toArray, List.set_cons_zero, List.set_cons_succ]
    refine wpAnyH_take (i := 37) (oi := ?ro37) (v := ?rv37) ?rh37 ?ra37 ?rb37 ?rc37 ?re37 ?rd37 hHeld ?rr37
    case rh37 => (simp only [List.getElem?_toArray, List.getElem?_cons_succ, List.getElem?_cons_zero]; rfl)
    case ra37 => kernel_rfl
    case rb37 => kernel_rfl
    case rc37 => kernel_rfl
    case re37 => exact fun _ _ _ h => h
    case rd37 => (refine Or.inl ⟨by rfl, ?_⟩; intro w hSw; (try dsimp only at hSw); go_simp; try with_reducible rfl)
    try simp only [Act.put, List.setIfInBounds_toArray, List.set_cons_zero, List.set_cons_succ]
    refine wpAnyH_take (i := 38) (oi := ?ro38) (v := ?rv38) ?rh38 ?ra38 ?rb38 ?rc38 ?re38 ?rd38 hHeld ?rr38
    case rh38 => (simp only [List.getElem?_toArray, List.getElem?_cons_succ, List.getElem?_cons_zero]; rfl)
    case ra38 => kernel_rfl
    case rb38 => kernel_rfl
    case rc38 => kernel_rfl
    case re38 => exact fun _ _ _ h => h
    case rd38 => (refine Or.inl ⟨by rfl, ?_⟩; intro w hSw; (try dsimp only at hSw); go_simp; try with_reducible rfl)
    try simp only [Act.put, List.setIfInBounds_toArray, List.set_cons_zero, List.set_cons_succ]
    refine wpAnyH_take (i := 39) (oi := ?ro39) (v := ?rv39) ?rh39 ?ra39 ?rb39 ?rc39 ?re39 ?rd39 hHeld ?rr39
    case rh39 => (simp only [List.getElem?_toArray, List.getElem?_cons_succ, List.getElem?_cons_zero]; rfl)
    case ra39 => kernel_rfl
    case rb39 => kernel_rfl
    case rc39 => kernel_rfl
    case re39 => exact fun _ _ _ h => h
    case rd39 => (refine Or.inl ⟨by rfl, ?_⟩; intro w hSw; (try dsimp only at hSw); go_simp; try with_reducible rfl)
    try simp only [Act.put, List.setIfInBounds_toArray, List.set_cons_zero, List.set_cons_succ]
    refine wpAnyH_done (by kernel_rfl) ?_ _
    go_wp2
    go_ret
    refine ⟨by first | rfl | exact ret_bool (by rw [HP3.out, ByteArray.toList_eq]; rfl), ?_⟩
    assumption

set_option maxRecDepth 100000 in
theorem lifted (os : Os) (started : os.Started) (H : Type) (enc : TypeId × Value → H) :
    ReturnsInHanded {} Tryd.checked os 9 .any (fun w args => (Rows.dateYearsSpec.pre enc Tryd.prog Tryd.f9 [] false w args ∧ laidMetH Tryd.prog listed w) ∧ sizedMet enc Tryd.prog Tryd.f9 (OpenSpec.ofChange Rows.dateYearsSpec) false w args)
      (Rows.dateYearsSpec.post enc Tryd.prog Tryd.f9 false true false false) := by
  refine returnsInHanded_of_change_and (C := Tryd.checked) (X := fun w _ => laidMetH Tryd.prog listed w) (fun _ _ _ hh h => h.of_heap hh) own started (by kernel_rfl) Tryd.func9
    (ChangeSpec.witness_shaped (enc := enc) (C := Tryd.checked) (os := os) (X := fun w _ => laidMetH Tryd.prog listed w) false (laidOver (World.holding Tryd.prog os ⟨#[], #[], []⟩)) #[.int .i64 0] 8 rfl (World.shaped_of_RefB (by kernel_rfl) (by kernel_rfl)) (by kernel_rfl) (by kernel_rfl) (by kernel_rfl) (laid_over os _)) ?_
  intro W base args ds gs before hval0 hW hcnd hsz0 hL _
  have hT := tabs_listed hL
  have hval : ∀ (j : Nat) t v, Tryd.f9.params[j]? = some t → args[j]? = some v → Value.okWide Tryd.prog W .any base t v := hval0
  have hsz : (DataW.weightsEach Tryd.prog (Tryd.f9.params.toList ++ Rows.dateYearsSpec.plain.varTypes Tryd.prog) (ds ++ gs)).all (· ≤ reachBytes) = true := hsz0
  have hW' := hW
  obtain ⟨p, q, hA0, hV, rfl, hfz, hnd⟩ := hW
  have hA : DataW.TrodAll enc Tryd.prog W 0 (fun _ => true) true Tryd.f9.params.toList args.toList ds p := hA0
  rw [Tryd.params9] at hA hval hsz
  obtain ⟨v0, vs0, d0, ds0, p0, q0, hargs, rfl, rfl, h0, r0⟩ := trodAll_cons hA
  obtain ⟨rfl, rfl, rfl⟩ := trodAll_nil r0
  obtain rfl : args = #[v0] := by cases args; simp_all
  obtain ⟨rfl, rfl⟩ := trodVars_none hV
  obtain ⟨a0, rfl, rfl, rfl, w0⟩ := open_int Tryd.underlying3 (hval 0 3 v0 rfl rfl) h0
  clear hA0 hval0 hsz hsz0
  refine (walk a0 w0 W hT).mono fun e W' ⟨he, bel⟩ => ?_
  subst he
  exact ⟨_, rfl, _, _, _, [], _, [], hW', trodAll_mk1 (shut_bool Tryd.underlying4 _), (trodAll_cons_mk (shut_int Tryd.underlying3 w0) trodAll_mk0), rfl, bel.frame _, fun h => by cases h⟩

theorem over : Rows.dateYearsRow.holds Tryd.pinned (OpenSpec.ofChange Rows.dateYearsSpec) :=
  OpenClaim.holds_of_wide 9 Tryd.f9 rfl rfl rfl rfl rfl rfl rfl ⟨rfl, rfl, rfl, rfl, rfl⟩ rfl rfl rfl rfl rfl (by kernel_rfl) Tryd.func9 (by kernel_rfl)
    (of_decide_eq_true (by kernel_rfl)) (by unfold Func.isWrapper; first | (rw [if_pos (by decide +kernel)]; kernel_rfl) | (rw [if_neg (by decide +kernel)]; exact ⟨rfl, rfl⟩))
    (fun os started H enc _ => lifted os started H enc)

set_option maxRecDepth 100000 in
theorem card : Rows.DateYearsCardSaid :=
  Claim7.holds_tied_plain_at .later [] _ true Rows.dateYearsCard.stood.harness false
    over (fun _ h => by cases h) (by kernel_rfl) (fun _ h => by cases h) dateYears_row_tie rfl ⟨rfl, rfl⟩ (by kernel_rfl) rfl
    (fun f fn hf hfn => by
      obtain rfl : f = 9 := Option.some.inj ((show Tryd.prog.funcNamed Rows.dateYearsRow.func = some 9 by kernel_rfl).symm.trans hf) |>.symm
      obtain rfl : fn = Tryd.f9 := (Option.some.inj (Tryd.func9.symm.trans hfn)).symm
      exact ⟨by kernel_rfl, fun j t ht => by
        rw [Tryd.params9] at ht
        have hm : t ∈ [3] := by first | (simpa using Array.mem_of_getElem? ht) | (have hq := Array.mem_of_getElem? ht; simp at hq ⊢; omega)
        have hall : ([3].all fun u => !Tryd.prog.wantsStandIn u) = true := by kernel_rfl
        exact (show Tryd.prog.wantsStandIn t = false by simpa using List.all_eq_true.1 hall t hm)⟩)
    (by kernel_rfl)

end Go.Proofs.YtmmkokomffclmaaDoor.dateYears
namespace Go.Proofs.YtmmkokomffclmaaDoor
/-- The statement. -/
theorem dateYears_proved : Rows.DateYearsCardSaid := dateYears.card
end Go.Proofs.YtmmkokomffclmaaDoor
