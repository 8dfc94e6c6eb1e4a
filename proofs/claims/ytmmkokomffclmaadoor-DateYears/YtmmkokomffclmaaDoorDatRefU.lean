/-
  The document's own answers (package cracknelref10): Uniso: a contract.
-/
import Derived.Test.YtmmkokomffclmaaDoorDatRefI
namespace Go.Proofs.YtmmkokomffclmaaDoor
open Go.RowKit
set_option linter.unusedVariables false

/-- The number of so many digits (0: it is none). -/
def ufL (l : List UInt8) : Nat := if allD l = true then valN l else 0

theorem runf_at (s : ByteArray) (h1 : 1 ≤ s.size) (h2 : s.size ≤ 18) : ∃ b, ∀ w, Calls Tryd.prog 41 #[.string s] w fun e w' => e = .returned (.tuple #[.int .i64 (ufL s.data.toList : Nat), .bool b]) ∧ w = w' := by
  by_cases h : allD s.data.toList = true
  · have e : ufL s.data.toList = valN s.data.toList := if_pos h
    rw [e]
    exact ⟨true, fun w => runfixed_yes s _ w h1 h2 h rfl⟩
  · have e : ufL s.data.toList = 0 := if_neg h
    rw [e]
    exact ⟨false, fun w => runfixed_no s w (by unfold maxLen; omega) (.inr (.inr (by simpa using h)))⟩

theorem ufL_pad (n k : Nat) (h : n < 10 ^ k) : ufL (padK n k) = n := by
  unfold ufL
  rw [if_pos (padK_all n k), valN_pad, Nat.mod_eq_of_lt h]

theorem ufL_range (l : List UInt8) (k : Nat) (h : l.length ≤ k) : ufL l < 10 ^ k := by
  unfold ufL
  split
  · rename_i ha
    exact Nat.lt_of_lt_of_le (valN_lt l ha) (Nat.pow_le_pow_right (by decide) h)
  · exact pow_pos10 k

/-- The pieces of a text as archives have it. -/
theorem iso_pieces (y m d h i s : Nat) :
    (isoL y m d h i s).length = 20 ∧ ((isoL y m d h i s).drop 0).take 4 = padK y 4 ∧ ((isoL y m d h i s).drop 5).take 2 = padK m 2 ∧ ((isoL y m d h i s).drop 8).take 2 = padK d 2 ∧
    ((isoL y m d h i s).drop 11).take 2 = padK h 2 ∧ ((isoL y m d h i s).drop 14).take 2 = padK i 2 ∧ ((isoL y m d h i s).drop 17).take 2 = padK s 2 := by
  refine ⟨?_, ?_, ?_, ?_, ?_, ?_, ?_⟩ <;> simp [isoL, hmsL, padK]

theorem epoch0_at (y m d h i s : Int) : ∃ (t : Int) (b : Bool), (∀ w, Calls Tryd.prog 30 #[clkV y m d h i s] w fun e w' => e = .returned (.tuple #[.int .i64 t, .bool b]) ∧ Below w.heap.size w w') ∧
    (b = true → IsClock y m d h i s ∧ secs y m d h i s = t) ∧ (b = false → t = 0) := by
  by_cases hc : IsClock y m d h i s
  · exact ⟨_, true, fun w => repoch_yes y m d h i s w hc, fun _ => ⟨hc, rfl⟩, fun h => by cases h⟩
  · exact ⟨0, false, fun w => repoch_no y m d h i s w hc, (fun h => by cases h), fun _ => rfl⟩

set_option maxRecDepth 100000 in
set_option maxHeartbeats 1600000 in
theorem runiso_yes (t : Int) (y m d h i s : Nat) (w : World) (hs : Shows t y m d h i s) (h0 : 0 ≤ t) :
    Calls Tryd.prog 18 #[.string ⟨(isoL y m d h i s).toArray⟩] w fun e w' => e = .returned (.tuple #[.int .i64 t, .bool true]) ∧ Below w.heap.size w w' := by
  obtain ⟨p0, p1, p2, p3, p4, p5, p6⟩ := iso_pieces y m d h i s
  obtain ⟨s1, s2, s3, s4, s5, s6, s7⟩ := shows_small hs
  obtain ⟨S, hS⟩ : ∃ S : ByteArray, S = ⟨(isoL y m d h i s).toArray⟩ := ⟨_, rfl⟩
  have hl : S.data.toList = isoL y m d h i s := by rw [hS]
  have hz : S.size = 20 := by rw [← list_len, hl]; exact p0
  have cut : ∀ a b, (S.extract a b).data.toList = ((isoL y m d h i s).drop a).take (b - a) := fun a b => by rw [extract_list, hl]
  have sz : ∀ a b, b ≤ 20 → (S.extract a b).size = b - a := fun a b hb => by rw [ByteArray.size_extract]; omega
  obtain ⟨b1, B1⟩ := runf_at (S.extract 0 4) (by rw [sz 0 4 (by decide)]; decide) (by rw [sz 0 4 (by decide)]; decide)
  obtain ⟨b2, B2⟩ := runf_at (S.extract 5 7) (by rw [sz 5 7 (by decide)]; decide) (by rw [sz 5 7 (by decide)]; decide)
  obtain ⟨b3, B3⟩ := runf_at (S.extract 8 10) (by rw [sz 8 10 (by decide)]; decide) (by rw [sz 8 10 (by decide)]; decide)
  obtain ⟨b4, B4⟩ := runf_at (S.extract 11 13) (by rw [sz 11 13 (by decide)]; decide) (by rw [sz 11 13 (by decide)]; decide)
  obtain ⟨b5, B5⟩ := runf_at (S.extract 14 16) (by rw [sz 14 16 (by decide)]; decide) (by rw [sz 14 16 (by decide)]; decide)
  obtain ⟨b6, B6⟩ := runf_at (S.extract 17 19) (by rw [sz 17 19 (by decide)]; decide) (by rw [sz 17 19 (by decide)]; decide)
  rw [cut 0 4, show 4 - 0 = 4 from rfl, p1, ufL_pad y 4 s1] at B1
  rw [cut 5 7, show 7 - 5 = 2 from rfl, p2, ufL_pad m 2 (by omega)] at B2
  rw [cut 8 10, show 10 - 8 = 2 from rfl, p3, ufL_pad d 2 (by omega)] at B3
  rw [cut 11 13, show 13 - 11 = 2 from rfl, p4, ufL_pad h 2 (by omega)] at B4
  rw [cut 14 16, show 16 - 14 = 2 from rfl, p5, ufL_pad i 2 (by omega)] at B5
  rw [cut 17 19, show 19 - 17 = 2 from rfl, p6, ufL_pad s 2 (by omega)] at B6
  have H1 := Lib.hid B1
  have H2 := Lib.hid B2
  have H3 := Lib.hid B3
  have H4 := Lib.hid B4
  have H5 := Lib.hid B5
  have H6 := Lib.hid B6
  have HE := Lib.hid (repoch_yes y m d h i s · hs.1)
  have hs2 := hs.2
  rw [hs2] at HE
  have HI := Lib.hid (riso_yes t y m d h i s · hs h0)
  rw [← hS] at HI
  have hq : (S.toList == S.toList) = true := by simp
  rw [← hS]
  clear B1 B2 B3 B4 B5 B6 p0 p1 p2 p3 p4 p5 p6 s1 s2 s3 s4 s5 s6 s7 cut sz hl hs hs2 hS
  go_enter Tryd.func18, Tryd.ntmps18
  go_wp2_with fail
  refine (H1.out _).mono ?_
  rintro _ wz ⟨rfl, rfl⟩
  go_wp2_with fail
  refine (H2.out _).mono ?_
  rintro _ wz ⟨rfl, rfl⟩
  go_wp2_with fail
  refine (H3.out _).mono ?_
  rintro _ wz ⟨rfl, rfl⟩
  go_wp2_with fail
  refine (H4.out _).mono ?_
  rintro _ wz ⟨rfl, rfl⟩
  go_wp2_with fail
  refine (H5.out _).mono ?_
  rintro _ wz ⟨rfl, rfl⟩
  go_wp2_with fail
  refine (H6.out _).mono ?_
  rintro _ wz ⟨rfl, rfl⟩
  go_wp2_with fail
  refine (HE.out _).mono ?_
  rintro _ w1 ⟨rfl, hb1⟩
  go_wp2_with fail
  refine (HI.out _).mono ?_
  rintro _ w2 ⟨rfl, hb⟩
  have hb2 := chain hb1 hb
  clear hb hb1
  go_wp2
  go_ret2
  exact ⟨rfl, hb2⟩

set_option maxRecDepth 100000 in
set_option maxHeartbeats 1600000 in
theorem runiso_no (S : ByteArray) (w : World) (hS : S.size ≤ maxLen) (hn : ∀ (t : Int) (y m d h i s : Nat), Shows t y m d h i s → 0 ≤ t → S ≠ ⟨(isoL y m d h i s).toArray⟩) :
    Calls Tryd.prog 18 #[.string S] w fun e w' => e = .returned (.tuple #[.int .i64 0, .bool false]) ∧ Below w.heap.size w w' := by
  unfold maxLen at hS
  by_cases hz : S.size = 20
  · have sz : ∀ a b, b ≤ 20 → (S.extract a b).size = b - a := fun a b hb => by rw [ByteArray.size_extract]; omega
    obtain ⟨b1, B1⟩ := runf_at (S.extract 0 4) (by rw [sz 0 4 (by decide)]; decide) (by rw [sz 0 4 (by decide)]; decide)
    obtain ⟨b2, B2⟩ := runf_at (S.extract 5 7) (by rw [sz 5 7 (by decide)]; decide) (by rw [sz 5 7 (by decide)]; decide)
    obtain ⟨b3, B3⟩ := runf_at (S.extract 8 10) (by rw [sz 8 10 (by decide)]; decide) (by rw [sz 8 10 (by decide)]; decide)
    obtain ⟨b4, B4⟩ := runf_at (S.extract 11 13) (by rw [sz 11 13 (by decide)]; decide) (by rw [sz 11 13 (by decide)]; decide)
    obtain ⟨b5, B5⟩ := runf_at (S.extract 14 16) (by rw [sz 14 16 (by decide)]; decide) (by rw [sz 14 16 (by decide)]; decide)
    obtain ⟨b6, B6⟩ := runf_at (S.extract 17 19) (by rw [sz 17 19 (by decide)]; decide) (by rw [sz 17 19 (by decide)]; decide)
    generalize ufL (S.extract 0 4).data.toList = y at B1
    generalize ufL (S.extract 5 7).data.toList = m at B2
    generalize ufL (S.extract 8 10).data.toList = d at B3
    generalize ufL (S.extract 11 13).data.toList = h at B4
    generalize ufL (S.extract 14 16).data.toList = i at B5
    generalize ufL (S.extract 17 19).data.toList = s at B6
    obtain ⟨t, b, HEp, hyes, hno⟩ := epoch0_at y m d h i s
    have hI : ∃ (U : ByteArray) (q : Bool), (∀ w, Calls Tryd.prog 16 #[.int .i64 t] w fun e w' => e = .returned (.tuple #[.string U, .bool q]) ∧ Below w.heap.size w w') ∧ (b = true → q = true → U ≠ S) := by
      cases b
      · have ht := hno rfl
        subst ht
        obtain ⟨U, hU⟩ : ∃ U : ByteArray, U = ⟨(isoL 1970 1 1 0 0 0).toArray⟩ := ⟨_, rfl⟩
        exact ⟨_, true, fun w => riso_yes 0 1970 1 1 0 0 0 w ⟨by decide, by decide⟩ (by decide), fun h => by cases h⟩
      · obtain ⟨hc, hsec⟩ := hyes rfl
        have hsh : Shows t y m d h i s := ⟨hc, hsec⟩
        have hw := hsh.within
        by_cases h0 : 0 ≤ t
        · exact ⟨_, true, fun w => riso_yes t y m d h i s w hsh h0, fun _ _ e => hn t y m d h i s hsh h0 e.symm⟩
        · exact ⟨_, false, fun w => riso_no t w (by omega) (by omega) (.inl (by omega)), fun _ h => by cases h⟩
    obtain ⟨U, q, HIs, hne⟩ := hI
    have H1 := Lib.hid B1
    have H2 := Lib.hid B2
    have H3 := Lib.hid B3
    have H4 := Lib.hid B4
    have H5 := Lib.hid B5
    have H6 := Lib.hid B6
    have HE := Lib.hid HEp
    have HI := Lib.hid HIs
    have hcases : b = false ∨ (b = true ∧ q = false) ∨ (b = true ∧ q = true ∧ (U.toList == S.toList) = false) := by
      cases b
      · exact .inl rfl
      · cases q
        · exact .inr (.inl ⟨rfl, rfl⟩)
        · exact .inr (.inr ⟨rfl, rfl, by rw [eq_toList, decide_eq_false_iff_not]; exact hne rfl rfl⟩)
    clear B1 B2 B3 B4 B5 B6 HEp HIs hne hyes hno sz hn
    rcases hcases with rfl | ⟨rfl, rfl⟩ | ⟨rfl, rfl, hq⟩
    all_goals
      go_enter Tryd.func18, Tryd.ntmps18
      go_wp2_with fail
      refine (H1.out _).mono ?_
      rintro _ wz ⟨rfl, rfl⟩
      go_wp2_with fail
      refine (H2.out _).mono ?_
      rintro _ wz ⟨rfl, rfl⟩
      go_wp2_with fail
      refine (H3.out _).mono ?_
      rintro _ wz ⟨rfl, rfl⟩
      go_wp2_with fail
      refine (H4.out _).mono ?_
      rintro _ wz ⟨rfl, rfl⟩
      go_wp2_with fail
      refine (H5.out _).mono ?_
      rintro _ wz ⟨rfl, rfl⟩
      go_wp2_with fail
      refine (H6.out _).mono ?_
      rintro _ wz ⟨rfl, rfl⟩
      go_wp2_with fail
      refine (HE.out _).mono ?_
      rintro _ w1 ⟨rfl, hb1⟩
      go_wp2_with fail
      refine (HI.out _).mono ?_
      rintro _ w2 ⟨rfl, hb⟩
      have hb2 := chain hb1 hb
      clear hb hb1
      go_wp2
      go_ret2
      exact ⟨rfl, hb2⟩
  · go_enter Tryd.func18, Tryd.ntmps18
    go_wp2
    go_ret2
    exact ⟨rfl, Below.refl _ _⟩
end Go.Proofs.YtmmkokomffclmaaDoor
