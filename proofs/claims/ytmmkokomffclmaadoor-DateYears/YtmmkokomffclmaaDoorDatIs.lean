/-
  Dates as headers and as archives have them: which text is a time's; the document's own contracts in these words.
-/
import Derived.Test.YtmmkokomffclmaaDoorDatMore
import Derived.Test.YtmmkokomffclmaaDoorDatRefC
import Derived.Test.YtmmkokomffclmaaDoorDatRefF
import Derived.Test.YtmmkokomffclmaaDoorDatRefU
namespace Go.Proofs.YtmmkokomffclmaaDoor
open Go.RowKit
set_option linter.unusedVariables false

/-- S is t as headers have it. -/
def IsImf (t : Int) (S : ByteArray) : Prop := ∃ x y m d h i s : Nat, Shows t y m d h i s ∧ 0 ≤ t ∧ wday (t / 86400) = x ∧ S = ⟨(imfL x y m d h i s).toArray⟩

/-- S is t as archives have it. -/
def IsIso (t : Int) (S : ByteArray) : Prop := ∃ y m d h i s : Nat, Shows t y m d h i s ∧ 0 ≤ t ∧ S = ⟨(isoL y m d h i s).toArray⟩

theorem shows_nat {t y m d h i s : Int} (hs : Shows t y m d h i s) : ∃ y' m' d' h' i' s' : Nat, y = y' ∧ m = m' ∧ d = d' ∧ h = h' ∧ i = i' ∧ s = s' := by
  obtain ⟨⟨hd, h1, h2, h3, h4, h5, h6⟩, _⟩ := hs
  obtain ⟨y1, y2, m1, m2, d1, d2⟩ := hd.range
  exact ⟨y.toNat, m.toNat, d.toNat, h.toNat, i.toNat, s.toNat, by omega, by omega, by omega, by omega, by omega, by omega⟩

theorem exists_iso (t : Int) (h1 : 0 ≤ t) (h2 : t ≤ 253402300799) : ∃ S, IsIso t S := by
  obtain ⟨y, m, d, h, i, s, hs⟩ := exists_clock t (by omega) h2
  obtain ⟨y', m', d', h', i', s', rfl, rfl, rfl, rfl, rfl, rfl⟩ := shows_nat hs
  exact ⟨_, y', m', d', h', i', s', hs, h1, rfl⟩

theorem exists_imf (t : Int) (h1 : 0 ≤ t) (h2 : t ≤ 253402300799) : ∃ S, IsImf t S := by
  obtain ⟨y, m, d, h, i, s, hs⟩ := exists_clock t (by omega) h2
  obtain ⟨y', m', d', h', i', s', rfl, rfl, rfl, rfl, rfl, rfl⟩ := shows_nat hs
  have hw : 0 ≤ wday (t / 86400) := by unfold wday; omega
  exact ⟨_, (wday (t / 86400)).toNat, y', m', d', h', i', s', hs, h1, by omega, rfl⟩

theorem IsIso.size {t : Int} {S : ByteArray} (h : IsIso t S) : S.size = 20 := by
  obtain ⟨y, m, d, h, i, s, hs, h0, rfl⟩ := h
  have := (iso_pieces y m d h i s).1
  show (isoL y m d h i s).toArray.size = 20
  simpa using this

theorem IsIso.range {t : Int} {S : ByteArray} (h : IsIso t S) : 0 ≤ t ∧ t ≤ 253402300799 := by
  obtain ⟨y, m, d, h, i, s, hs, h0, rfl⟩ := h
  exact ⟨h0, hs.within.2⟩

theorem year_1970 {t y m d h i s : Int} (hs : Shows t y m d h i s) (h0 : 0 ≤ t) : 1970 ≤ y := by
  obtain ⟨⟨hd, h1, h2, h3, h4, h5, h6⟩, hsec⟩ := hs
  rcases Int.lt_or_le y 1970 with h7 | h7
  · have b := hd.bounds
    have c := ys_mono (show y + 1 ≤ 1970 by omega)
    rw [ys_1970] at c
    unfold secs at hsec
    omega
  · exact h7

theorem IsImf.facts {t : Int} {S : ByteArray} (h : IsImf t S) : S.size = 29 ∧ cookieL S.data.toList = (t, true) := by
  obtain ⟨x, y, m, d, h, i, s, hs, h0, hx, rfl⟩ := h
  have hx7 : x < 7 := by unfold wday at hx; omega
  obtain ⟨s1, s2, s3, s4, s5, s6, s7⟩ := shows_small hs
  have hy := year_1970 hs h0
  have hd : ∀ k, k < 7 → (daysH.getD k []).length = 3 := by decide
  have hm : ∀ k, k < 12 → (monthsH.getD k []).length = 3 := by decide
  constructor
  · show (imfL x y m d h i s).toArray.size = 29
    rw [List.size_toArray]
    unfold imfL
    rw [hmsL_eq]
    simp only [List.length_append, List.length_cons, List.length_nil, padK_len, hd x hx7, hm (m - 1) (by omega)]
  · show cookieL (imfL x y m d h i s) = _
    rw [cookie_imf x y m d h i s hx7 hs.1 (by omega), hs.2]

theorem rimf_is (t : Int) (S : ByteArray) (w : World) (h : IsImf t S) :
    Calls Tryd.prog 14 #[.int .i64 t] w fun e w' => e = .returned (.tuple #[.string S, .bool true]) ∧ Below w.heap.size w w' := by
  obtain ⟨x, y, m, d, h, i, s, hs, h0, hx, rfl⟩ := h
  exact rimf_yes t x y m d h i s w hs h0 hx

theorem riso_is (t : Int) (S : ByteArray) (w : World) (h : IsIso t S) :
    Calls Tryd.prog 16 #[.int .i64 t] w fun e w' => e = .returned (.tuple #[.string S, .bool true]) ∧ Below w.heap.size w w' := by
  obtain ⟨y, m, d, h, i, s, hs, h0, rfl⟩ := h
  exact riso_yes t y m d h i s w hs h0

theorem runiso_is (t : Int) (S : ByteArray) (w : World) (h : IsIso t S) :
    Calls Tryd.prog 18 #[.string S] w fun e w' => e = .returned (.tuple #[.int .i64 t, .bool true]) ∧ Below w.heap.size w w' := by
  obtain ⟨y, m, d, h, i, s, hs, h0, rfl⟩ := h
  exact runiso_yes t y m d h i s w hs h0

theorem runiso_not (S : ByteArray) (w : World) (hS : S.size ≤ maxLen) (hn : ∀ t, ¬ IsIso t S) :
    Calls Tryd.prog 18 #[.string S] w fun e w' => e = .returned (.tuple #[.int .i64 0, .bool false]) ∧ Below w.heap.size w w' :=
  runiso_no S w hS (fun t y m d h i s hs h0 e => hn t ⟨y, m, d, h, i, s, hs, h0, e⟩)

theorem rcookie_at {s : ByteArray} {i : Int} {b : Bool} (w : World) (hs : s.size ≤ 1000000) (h : cookieL s.data.toList = (i, b)) :
    Calls Tryd.prog 12 #[.string s] w fun e w' => e = .returned (.tuple #[.int .i64 i, .bool b]) ∧ Below w.heap.size w w' := by
  have := rcookie_any s w hs
  rw [h] at this
  exact this
end Go.Proofs.YtmmkokomffclmaaDoor
