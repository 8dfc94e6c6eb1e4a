/-
  alive of cracknellaw06, and what the statements use: contracts.
-/
import Derived.Test.YteoailanpmkcfaaLinesFns
namespace Go.Proofs.Yteoailanpmkcfaa
open Go.RowKit
set_option linter.unusedVariables false

theorem at_split {s : ByteArray} {l : List ByteArray} (w : World) (hs : s.size ≤ 1000000000000) (h : ofLs (linesL s.data.toList) = l) :
    Calls Try.prog 12 #[.string s] w fun e w' => (∃ v, e = .returned v ∧ StrsAt w' v l) ∧ Below w.heap.size w w' := h ▸ split_any s w hs
theorem at_tabs {s : ByteArray} {l : List ByteArray} (w : World) (hs : s.size ≤ 1000000000000) (h : ofLs (tabsL [] s.data.toList) = l) :
    Calls Try.prog 17 #[.string s] w fun e w' => (∃ v, e = .returned v ∧ StrsAt w' v l) ∧ Below w.heap.size w w' := h ▸ tabs_any s w hs
theorem at_join {v x : Value} {l : List ByteArray} (w : World) (hv : StrsAt w v l) (hl : l.length ≤ 10000) (hs : ∀ s ∈ l, s.size ≤ 1000000) (h : joinV l = x) :
    Calls Try.prog 15 #[v] w fun e w' => e = .returned x ∧ Below w.heap.size w w' := h ▸ join_any v l w hv hl hs
theorem at_tabbed {v x : Value} {l : List ByteArray} (w : World) (hv : StrsAt w v l) (hl : l.length ≤ 10000) (hs : ∀ s ∈ l, s.size ≤ 1000000) (h : tabbedV l = x) :
    Calls Try.prog 18 #[v] w fun e w' => e = .returned x ∧ Below w.heap.size w w' := h ▸ tabbed_any v l w hv hl hs
theorem at_escape {s t : ByteArray} (w : World) (hs : s.size ≤ 1000000000000) (h : escLB s.data.toList = t) :
    Calls Try.prog 21 #[.string s] w fun e w' => e = .returned (.string t) ∧ Below w.heap.size w w' := h ▸ escape_any s w hs
theorem at_unescape {s : ByteArray} {x : Value} (w : World) (hs : s.size ≤ 1000000000000) (h : readV (unescL s.data.toList) = x) :
    Calls Try.prog 22 #[.string s] w fun e w' => e = .returned x ∧ Below w.heap.size w w' := h ▸ unescape_any s w hs
theorem at_percent {s t : ByteArray} (w : World) (hs : s.size ≤ 1000000000000) (h : ofL (pctL s.data.toList) = t) :
    Calls Try.prog 27 #[.string s] w fun e w' => e = .returned (.string t) ∧ Below w.heap.size w w' := h ▸ percent_any s w hs
theorem at_unpercent {s : ByteArray} {x : Value} (w : World) (hs : s.size ≤ 1000000000000) (h : readV (unpctL s.data.toList) = x) :
    Calls Try.prog 25 #[.string s] w fun e w' => e = .returned x ∧ Below w.heap.size w w' := h ▸ unpercent_any s w hs

theorem two_small {a b : ByteArray} (ha : a.size ≤ 1000000) (hb : b.size ≤ 1000000) : ∀ s ∈ [a, b], s.size ≤ 1000000 := by
  intro s hs
  rcases List.mem_cons.1 hs with rfl | hs
  · exact ha
  · rw [List.mem_singleton.1 hs]
    exact hb

theorem at_join2 {a b : ByteArray} {x : Value} (W : World) (ha : a.size ≤ 1000000) (hb : b.size ≤ 1000000) (h : joinV [a, b] = x) :
    Calls Try.prog 15 #[.slice (some ⟨W.heap.size, 0, none⟩) 2 2] (W.alloc (.cells #[.string a, .string b] 9)) fun e w' => e = .returned x ∧ Below W.heap.size W w' := by
  refine (at_join (W.alloc _) (strs_two W a b) (by simp) (two_small ha hb) h).mono ?_
  rintro _ w1 ⟨rfl, hb⟩
  exact ⟨rfl, ((Below.refl _ _).alloc (Nat.le_refl _) _).trans (hb.mono (by simp))⟩
theorem at_tabbed2 {a b : ByteArray} {x : Value} (W : World) (ha : a.size ≤ 1000000) (hb : b.size ≤ 1000000) (h : tabbedV [a, b] = x) :
    Calls Try.prog 18 #[.slice (some ⟨W.heap.size, 0, none⟩) 2 2] (W.alloc (.cells #[.string a, .string b] 9)) fun e w' => e = .returned x ∧ Below W.heap.size W w' := by
  refine (at_tabbed (W.alloc _) (strs_two W a b) (by simp) (two_small ha hb) h).mono ?_
  rintro _ w1 ⟨rfl, hb⟩
  exact ⟨rfl, ((Below.refl _ _).alloc (Nat.le_refl _) _).trans (hb.mono (by simp))⟩

theorem add0 (ad : Addr) : ad.add 0 = ad := by simp [Addr.add]

set_option maxRecDepth 100000 in
set_option maxHeartbeats 1600000 in
theorem alive_any (w : World) : Calls Try.prog 11 #[] w fun e w' => e = .returned (.bool true) ∧ Below w.heap.size w w' := by
  go_enter Try.func11, Try.ntmps11
  go_wp2_with fail
  refine (at_split (s := ⟨#[97, 13, 10, 10, 98]⟩) (l := [⟨#[97]⟩, ⟨#[]⟩, ⟨#[98]⟩]) _ (by decide) (by kernel_rfl)).mono ?_
  rintro _ w1 ⟨⟨v, rfl, hv⟩, hb1⟩
  have HV := Lib.hid hv
  have hp : ∃ ad cap, v = .slice (some ad) 3 cap := by
    rcases hv with ⟨_, h⟩ | ⟨ad, cap, h, _⟩
    · cases h
    · exact ⟨ad, cap, h⟩
  obtain ⟨ad, cap, rfl⟩ := hp
  clear hv
  go_wp2_with fail
  refine (at_join2 (a := ⟨#[97]⟩) (b := ⟨#[]⟩) (x := .tuple #[.string ⟨#[97, 10, 10]⟩, .bool true]) _ (by decide) (by decide) (by kernel_rfl)).mono ?_
  rintro _ w2 ⟨rfl, hb⟩
  have HV2 := Lib.hid (HV.out.keep hb)
  have hb2 := chain hb1 hb
  clear hb hb1 HV
  go_wp2_with fail
  refine (at_tabs (s := ⟨#[97, 9]⟩) (l := [⟨#[97]⟩, ⟨#[]⟩]) _ (by decide) (by kernel_rfl)).mono ?_
  rintro _ w1 ⟨⟨u, rfl, hu⟩, hb⟩
  have HV := Lib.hid (HV2.out.keep hb)
  have hb1 := chain hb2 hb
  have HU := Lib.hid hu
  have hp : ∃ ad cap, u = .slice (some ad) 2 cap := by
    rcases hu with ⟨_, h⟩ | ⟨ad, cap, h, _⟩
    · cases h
    · exact ⟨ad, cap, h⟩
  obtain ⟨ad2, cap2, rfl⟩ := hp
  clear hu hb hb2 HV2
  go_wp2_with fail
  refine (at_tabbed2 (a := ⟨#[97]⟩) (b := ⟨#[98]⟩) (x := .tuple #[.string ⟨#[97, 9, 98]⟩, .bool true]) _ (by decide) (by decide) (by kernel_rfl)).mono ?_
  rintro _ w2 ⟨rfl, hb⟩
  have HV2 := Lib.hid (HV.out.keep hb)
  have HU2 := Lib.hid (HU.out.keep hb)
  have hb2 := chain hb1 hb
  clear hb hb1 HV HU
  go_wp2_with fail
  refine (at_tabbed (v := .slice none 0 0) (l := []) (x := .tuple #[.string ByteArray.empty, .bool false]) _ (StrsAt.nil _) (by simp) (by simp) (by kernel_rfl)).mono ?_
  rintro _ w1 ⟨rfl, hb⟩
  have HV := Lib.hid (HV2.out.keep hb)
  have HU := Lib.hid (HU2.out.keep hb)
  have hb1 := chain hb2 hb
  clear hb hb2 HV2 HU2
  go_wp2_with fail
  refine (at_unescape (s := ⟨#[97, 92, 116, 98]⟩) (x := .tuple #[.string ⟨#[97, 9, 98]⟩, .bool true]) _ (by decide) (by kernel_rfl)).mono ?_
  rintro _ w2 ⟨rfl, hb⟩
  have HV2 := Lib.hid (HV.out.keep hb)
  have HU2 := Lib.hid (HU.out.keep hb)
  have hb2 := chain hb1 hb
  clear hb hb1 HV HU
  go_wp2_with fail
  refine (at_unpercent (s := ⟨#[97, 37, 50, 48, 98]⟩) (x := .tuple #[.string ⟨#[97, 32, 98]⟩, .bool true]) _ (by decide) (by kernel_rfl)).mono ?_
  rintro _ w1 ⟨rfl, hb⟩
  have HV := Lib.hid (HV2.out.keep hb)
  have HU := Lib.hid (HU2.out.keep hb)
  have hb1 := chain hb2 hb
  clear hb hb2 HV2 HU2
  have c0 : w1.cell? ad = some (.string ⟨#[97]⟩) := by
    rcases HV.out with ⟨h, _⟩ | ⟨a, c, h, _, hc⟩
    · cases h
    · cases h
      have := hc 0 (by decide)
      rw [add0] at this
      exact this
  have c2 : w1.cell? ⟨ad.block, ad.off + 2, none⟩ = some (.string ⟨#[98]⟩) := by
    rcases HV.out with ⟨h, _⟩ | ⟨a, c, h, _, hc⟩
    · cases h
    · cases h
      exact hc 2 (by decide)
  have d0 : w1.cell? ad2 = some (.string ⟨#[97]⟩) := by
    rcases HU.out with ⟨h, _⟩ | ⟨a, c, h, _, hc⟩
    · cases h
    · cases h
      have := hc 0 (by decide)
      rw [add0] at this
      exact this
  clear HV HU
  go_wp2_with fail
  refine (at_escape (s := ⟨#[97, 9, 98]⟩) (t := ⟨#[97, 92, 116, 98]⟩) _ (by decide) (by kernel_rfl)).mono ?_
  rintro _ w2 ⟨rfl, hb⟩
  have hb2 := chain hb1 hb
  clear hb hb1 c0 c2 d0
  go_wp2_with fail
  refine (at_percent (s := ⟨#[97, 32, 98, 47]⟩) (t := ⟨#[97, 37, 50, 48, 98, 37, 50, 70]⟩) _ (by decide) (by kernel_rfl)).mono ?_
  rintro _ w1 ⟨rfl, hb⟩
  have hb1 := chain hb2 hb
  clear hb hb2
  go_wp2
  go_ret
  exact ⟨rfl, hb1⟩
end Go.Proofs.Yteoailanpmkcfaa
