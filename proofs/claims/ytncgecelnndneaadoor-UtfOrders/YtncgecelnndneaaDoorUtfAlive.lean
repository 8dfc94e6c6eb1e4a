/-
  alive of cracknellaw05, and what the statements use: contracts.
-/
import Derived.Test.YtncgecelnndneaaDoorUtfRunesP
import Derived.Test.YtncgecelnndneaaDoorUtfTextP
namespace Go.Proofs.YtncgecelnndneaaDoor
open Go.RowKit
set_option linter.unusedVariables false

theorem at_runes {s : ByteArray} {rs : List Nat} (w : World) (hT : Tabs w) (hs : s.size ≤ 1000000000000) (h : runesU s.data.toList = some rs) :
    Calls Tryd.prog 16 #[.string s] w fun e w' => (∃ v, e = .returned (.tuple #[v, .bool true]) ∧ IntsAt w' v (intsN rs)) ∧ Below w.heap.size w w' := by
  refine (runes_any s w hT hs).mono ?_
  rintro _ w1 ⟨⟨qs, v, hq, rfl, hv⟩ | ⟨v, hq, rfl, hv⟩, hb⟩
  · rw [h] at hq
    cases hq
    exact ⟨⟨v, rfl, hv⟩, hb⟩
  · rw [h] at hq
    cases hq

theorem at_runes_no {s : ByteArray} (w : World) (hT : Tabs w) (hs : s.size ≤ 1000000000000) (h : runesU s.data.toList = none) :
    Calls Tryd.prog 16 #[.string s] w fun e w' => (∃ v, e = .returned (.tuple #[v, .bool false]) ∧ IntsAt w' v []) ∧ Below w.heap.size w w' := by
  refine (runes_any s w hT hs).mono ?_
  rintro _ w1 ⟨⟨qs, v, hq, rfl, hv⟩ | ⟨v, hq, rfl, hv⟩, hb⟩
  · rw [h] at hq
    cases hq
  · exact ⟨⟨v, rfl, hv⟩, hb⟩

theorem at_rrunes {s : ByteArray} {rs : List Nat} (w : World) (hs : s.size ≤ 1000000000000) (h : runesU s.data.toList = some rs) :
    Calls Tryd.prog 19 #[.string s] w fun e w' => (∃ v, e = .returned (.tuple #[v, .bool true]) ∧ IntsAt w' v (intsN rs)) ∧ Below w.heap.size w w' := by
  refine (rrunes_any s w hs).mono ?_
  rintro _ w1 ⟨⟨qs, v, hq, rfl, hv⟩ | ⟨hq, rfl⟩, hb⟩
  · rw [h] at hq
    cases hq
    exact ⟨⟨v, rfl, hv⟩, hb⟩
  · rw [h] at hq
    cases hq

theorem at_rrunes_no {s : ByteArray} (w : World) (hs : s.size ≤ 1000000000000) (h : runesU s.data.toList = none) :
    Calls Tryd.prog 19 #[.string s] w fun e w' => (∃ v, e = .returned (.tuple #[v, .bool false]) ∧ IntsAt w' v []) ∧ Below w.heap.size w w' := by
  refine (rrunes_any s w hs).mono ?_
  rintro _ w1 ⟨⟨qs, v, hq, rfl, hv⟩ | ⟨hq, rfl⟩, hb⟩
  · rw [h] at hq
    cases hq
  · exact ⟨⟨_, rfl, IntsAt.nil _⟩, hb⟩

theorem at_text {v : Value} {l : List Int} {t : ByteArray} (w : World) (hv : IntsAt w v l) (hl : l.length ≤ 1000000000000) (hb : ∀ n ∈ l, -9223372036854775808 ≤ n ∧ n ≤ 9223372036854775807) (ha : allL l = true) (ht : textB l = t) :
    Calls Tryd.prog 14 #[v] w fun e w' => e = .returned (.tuple #[.string t, .bool true]) ∧ Below w.heap.size w w' := by
  have h := text_any v l w hv hl hb
  unfold textV at h
  rw [ha, ht] at h
  exact h

theorem ints_two (W : World) (a b : Int) : IntsAt (W.alloc (.cells #[.int .i64 a, .int .i64 b] 3)) (.slice (some ⟨W.heap.size, 0, none⟩) 2 2) [a, b] := by
  refine .inr ⟨⟨W.heap.size, 0, none⟩, 2, rfl, Nat.le_refl _, fun j hj => ?_⟩
  have : j = 0 ∨ j = 1 := by
    have : j < 2 := by simpa using hj
    omega
  rcases this with rfl | rfl <;> simp [Addr.add]

theorem av_text (W : World) : Calls Tryd.prog 14 #[.slice (some ⟨W.heap.size, 0, none⟩) 2 2] (W.alloc (.cells #[.int .i64 97, .int .i64 228] 3)) fun e w' => e = .returned (.tuple #[.string ⟨#[97, 195, 164]⟩, .bool true]) ∧ Below W.heap.size W w' := by
  refine (at_text (t := ⟨#[97, 195, 164]⟩) _ (ints_two W 97 228) (by simp) (by simp) (by decide) (by kernel_rfl)).mono ?_
  rintro _ w1 ⟨rfl, hb⟩
  exact ⟨rfl, ((Below.refl _ _).alloc (Nat.le_refl _) _).trans (hb.mono (by simp))⟩

set_option maxRecDepth 100000 in
set_option maxHeartbeats 1600000 in
theorem alive_any (w : World) (hT : Tabs w) : Calls Tryd.prog 12 #[] w fun e w' => e = .returned (.bool true) ∧ Below w.heap.size w w' := by
  go_enter Tryd.func12, Tryd.ntmps12
  go_wp2_with fail
  refine (putu_yes 228 _ (by decide)).mono ?_
  rintro _ w1 ⟨rfl, hb1⟩
  rw [show putUB 228 = ⟨#[195, 164]⟩ by kernel_rfl]
  go_wp2_with fail
  refine (takeu_any ⟨#[195, 164, 122]⟩ 228 2 true _ (by first | exact hT | exact hT.keep hb1 | exact hT.keep hb2) (by kernel_rfl)).mono ?_
  rintro _ w2 ⟨rfl, hb⟩
  have hb2 := chain hb1 hb
  clear hb hb1
  go_wp2_with fail
  refine (takeu_any ⟨#[192, 128]⟩ 0 0 false _ (by first | exact hT | exact hT.keep hb1 | exact hT.keep hb2) (by kernel_rfl)).mono ?_
  rintro _ w1 ⟨rfl, hb⟩
  have hb1 := chain hb2 hb
  clear hb hb2
  go_wp2_with fail
  refine (av_text _).mono ?_
  rintro _ w2 ⟨rfl, hb⟩
  have hb2 := chain hb1 hb
  clear hb hb1
  go_wp2_with fail
  refine (at_runes (s := ⟨#[97, 195, 164]⟩) (rs := [97, 228]) _ (by first | exact hT | exact hT.keep hb1 | exact hT.keep hb2) (by decide) (by kernel_rfl)).mono ?_
  rintro _ w1 ⟨⟨v, rfl, hv⟩, hb⟩
  have hb1 := chain hb2 hb
  clear hb hb2
  rcases hv with ⟨_, h⟩ | ⟨ad, cap, rfl, _, hcell⟩
  · cases h
  · have hc1 : w1.cell? ⟨ad.block, ad.off + 1, none⟩ = some (.int .i64 228) := hcell 1 (by decide)
    rw [show (intsN [97, 228]).length = 2 from rfl]
    clear hcell
    go_wp2_with fail
    refine (at_valid (s := ⟨#[]⟩) (b := true) _ (by first | exact hT | exact hT.keep hb1 | exact hT.keep hb2) (by decide) (by kernel_rfl)).mono ?_
    rintro _ w2 ⟨rfl, hb⟩
    have hb2 := chain hb1 hb
    clear hb hb1
    go_wp2_with fail
    refine (at_valid (s := ⟨#[255]⟩) (b := false) _ (by first | exact hT | exact hT.keep hb1 | exact hT.keep hb2) (by decide) (by kernel_rfl)).mono ?_
    rintro _ w1 ⟨rfl, hb⟩
    have hb1 := chain hb2 hb
    clear hb hb2
    go_wp2
    go_ret
    exact ⟨rfl, hb1⟩
end Go.Proofs.YtncgecelnndneaaDoor
