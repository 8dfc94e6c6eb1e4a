/-
  alive of cracknellaw11: a contract.
-/
import Derived.Test.YtlcnnkameflidaaDoorHosP
namespace Go.Proofs.YtlcnnkameflidaaDoor
open Go.RowKit
set_option linter.unusedVariables false

theorem canon_at {s : ByteArray} {v : Value} (w : World) (hs : s.size ≤ 281474976710656) (h : canV (lowB s) = v) : Calls Tryd.prog 9 #[.string s] w fun e w' => e = .returned v ∧ Below w.heap.size w w' := h ▸ canon_any s w hs
theorem rcanon_at {s : ByteArray} {v : Value} (w : World) (hs : s.size ≤ 281474976710656) (h : canV (lowB s) = v) : Calls Tryd.prog 10 #[.string s] w fun e w' => e = .returned v ∧ Below w.heap.size w w' := h ▸ rcanon_any s w hs
theorem ip_at {s : ByteArray} {b : Bool} (w : World) (hs : s.size ≤ 100000) (h : ipB s.data.toList = b) : Calls Tryd.prog 13 #[.string s] w fun e w' => e = .returned (.bool b) ∧ Below w.heap.size w w' := h ▸ ip_any s w hs
theorem rip_at {s : ByteArray} {b : Bool} (w : World) (hs : s.size ≤ 100000) (h : ipB s.data.toList = b) : Calls Tryd.prog 14 #[.string s] w fun e w' => e = .returned (.bool b) ∧ Below w.heap.size w w' := h ▸ rip_any s w hs
theorem match_at {a d : ByteArray} {b : Bool} (w : World) (ha : a.size ≤ 100000) (hd : d.size ≤ 100000) (h : matchB a.data.toList d.data.toList = b) : Calls Tryd.prog 15 #[.string a, .string d] w fun e w' => e = .returned (.bool b) ∧ Below w.heap.size w w' := h ▸ match_any a d w ha hd
theorem rmatch_at {a d : ByteArray} {b : Bool} (w : World) (ha : a.size ≤ 100000) (hd : d.size ≤ 100000) (h : matchB a.data.toList d.data.toList = b) : Calls Tryd.prog 16 #[.string a, .string d] w fun e w' => e = .returned (.bool b) ∧ Below w.heap.size w w' := h ▸ rmatch_any a d w ha hd
theorem parents_at {s : ByteArray} {l : List ByteArray} (w : World) (hs : s.size ≤ 100000) (h : ofLs (parentsL s.data.toList) = l) : Calls Tryd.prog 17 #[.string s] w fun e w' => (∃ v, e = .returned v ∧ StrsAt w' v l) ∧ Below w.heap.size w w' := h ▸ parents_any s w hs

theorem av_can : canV (lowB ⟨#[65, 46, 69, 120, 97, 109, 112, 108, 101]⟩) = .tuple #[.string ⟨#[97, 46, 101, 120, 97, 109, 112, 108, 101]⟩, .bool true] := by
  have e : lowB ⟨#[65, 46, 69, 120, 97, 109, 112, 108, 101]⟩ = ⟨#[97, 46, 101, 120, 97, 109, 112, 108, 101]⟩ := by apply ba_ext; decide
  rw [e]
  exact canV_yes _ (by decide)
theorem av_no : canV (lowB ⟨#[97, 46, 46, 98]⟩) = .tuple #[.string ByteArray.empty, .bool false] := by
  have e : lowB ⟨#[97, 46, 46, 98]⟩ = ⟨#[97, 46, 46, 98]⟩ := by apply ba_ext; decide
  rw [e]
  exact canV_no _ (by decide)
theorem av_abc : ipB [97, 46, 98, 46, 99] = false := by decide +kernel
theorem av_ip : ipB [49, 46, 50, 46, 51, 46, 52] = true := by decide +kernel
theorem av_not : ipB [49, 46, 50, 46, 51, 46, 48, 52] = false := by decide +kernel
theorem av_m1 : matchB [97, 46, 98, 46, 99] [98, 46, 99] = true := by decide +kernel
theorem av_m2 : matchB [97, 98, 46, 99] [98, 46, 99] = false := by decide +kernel
theorem av_m3 : matchB [49, 46, 50, 46, 51, 46, 52] [51, 46, 52] = false := by decide +kernel
theorem av_p1 : ofLs (parentsL [97, 46, 98, 46, 99]) = [⟨#[97, 46, 98, 46, 99]⟩, ⟨#[98, 46, 99]⟩, ⟨#[99]⟩] := by
  unfold parentsL
  rw [av_abc]
  rfl
theorem av_p2 : ofLs (parentsL [49, 46, 50, 46, 51, 46, 52]) = [⟨#[49, 46, 50, 46, 51, 46, 52]⟩] := by
  unfold parentsL
  rw [av_ip]
  rfl

set_option maxRecDepth 100000 in
set_option maxHeartbeats 1600000 in
theorem alive_any (w : World) : Calls Tryd.prog 12 #[] w fun e w' => e = .returned (.bool true) ∧ Below w.heap.size w w' := by
  go_enter Tryd.func12, Tryd.ntmps12
  go_wp2_with fail
  refine (canon_at _ (by decide) av_can).mono ?_
  rintro _ w1 ⟨rfl, hb1⟩
  go_wp2_with fail
  refine (canon_at _ (by decide) av_no).mono ?_
  rintro _ w2 ⟨rfl, hb⟩
  have hb2 := chain hb1 hb
  clear hb hb1
  go_wp2_with fail
  refine (parents_at (s := ⟨#[97, 46, 98, 46, 99]⟩) _ (by decide) av_p1).mono ?_
  rintro _ w1 ⟨⟨v, rfl, hv⟩, hb⟩
  have hb1 := chain hb2 hb
  clear hb hb2
  obtain ⟨ao, n, cap, rfl, hn, hc⟩ := hv.shape
  obtain rfl : n = 3 := hn
  obtain ⟨ad, rfl, hc1⟩ := hc 1 (by decide)
  have HC : w1.cell? ⟨ad.block, ad.off + 1, none⟩ = some (.string ⟨#[98, 46, 99]⟩) := by simpa [Addr.add] using hc1
  clear hc hv hc1
  go_wp2_with fail
  refine (ip_at (s := ⟨#[49, 46, 50, 46, 51, 46, 52]⟩) _ (by decide) av_ip).mono ?_
  rintro _ w2 ⟨rfl, hb⟩
  have HC2 : w2.cell? ⟨ad.block, ad.off + 1, none⟩ = some (.string ⟨#[98, 46, 99]⟩) := by rw [hb.cell (World.block_lt_of_cell? _ _ HC)]; exact HC
  have hb2 := chain hb1 hb
  clear hb hb1 HC
  go_wp2_with fail
  refine (ip_at (s := ⟨#[49, 46, 50, 46, 51, 46, 48, 52]⟩) _ (by decide) av_not).mono ?_
  rintro _ w1 ⟨rfl, hb⟩
  have HC : w1.cell? ⟨ad.block, ad.off + 1, none⟩ = some (.string ⟨#[98, 46, 99]⟩) := by rw [hb.cell (World.block_lt_of_cell? _ _ HC2)]; exact HC2
  have hb1 := chain hb2 hb
  clear hb hb2 HC2
  go_wp2_with fail
  refine (match_at (a := ⟨#[97, 46, 98, 46, 99]⟩) (d := ⟨#[98, 46, 99]⟩) _ (by decide) (by decide) av_m1).mono ?_
  rintro _ w2 ⟨rfl, hb⟩
  have HC2 : w2.cell? ⟨ad.block, ad.off + 1, none⟩ = some (.string ⟨#[98, 46, 99]⟩) := by rw [hb.cell (World.block_lt_of_cell? _ _ HC)]; exact HC
  have hb2 := chain hb1 hb
  clear hb hb1 HC
  go_wp2_with fail
  refine (match_at (a := ⟨#[97, 98, 46, 99]⟩) (d := ⟨#[98, 46, 99]⟩) _ (by decide) (by decide) av_m2).mono ?_
  rintro _ w1 ⟨rfl, hb⟩
  have HC : w1.cell? ⟨ad.block, ad.off + 1, none⟩ = some (.string ⟨#[98, 46, 99]⟩) := by rw [hb.cell (World.block_lt_of_cell? _ _ HC2)]; exact HC2
  have hb1 := chain hb2 hb
  clear hb hb2 HC2
  go_wp2_with fail
  refine (match_at (a := ⟨#[49, 46, 50, 46, 51, 46, 52]⟩) (d := ⟨#[51, 46, 52]⟩) _ (by decide) (by decide) av_m3).mono ?_
  rintro _ w2 ⟨rfl, hb⟩
  have HC2 : w2.cell? ⟨ad.block, ad.off + 1, none⟩ = some (.string ⟨#[98, 46, 99]⟩) := by rw [hb.cell (World.block_lt_of_cell? _ _ HC)]; exact HC
  have hb2 := chain hb1 hb
  clear hb hb1 HC
  go_wp2_with fail
  refine (parents_at (s := ⟨#[49, 46, 50, 46, 51, 46, 52]⟩) _ (by decide) av_p2).mono ?_
  rintro _ w1 ⟨⟨v, rfl, hv⟩, hb⟩
  have hb1 := chain hb2 hb
  clear hb hb2 HC2
  obtain ⟨ao, n, cap, rfl, hn, hc⟩ := hv.shape
  obtain rfl : n = 1 := hn
  clear hc hv
  go_wp2
  go_ret
  exact ⟨rfl, hb1⟩
end Go.Proofs.YtlcnnkameflidaaDoor
