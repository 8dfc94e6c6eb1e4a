/-
  alive of cracknellaw12: a contract.
-/
import Derived.Test.YthempdglmhmfeaaDoorPatP
import Derived.Test.YthempdglmhmfeaaDoorPatRefM
import Derived.Test.YthempdglmhmfeaaDoorPatRefP
namespace Go.Proofs.YthempdglmhmfeaaDoor
open Go.RowKit
set_option linter.unusedVariables false

theorem rgt_at {s : ByteArray} {b : Bool} (w : World) (hs : s.size ≤ 1000000) (h : rightB s.data.toList = b) : Calls Tryd.prog 11 #[.string s] w fun e w' => e = .returned (.bool b) ∧ Below w.heap.size w w' := h ▸ rgt_any s w hs
theorem rrgt_at {s : ByteArray} {b : Bool} (w : World) (hs : s.size ≤ 1000000) (h : rightB s.data.toList = b) : Calls Tryd.prog 12 #[.string s] w fun e w' => e = .returned (.bool b) ∧ Below w.heap.size w w' := h ▸ rright_any s w (by unfold maxLen; omega)
theorem def_at {s d : ByteArray} (w : World) (hs : s.size ≤ 1000000) (h : defB s = d) : Calls Tryd.prog 10 #[.string s] w fun e w' => e = .returned (.string d) ∧ Below w.heap.size w w' := h ▸ def_any s w hs
theorem rdef_at {s d : ByteArray} (w : World) (hs : s.size ≤ 1000000) (h : defB s = d) : Calls Tryd.prog 13 #[.string s] w fun e w' => e = .returned (.string d) ∧ Below w.heap.size w w' := h ▸ (rdef_any s w (by omega)).mono fun e w' ⟨a, b⟩ => ⟨a, b ▸ Below.refl _ _⟩
theorem mt_at {r c : ByteArray} {b : Bool} (w : World) (hr : r.size ≤ 1000000) (hc : c.size ≤ 1000000) (h : pmB r.data.toList c.data.toList = b) : Calls Tryd.prog 14 #[.string r, .string c] w fun e w' => e = .returned (.bool b) ∧ Below w.heap.size w w' := h ▸ pm_any r c w hr hc
theorem rmt_at {r c : ByteArray} {b : Bool} (w : World) (hr : r.size ≤ 1000000) (hc : c.size ≤ 1000000) (h : pmB r.data.toList c.data.toList = b) : Calls Tryd.prog 15 #[.string r, .string c] w fun e w' => e = .returned (.bool b) ∧ Below w.heap.size w w' := h ▸ (rpm_any r c w (by omega) (by omega)).mono fun e w' ⟨a, b⟩ => ⟨a, b ▸ Below.refl _ _⟩
theorem parse_at {s : ByteArray} {v : Value} (w : World) (hs : s.size ≤ 1000000) (h : adV (parseA s.data.toList) = v) : Calls Tryd.prog 16 #[.string s] w fun e w' => e = .returned v ∧ Below w.heap.size w w' := h ▸ parse_any s w hs
theorem rparse_at {s : ByteArray} {v : Value} (w : World) (hs : s.size ≤ 1000000) (h : adV (parseA s.data.toList) = v) : Calls Tryd.prog 17 #[.string s] w fun e w' => e = .returned v ∧ Below w.heap.size w w' := h ▸ rparse_any s w hs
theorem text_at {s : Bool} {h p : ByteArray} {v : Value} (w : World) (hh : h.size ≤ 1000000) (hp : p.size ≤ 1000000) (e : txtV s h p = v) : Calls Tryd.prog 18 #[urlV s h p] w fun e w' => e = .returned v ∧ Below w.heap.size w w' := e ▸ text_any s h p w hh hp
theorem rtext_at {s : Bool} {h p : ByteArray} {v : Value} (w : World) (hh : h.size ≤ 1000000) (hp : p.size ≤ 1000000) (e : txtV s h p = v) : Calls Tryd.prog 19 #[urlV s h p] w fun e w' => e = .returned v ∧ Below w.heap.size w w' := e ▸ rtext_any s h p w hh hp

theorem av_p1 : adV (parseA (⟨#[104, 116, 116, 112, 115, 58, 47, 47, 65, 46, 98, 63, 120]⟩ : ByteArray).data.toList) = .tuple #[urlV true ⟨#[97, 46, 98]⟩ ⟨#[47]⟩, .int .i64 0] := by kernel_rfl
theorem av_p2 : adV (parseA (⟨#[102, 116, 112, 58, 47, 47, 97]⟩ : ByteArray).data.toList) = .tuple #[urlV false ⟨#[]⟩ ⟨#[]⟩, .int .i64 120] := by kernel_rfl
theorem av_p3 : adV (parseA (⟨#[104, 116, 116, 112, 58, 47, 47, 47, 97]⟩ : ByteArray).data.toList) = .tuple #[urlV false ⟨#[]⟩ ⟨#[]⟩, .int .i64 121] := by kernel_rfl
theorem av_t1 : txtV false ⟨#[97]⟩ ⟨#[47, 98]⟩ = .tuple #[.string ⟨#[104, 116, 116, 112, 58, 47, 47, 97, 47, 98]⟩, .bool true] := by kernel_rfl
theorem av_t2 : txtV false ⟨#[65]⟩ ⟨#[47, 98]⟩ = .tuple #[.string ByteArray.empty, .bool false] := by kernel_rfl
theorem av_r1 : rightB [47, 97] = true := by decide
theorem av_r2 : rightB [97] = false := by decide
theorem av_d1 : defB ⟨#[47, 97, 47, 98]⟩ = ⟨#[47, 97]⟩ := by kernel_rfl
theorem av_d2 : defB ⟨#[120]⟩ = ⟨#[47]⟩ := by kernel_rfl
theorem av_m1 : pmB [47, 97, 47, 98] [47, 97] = true := by decide
theorem av_m2 : pmB [47, 97, 98] [47, 97] = false := by decide

set_option maxRecDepth 100000 in
set_option maxHeartbeats 1600000 in
theorem alive_any (w : World) : Calls Tryd.prog 9 #[] w fun e w' => e = .returned (.bool true) ∧ Below w.heap.size w w' := by
  go_enter Tryd.func9, Tryd.ntmps9
  go_wp2_with fail
  refine (parse_at _ (by decide) av_p1).mono ?_
  rintro _ w1 ⟨rfl, hb1⟩
  go_wp2_with fail
  have hb2 := hb1.alloc hb1.size (.cells #[.bool true, .string ⟨#[97, 46, 98]⟩, .string ⟨#[47]⟩] 28)
  clear hb1
  have HU := UrlAt.new w1 true ⟨#[97, 46, 98]⟩ ⟨#[47]⟩ 28
  refine (parse_at _ (by decide) av_p2).mono ?_
  rintro _ w2 ⟨rfl, hb⟩
  have hb3 := chain hb2 hb
  replace HU := HU.keep hb
  clear hb hb2
  go_wp2_with fail
  have hb4 := hb3.alloc hb3.size (.cells #[.bool false, .string ⟨#[]⟩, .string ⟨#[]⟩] 28)
  clear hb3
  replace HU := HU.keep ((Below.refl _ _).alloc (Nat.le_refl _) (.cells #[.bool false, .string ⟨#[]⟩, .string ⟨#[]⟩] 28))
  refine (parse_at _ (by decide) av_p3).mono ?_
  rintro _ w3 ⟨rfl, hb⟩
  have hb5 := chain hb4 hb
  replace HU := HU.keep hb
  clear hb hb4
  go_wp2_with fail
  have hb6 := hb5.alloc hb5.size (.cells #[.bool false, .string ⟨#[]⟩, .string ⟨#[]⟩] 28)
  clear hb5
  replace HU := HU.keep ((Below.refl _ _).alloc (Nat.le_refl _) (.cells #[.bool false, .string ⟨#[]⟩, .string ⟨#[]⟩] 28))
  refine (text_at _ (by decide) (by decide) av_t1).mono ?_
  rintro _ w4 ⟨rfl, hb⟩
  have hb7 := chain hb6 hb
  replace HU := HU.keep hb
  clear hb hb6
  go_wp2_with fail
  refine (text_at _ (by decide) (by decide) av_t2).mono ?_
  rintro _ w5 ⟨rfl, hb⟩
  have hb8 := chain hb7 hb
  replace HU := HU.keep hb
  clear hb hb7
  go_wp2_with fail
  refine (rgt_at (s := ⟨#[47, 97]⟩) _ (by decide) av_r1).mono ?_
  rintro _ w6 ⟨rfl, hb⟩
  have hb9 := chain hb8 hb
  replace HU := HU.keep hb
  clear hb hb8
  go_wp2_with fail
  refine (rgt_at (s := ⟨#[97]⟩) _ (by decide) av_r2).mono ?_
  rintro _ w7 ⟨rfl, hb⟩
  have hb10 := chain hb9 hb
  replace HU := HU.keep hb
  clear hb hb9
  go_wp2_with fail
  refine (def_at _ (by decide) av_d1).mono ?_
  rintro _ w8 ⟨rfl, hb⟩
  have hb11 := chain hb10 hb
  replace HU := HU.keep hb
  clear hb hb10
  go_wp2_with fail
  refine (def_at _ (by decide) av_d2).mono ?_
  rintro _ w9 ⟨rfl, hb⟩
  have hb12 := chain hb11 hb
  replace HU := HU.keep hb
  clear hb hb11
  go_wp2_with fail
  refine (mt_at (r := ⟨#[47, 97, 47, 98]⟩) (c := ⟨#[47, 97]⟩) _ (by decide) (by decide) av_m1).mono ?_
  rintro _ w10 ⟨rfl, hb⟩
  have hb13 := chain hb12 hb
  replace HU := HU.keep hb
  clear hb hb12
  go_wp2_with fail
  refine (mt_at (r := ⟨#[47, 97, 98]⟩) (c := ⟨#[47, 97]⟩) _ (by decide) (by decide) av_m2).mono ?_
  rintro _ w11 ⟨rfl, hb⟩
  have hb14 := chain hb13 hb
  replace HU := HU.keep hb
  clear hb hb13
  obtain ⟨⟨c0, c1, c2⟩, _⟩ := HU
  go_wp2
  go_ret
  exact ⟨rfl, hb14⟩
end Go.Proofs.YthempdglmhmfeaaDoor
