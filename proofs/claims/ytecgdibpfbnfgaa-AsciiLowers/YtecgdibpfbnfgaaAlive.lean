/-
  alive: what the statements ask of some small texts: a contract.
-/
import Derived.Test.YtecgdibpfbnfgaaLow
import Derived.Test.YtecgdibpfbnfgaaRfc
namespace Go.Proofs.Ytecgdibpfbnfgaa
open Go.RowKit

theorem chain {w w1 w2 : World} (h1 : Below w.heap.size w w1) (h2 : Below w1.heap.size w1 w2) : Below w.heap.size w w2 := h1.trans (h2.mono h1.size)

theorem at_lower {s t : ByteArray} (w : World) (hs : s.size ≤ 281474976710656) (h : lowB s = t) :
    Calls Try.prog 9 #[.string s] w fun e w' => e = .returned (.string t) ∧ Below w.heap.size w w' := h ▸ lower_any s w hs
theorem at_rlower {s t : ByteArray} (w : World) (hs : s.size ≤ 281474976710656) (h : lowB s = t) :
    Calls Try.prog 11 #[.string s] w fun e w' => e = .returned (.string t) ∧ Below w.heap.size w w' := h ▸ rlower_any s w hs
theorem at_same {s t : ByteArray} {b : Bool} (w : World) (hs : s.size ≤ 281474976710656) (ht : t.size ≤ 281474976710656) (h : ((lowB s).toList == (lowB t).toList) = b) :
    Calls Try.prog 12 #[.string s, .string t] w fun e w' => e = .returned (.bool b) ∧ Below w.heap.size w w' := h ▸ same_any s t w hs ht
theorem at_token {s : ByteArray} {b : Bool} (w : World) (hs : s.size ≤ maxLen) (h : tokenB s = b) :
    Calls Try.prog 13 #[.string s] w fun e w' => e = .returned (.bool b) ∧ Below w.heap.size w w' := h ▸ token_any s w hs
theorem at_octets {s : ByteArray} {b : Bool} (w : World) (hs : s.size ≤ maxLen) (h : allB (inSpans octL) s = b) :
    Calls Try.prog 15 #[.string s] w fun e w' => e = .returned (.bool b) ∧ Below w.heap.size w w' := h ▸ octets_any s w hs
theorem at_plain {s : ByteArray} {b : Bool} (w : World) (hs : s.size ≤ maxLen) (h : allB (inSpans plainL) s = b) :
    Calls Try.prog 17 #[.string s] w fun e w' => e = .returned (.bool b) ∧ Below w.heap.size w w' := h ▸ plain_any s w hs
theorem at_trim {s t : ByteArray} (w : World) (hs : s.size ≤ maxLen) (h : trimB s = t) :
    Calls Try.prog 19 #[.string s] w fun e w' => e = .returned (.string t) ∧ Below w.heap.size w w' := h ▸ trim_any s w hs
theorem at_cut {s a b : ByteArray} (n : Nat) (d : Int) (w : World) (hs : s.size ≤ maxLen) (h : firstAt (fun c => c == d) s.data.toList = n) (hn : n < s.size) (ha : s.extract 0 n = a) (hb : s.extract (n + 1) s.size = b) :
    Calls Try.prog 21 #[.string s, .int .u8 d] w fun e w' => e = .returned (.tuple #[.string a, .string b, .bool true]) ∧ Below w.heap.size w w' := ha ▸ hb ▸ cut_yes s d n w hs h hn

set_option maxHeartbeats 1600000 in
theorem alive_any (w : World) : Calls Try.prog 10 #[] w fun e w' => e = .returned (.bool true) ∧ Below w.heap.size w w' := by
  go_enter Try.func10, Try.ntmps10
  go_wp2_with fail
  refine (at_cut (a := ⟨#[97]⟩) (b := ⟨#[98, 61, 99]⟩) 1 61 _ (by decide) (by decide) (by decide) (by kernel_rfl) (by kernel_rfl)).mono ?_
  rintro _ w1 ⟨rfl, hb1⟩
  go_wp2_with fail
  refine (cut_no ⟨#[97, 98]⟩ 61 _ (by decide) (by decide)).mono ?_
  rintro _ w2 ⟨rfl, hb⟩
  have hb2 := chain hb1 hb
  clear hb hb1
  go_wp2_with fail
  refine (at_lower (t := ⟨#[97, 98, 45, 122]⟩) _ (by decide) (by kernel_rfl)).mono ?_
  rintro _ w1 ⟨rfl, hb⟩
  have hb1 := chain hb2 hb
  clear hb hb2
  go_wp2_with fail
  refine (at_same (b := true) _ (by decide) (by decide) (by kernel_rfl)).mono ?_
  rintro _ w2 ⟨rfl, hb⟩
  have hb2 := chain hb1 hb
  clear hb hb1
  go_wp2_with fail
  refine (at_same (b := false) _ (by decide) (by decide) (by kernel_rfl)).mono ?_
  rintro _ w1 ⟨rfl, hb⟩
  have hb1 := chain hb2 hb
  clear hb hb2
  go_wp2_with fail
  refine (at_token (b := true) _ (by decide) (by kernel_rfl)).mono ?_
  rintro _ w2 ⟨rfl, hb⟩
  have hb2 := chain hb1 hb
  clear hb hb1
  go_wp2_with fail
  refine (at_token (b := false) _ (by decide) (by kernel_rfl)).mono ?_
  rintro _ w1 ⟨rfl, hb⟩
  have hb1 := chain hb2 hb
  clear hb hb2
  go_wp2_with fail
  refine (at_token (b := false) _ (by decide) (by kernel_rfl)).mono ?_
  rintro _ w2 ⟨rfl, hb⟩
  have hb2 := chain hb1 hb
  clear hb hb1
  go_wp2_with fail
  refine (at_octets (b := true) _ (by decide) (by kernel_rfl)).mono ?_
  rintro _ w1 ⟨rfl, hb⟩
  have hb1 := chain hb2 hb
  clear hb hb2
  go_wp2_with fail
  refine (at_octets (b := false) _ (by decide) (by kernel_rfl)).mono ?_
  rintro _ w2 ⟨rfl, hb⟩
  have hb2 := chain hb1 hb
  clear hb hb1
  go_wp2_with fail
  refine (at_plain (b := true) _ (by decide) (by kernel_rfl)).mono ?_
  rintro _ w1 ⟨rfl, hb⟩
  have hb1 := chain hb2 hb
  clear hb hb2
  go_wp2_with fail
  refine (at_plain (b := false) _ (by decide) (by kernel_rfl)).mono ?_
  rintro _ w2 ⟨rfl, hb⟩
  have hb2 := chain hb1 hb
  clear hb hb1
  go_wp2_with fail
  refine (at_trim (t := ⟨#[97, 32, 98]⟩) _ (by decide) (by kernel_rfl)).mono ?_
  rintro _ w1 ⟨rfl, hb⟩
  have hb1 := chain hb2 hb
  clear hb hb2
  go_wp2
  go_ret
  exact ⟨rfl, hb1⟩
end Go.Proofs.Ytecgdibpfbnfgaa
