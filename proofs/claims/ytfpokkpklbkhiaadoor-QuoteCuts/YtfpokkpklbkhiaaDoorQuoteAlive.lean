/-
  alive of cracknellaw07: a contract.
-/
import Derived.Test.YtfpokkpklbkhiaaDoorQuoteFns
namespace Go.Proofs.YtfpokkpklbkhiaaDoor
open Go.RowKit
set_option linter.unusedVariables false

theorem at_qwrite (s t : ByteArray) (b : Bool) (w : World) (hT : Tabs w) (hs : s.size ≤ 1000000000000) (h : quoteV s = .tuple #[.string t, .bool b]) :
    Calls Tryd.prog 10 #[.string s] w fun e w' => e = .returned (.tuple #[.string t, .bool b]) ∧ Below w.heap.size w w' := h ▸ qwrite_any s w hT hs
theorem at_qread (s t : ByteArray) (n e0 : Int) (w : World) (hT : Tabs w) (hs : s.size ≤ 140737488351232) (h : pieceW (readQ s.data.toList) = .tuple #[.string t, .int .i64 n, .int .i64 e0]) :
    Calls Tryd.prog 12 #[.string s] w fun e w' => e = .returned (.tuple #[.string t, .int .i64 n, .int .i64 e0]) ∧ Below w.heap.size w w' := h ▸ qread_any s w hT (by omega) (.inl hs)
theorem at_qread_far (s t : ByteArray) (u : List UInt8) (m : Nat) (n e0 : Int) (w : World) (hT : Tabs w) (hs : s.size ≤ 150000000000000) (hr : readQ s.data.toList = (0, u, m)) (hm : m ≤ 1000000) (h : pieceW (readQ s.data.toList) = .tuple #[.string t, .int .i64 n, .int .i64 e0]) :
    Calls Tryd.prog 12 #[.string s] w fun e w' => e = .returned (.tuple #[.string t, .int .i64 n, .int .i64 e0]) ∧ Below w.heap.size w w' := h ▸ qread_any s w hT hs (.inr ⟨u, m, hr, hm⟩)
theorem at_rqwrite (s t : ByteArray) (b : Bool) (w : World) (hs : s.size ≤ 1000000000000) (h : quoteV s = .tuple #[.string t, .bool b]) :
    Calls Tryd.prog 11 #[.string s] w fun e w' => e = .returned (.tuple #[.string t, .bool b]) ∧ Below w.heap.size w w' := h ▸ rwrite_any s w hs
theorem at_rqread (s t : ByteArray) (n e0 : Int) (w : World) (hs : s.size ≤ 1000000000000) (h : pieceW (readQ s.data.toList) = .tuple #[.string t, .int .i64 n, .int .i64 e0]) :
    Calls Tryd.prog 13 #[.string s] w fun e w' => e = .returned (.tuple #[.string t, .int .i64 n, .int .i64 e0]) ∧ Below w.heap.size w w' := h ▸ rread_any s w (by omega)

theorem av1 : quoteV ⟨#[97, 10, 34]⟩ = .tuple #[.string ⟨#[34, 97, 92, 110, 92, 34, 34]⟩, .bool true] := by kernel_rfl
theorem av2 : quoteV ⟨#[255]⟩ = .tuple #[.string ByteArray.empty, .bool false] := by kernel_rfl
theorem av3 : pieceW (readQ (⟨#[34, 92, 117, 48, 48, 101, 52, 34, 120]⟩ : ByteArray).data.toList) = .tuple #[.string ⟨#[195, 164]⟩, .int .i64 8, .int .i64 0] := by kernel_rfl
theorem av4 : pieceW (readQ (⟨#[34, 92, 117, 100, 56, 48, 48, 34]⟩ : ByteArray).data.toList) = .tuple #[.string ByteArray.empty, .int .i64 0, .int .i64 73] := by kernel_rfl
theorem av5 : pieceW (readQ (⟨#[34, 97]⟩ : ByteArray).data.toList) = .tuple #[.string ByteArray.empty, .int .i64 0, .int .i64 71] := by kernel_rfl
theorem av6 : pieceW (readQ (⟨#[97]⟩ : ByteArray).data.toList) = .tuple #[.string ByteArray.empty, .int .i64 0, .int .i64 70] := by kernel_rfl

set_option maxRecDepth 100000 in
set_option maxHeartbeats 1600000 in
theorem alive_any (w : World) (hT : Tabs w) :
    Calls Tryd.prog 9 #[] w fun e w' => e = .returned (.bool true) ∧ Below w.heap.size w w' := by
  have HT := Lib.hid hT
  clear hT
  go_enter Tryd.func9, Tryd.ntmps9
  go_wp2_with fail
  refine (at_qwrite _ _ _ _ HT.out (by decide) av1).mono ?_
  rintro _ w1 ⟨rfl, hb1⟩
  go_wp2_with fail
  refine (at_qwrite _ _ _ _ (HT.out.keep hb1) (by decide) av2).mono ?_
  rintro _ w2 ⟨rfl, hb⟩
  have hb2 := chain hb1 hb
  clear hb hb1
  go_wp2_with fail
  refine (at_qread _ _ _ _ _ (HT.out.keep hb2) (by decide) av3).mono ?_
  rintro _ w3 ⟨rfl, hb⟩
  have hb3 := chain hb2 hb
  clear hb hb2
  go_wp2_with fail
  refine (at_qread _ _ _ _ _ (HT.out.keep hb3) (by decide) av4).mono ?_
  rintro _ w4 ⟨rfl, hb⟩
  have hb4 := chain hb3 hb
  clear hb hb3
  go_wp2_with fail
  refine (at_qread _ _ _ _ _ (HT.out.keep hb4) (by decide) av5).mono ?_
  rintro _ w5 ⟨rfl, hb⟩
  have hb5 := chain hb4 hb
  clear hb hb4
  go_wp2_with fail
  refine (at_qread _ _ _ _ _ (HT.out.keep hb5) (by decide) av6).mono ?_
  rintro _ w6 ⟨rfl, hb⟩
  have hb6 := chain hb5 hb
  clear hb hb5
  go_wp2
  go_ret
  exact ⟨rfl, hb6⟩
end Go.Proofs.YtfpokkpklbkhiaaDoor
