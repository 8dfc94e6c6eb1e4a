/-
  The program's own Write (package quote): a contract.
-/
import Derived.Test.YtfpokkpklbkhiaaDoorQuotePieceP
import Derived.Test.YtfpokkpklbkhiaaDoorUtfValidP
import Derived.Test.YtfpokkpklbkhiaaDoorBaseString
namespace Go.Proofs.YtfpokkpklbkhiaaDoor
open Go.RowKit
set_option linter.unusedVariables false

/-- What Write holds at place k: the builder is in block g. -/
def WritesPAt (s : ByteArray) (g : Nat) (w0 : World) (i : Value) (wr : World) : Prop :=
  ∃ k : Nat, k ≤ s.size ∧ i = .int .i64 (k : Int) ∧ Bld wr g (34 :: innerL (s.data.toList.take k)) ∧ Below g w0 wr

set_option maxRecDepth 100000 in
set_option maxHeartbeats 1600000 in
theorem qwrite_any (s : ByteArray) (w : World) (hT : Tabs w) (hs : s.size ≤ 1000000000000) :
    Calls Tryd.prog 10 #[.string s] w fun e w' => e = .returned (quoteV s) ∧ Below w.heap.size w w' := by
  cases hv : validB s with
  | false =>
    have HE : Hid (quoteV s = .tuple #[.string ByteArray.empty, .bool false]) := by show _ = _; unfold quoteV; rw [hv]; rfl
    have HV := Lib.hid hv
    clear hv
    go_enter Tryd.func10, Tryd.ntmps10
    go_wp2_with fail
    refine (valid_any s _ hT hs).mono ?_
    rintro _ w1 ⟨rfl, hb1⟩
    rw [HV.out]
    go_wp2
    go_ret2
    rw [HE.out]
    exact ⟨rfl, hb1⟩
  | true =>
    have HE : Hid (quoteV s = .tuple #[.string ⟨(quoteL s.data.toList).toArray⟩, .bool true]) := by show _ = _; unfold quoteV; rw [hv]; rfl
    have HV := Lib.hid hv
    have HL := Lib.hid (list_len s)
    clear hv
    go_enter Tryd.func10, Tryd.ntmps10
    go_wp2_with fail
    refine (valid_any s _ hT hs).mono ?_
    rintro _ w1 ⟨rfl, hb1⟩
    rw [HV.out]
    have HB0 := Lib.hid (Bld.fresh w1)
    have hbe0 := (Below.refl w1.heap.size w1).alloc (Nat.le_refl _) (.cells #[.pointer none, .slice none 0 0] 38)
    go_wp2_with fail
    refine (wbyte_any w1.heap.size [] 34 _ _ rfl HB0.out (by simp)).mono ?_
    rintro _ w2 ⟨rfl, hB2, hb2⟩
    have hbe2 := hbe0.trans hb2
    have HB2 := Lib.hid hB2
    clear hb2 hB2 HB0 hbe0
    go_wp2
    go_loopw [12] (fun i wr => WritesPAt s w1.heap.size w1 i wr) (fun i _ => s.size - (intOf i).toNat)
    case atStart => exact ⟨0, by omega, rfl, HB2.out, hbe2⟩
    case round =>
      obtain ⟨k, hk, rfl, hbl, hbe⟩ := hrel
      have HB := Lib.hid hbl
      have hlt0 := hbl.lt
      have hil := innerL_len (s.data.toList.take k)
      have hil2 : (s.data.toList.take k).length ≤ k := List.length_take_le _ _
      have hlen : (34 :: innerL (s.data.toList.take k)).length ≤ 6 * k + 1 := by rw [List.length_cons]; omega
      have HLN := Lib.hid hlen
      clear hbl hil hil2 hlen HB2 hbe2
      by_cases hlt : k < s.size
      · have HN : Hid ((34 :: innerL (s.data.toList.take k)) ++ (⟨(pieceL s[k]).toArray⟩ : ByteArray).data.toList = 34 :: innerL (s.data.toList.take (k + 1))) := by
          show _ = _
          rw [take_snoc s k hlt, innerL_snoc]
          rfl
        have HQ : Hid ((34 :: innerL (s.data.toList.take k)).length + (⟨(pieceL s[k]).toArray⟩ : ByteArray).size ≤ 140737488355328) := by
          show _ ≤ _
          have e : (⟨(pieceL s[k]).toArray⟩ : ByteArray).size = (pieceL s[k]).length := by
            show (pieceL s[k]).toArray.size = _
            rw [List.size_toArray]
          have := pieceL_len s[k]
          have := HLN.out
          omega
        go_wp2_with fail
        refine (ppiece_any s[k] _ _ rfl).mono ?_
        rintro _ w3 ⟨rfl, hb3⟩
        have HB3 := Lib.hid (HB.out.keep hb3)
        have hbe3 := hbe.trans (hb3.mono (Nat.le_of_lt hlt0))
        clear HB hb3 hbe
        go_wp2_with fail
        refine (wstr_any w1.heap.size _ _ _ HB3.out HQ.out).mono ?_
        rintro _ w4 ⟨rfl, hB4, hb4⟩
        rw [HN.out] at hB4
        have hbe4 := hbe3.trans hb4
        have HB4 := Lib.hid hB4
        clear hB4 hb4 HB3 hbe3
        go_wp2
        go_roundw
        case rel => exact ⟨k + 1, by omega, by go_num, HB4.out, hbe4⟩
        case measure => simp [intOf]; omega
      · have e : s.data.toList.take k = s.data.toList := List.take_of_length_le (by rw [HL.out]; omega)
        have HF : Hid ((34 :: innerL (s.data.toList.take k)) ++ [34] = quoteL s.data.toList) := by show _ = _; rw [e]; rfl
        have HQ : Hid ((34 :: innerL (s.data.toList.take k)).length + 1 ≤ 140737488355328) := by
          show _ ≤ _
          have := HLN.out
          omega
        clear e
        go_wp2_with fail
        refine (wbyte_any w1.heap.size _ 34 _ _ rfl HB.out HQ.out).mono ?_
        rintro _ w3 ⟨rfl, hB3, hb3⟩
        rw [HF.out] at hB3
        have HB3 := Lib.hid hB3
        have hbe3 := hbe.trans hb3
        clear hB3 hb3 HB hbe
        go_wp2_with fail
        refine (bstring_any w1.heap.size _ _ HB3.out).mono ?_
        rintro _ w4 ⟨rfl, hb4⟩
        have hbe4 := hbe3.trans hb4
        go_wp2
        go_ret2
        rw [HE.out]
        exact ⟨rfl, chain hb1 hbe4⟩
end Go.Proofs.YtfpokkpklbkhiaaDoor
