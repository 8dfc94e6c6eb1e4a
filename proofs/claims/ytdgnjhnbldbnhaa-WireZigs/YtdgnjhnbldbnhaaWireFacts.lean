/-
  What follows of numbers and texts as bytes: plain facts.
-/
import Derived.Test.YtdgnjhnbldbnhaaWireAlive
namespace Go.Proofs.Ytdgnjhnbldbnhaa
open Go.RowKit
set_option linter.unusedVariables false

theorem putB_list (n : Nat) : (putB n).data.toList = putL n := by simp [putB]

theorem fits9 (n : Nat) (h : n < 18446744073709551616) : n < 2 * 128 ^ 9 := by
  have e : (128 : Nat) ^ 9 = 9223372036854775808 := by decide
  rw [e]
  omega

theorem putL_len (n : Nat) : (putL n).length = (putB n).size := by rw [← putB_list, list_len]

theorem take_put (n : Nat) (b : ByteArray) (h : n < 18446744073709551616) : takeB (putB n ++ b) = (n, (putB n).size, 0) := by
  unfold takeB
  rw [app_list, putB_list]
  have := scan_put b.data.toList 9 n 0 0 rfl (fits9 n h) (.inl rfl)
  rw [← putL_len]
  refine this.trans ?_
  simp [putL]

theorem take_put0 (n : Nat) (h : n < 18446744073709551616) : takeB (putB n) = (n, (putB n).size, 0) := by
  have := take_put n .empty h
  have e : putB n ++ ByteArray.empty = putB n := ba_ext (by rw [app_list]; simp)
  rw [e] at this
  exact this

theorem take_cut (n c : Nat) (h : c < (putB n).size) : takeB ((putB n).extract 0 c) = (0, 0, 30) := by
  unfold takeB
  rw [extract_list, putB_list, List.drop_zero]
  exact scan_cut 9 n 0 0 _ rfl (by rw [← putL_len] at h; unfold putL at h; omega)

theorem put_inj (a b : Nat) (ha : a < 18446744073709551616) (hb : b < 18446744073709551616) (hle : (putB b).size ≤ (putB a).size) (h : (putB a).extract 0 (putB b).size = putB b) : a = b := by
  have e : putB a = putB b ++ (putB a).extract (putB b).size (putB a).size := by
    apply ba_ext
    rw [app_list, ← h, extract_list, extract_list, List.drop_zero]
    have hl := list_len (putB a)
    have hz : ((putB a).extract 0 (putB b).size).size = (putB b).size := by rw [h]
    rw [hz, List.take_of_length_le (l := List.drop _ _) (by rw [List.length_drop, hl]; omega)]
    simp
  have h1 := take_put b ((putB a).extract (putB b).size (putB a).size) hb
  rw [← e, take_put0 a ha] at h1
  exact (Prod.mk.inj h1).1

theorem take_text (t b : ByteArray) (h : t.size < 18446744073709551616) : takeB (putB t.size ++ t ++ b) = (t.size, (putB t.size).size, 0) := by
  have e : putB t.size ++ t ++ b = putB t.size ++ (t ++ b) := ba_ext (by simp only [app_list, List.append_assoc])
  rw [e]
  exact take_put _ _ h

theorem text_size (t b : ByteArray) : (putB t.size ++ t ++ b).size = (putB t.size).size + t.size + b.size := by
  rw [ByteArray.size_append, ByteArray.size_append]

theorem tt_text (t b : ByteArray) (most : Int) (h : t.size < 18446744073709551616) (hm : t.size ≤ most.toNat) : tt (putB t.size ++ t ++ b) most = (t, (putB t.size).size + t.size, 0) := by
  rw [tt_ok _ most _ _ (take_text t b h) hm (by rw [text_size]; omega)]
  have e : (putB t.size ++ t ++ b).extract (putB t.size).size ((putB t.size).size + t.size) = t := by
    apply ba_ext
    rw [extract_list, app_list, app_list]
    have h1 := list_len (putB t.size)
    have h2 := list_len t
    rw [List.append_assoc, List.drop_append_of_le_length (by omega), List.drop_of_length_le (by omega), List.nil_append, show (putB t.size).size + t.size - (putB t.size).size = t.data.toList.length by omega, List.take_left]
  rw [e]

theorem tt_text_long (t b : ByteArray) (most : Int) (h : t.size < 18446744073709551616) (hm : most.toNat < t.size) : tt (putB t.size ++ t ++ b) most = (.empty, 0, 31) :=
  tt_long _ most _ _ (take_text t b h) hm

theorem tt_cut (t : ByteArray) (c : Nat) (h : t.size < 18446744073709551616) (hc : c < (putB t.size ++ t).size) : tt ((putB t.size ++ t).extract 0 c) (t.size : Int) = (.empty, 0, 30) := by
  rw [ByteArray.size_append] at hc
  have hl := list_len (putB t.size)
  have ht := list_len t
  by_cases h1 : c < (putB t.size).size
  · have e : (putB t.size ++ t).extract 0 c = (putB t.size).extract 0 c := by
      apply ba_ext
      rw [extract_list, extract_list, app_list, List.drop_zero, List.drop_zero, List.take_append_of_le_length (by omega)]
    rw [e]
    exact tt_err _ _ 0 0 30 (take_cut t.size c h1) (by decide)
  · have e : (putB t.size ++ t).extract 0 c = putB t.size ++ t.extract 0 (c - (putB t.size).size) := by
      apply ba_ext
      rw [extract_list, app_list, app_list, extract_list, List.drop_zero, List.drop_zero, List.take_append, List.take_of_length_le (by omega)]
      rw [hl]
      simp
    rw [e]
    refine tt_short _ _ t.size _ (take_put t.size _ h) (by omega) ?_
    rw [ByteArray.size_append, ByteArray.size_extract]
    omega
end Go.Proofs.Ytdgnjhnbldbnhaa
