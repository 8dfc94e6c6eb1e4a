/-
  The library's DecodeRuneInString (unicode/utf8): the library's own contract of it, at this program; and what its two tables are in the world of a call.
  The program's letter and Put (package utf): contracts.
  The program's Take and begins (package utf): contracts.
  The program's Valid and Runes (package utf), which range over a text: contracts.
-/
import Derived.Test.YtmnigdcgdebgoaaDoorPlainM
import Derived.Test.YtmnigdcgdebgoaaDoorBaseM
import Derived.Test.YtmnigdcgdebgoaaDoorUtfM
import Derived.Shelf.Unicode.DecodeAny
import Derived.Lib.LaidU8T
import Derived.Laws.Runes
import Derived.Lib.OthersKept
namespace Go.Proofs.YtmnigdcgdebgoaaDoor
open Go.RowKit Go.Shelf
set_option linter.unusedVariables false

/-- The numbers that the functions, types and variables have here. -/
def numb : Go.Shelf.Ren := ⟨fun | 197 => 102 | 260 => 113 | n => n, fun | 0 => 0 | 3 => 3 | 4 => 4 | 5 => 5 | 9 => 9 | 21 => 21 | 46 => 79 | 105 => 130 | 119 => 149 | 138 => 151 | 139 => 152 | n => n, fun | 3 => 1 | 4 => 2 | n => n⟩

theorem lays : Go.Proofs.Lays.n197 Tryd.prog numb := {
  mixed := by kernel_rfl
  f197 := Tryd.func102.trans (congrArg some (by kernel_rfl))
  f260 := Tryd.func113.trans (congrArg some (by kernel_rfl))
  t0 := Tryd.underlying0
  a0 := Tryd.isAgg0
  z0 := Tryd.sizeOf0
  v0 := Tryd.zeroValue0
  t3 := Tryd.underlying3
  a3 := Tryd.isAgg3
  z3 := Tryd.sizeOf3
  v3 := Tryd.zeroValue3
  t4 := Tryd.underlying4
  a4 := Tryd.isAgg4
  z4 := Tryd.sizeOf4
  v4 := Tryd.zeroValue4
  t5 := Tryd.underlying5
  a5 := Tryd.isAgg5
  z5 := Tryd.sizeOf5
  v5 := Tryd.zeroValue5
  t9 := Tryd.underlying9
  a9 := Tryd.isAgg9
  z9 := Tryd.sizeOf9
  v9 := Tryd.zeroValue9
  t21 := Tryd.underlying21
  a21 := Tryd.isAgg21
  z21 := Tryd.sizeOf21
  v21 := Tryd.zeroValue21
  t46 := Tryd.underlying79
  a46 := Tryd.isAgg79
  z46 := Tryd.sizeOf79
  v46 := Tryd.zeroValue79
  t105 := Tryd.underlying130
  a105 := Tryd.isAgg130
  z105 := Tryd.sizeOf130
  v105 := Tryd.zeroValue130
  t119 := Tryd.underlying149
  a119 := Tryd.isAgg149
  z119 := Tryd.sizeOf149
  t138 := Tryd.underlying151
  a138 := Tryd.isAgg151
  z138 := Tryd.sizeOf151
  v138 := Tryd.zeroValue151
  t139 := Tryd.underlying152
  a139 := Tryd.isAgg152
  z139 := Tryd.sizeOf152
  v139 := Tryd.zeroValue152
  g3 := by kernel_rfl
  g4 := by kernel_rfl }

/-- The library's two tables lie in the world w. -/
def Tabs (w : World) : Prop := Lib.Utf8Tabs 1 2 w

theorem Tabs.keep {w w' : World} (h : Tabs w) (hb : Below w.heap.size w w') : Tabs w' := Utf8Tabs_below h hb

/-- What the library's call tells, by takeU: the letter, or 65533, and how long it is, or at most one. -/
def decB (s : ByteArray) : Nat × Nat := if (takeU s.data.toList).2.2 = true then ((takeU s.data.toList).1, (takeU s.data.toList).2.1) else (65533, if s.size = 0 then 0 else 1)

theorem dec_eq (s : ByteArray) : Lib.decodeGo s = decB s := by
  unfold Lib.decodeGo decB
  by_cases h : s.size = 0
  · have e : s.data.toList = [] := List.eq_nil_of_length_eq_zero (by rw [list_len]; exact h)
    rw [e]
    simp [h, takeU]
  · rw [if_neg h, decode_take s 0 (by omega), List.drop_zero]
    simp [h]

theorem lib_dec (s : ByteArray) (r n : Nat) (w : World) (hT : Tabs w) (h : decB s = (r, n)) :
    Calls Tryd.prog 102 #[.string s] w fun e w' => e = .returned (.tuple #[.int .i32 (r : Int), .int .i64 (n : Int)]) ∧ Below w.heap.size w w' := by
  have c : Calls Tryd.prog 102 #[.string s] w _ := Any.utf8_DecodeRuneInString lays s w hT
  rw [dec_eq, h] at c
  exact c
end Go.Proofs.YtmnigdcgdebgoaaDoor
namespace Go.Proofs.YtmnigdcgdebgoaaDoor
open Go.RowKit
set_option linter.unusedVariables false

set_option maxRecDepth 100000 in
set_option maxHeartbeats 400000 in
theorem letter_any (r : Int) (w : World) : Calls Tryd.prog 122 #[.int .i64 r] w fun e w' => e = .returned (.bool (letB r)) ∧ w = w' := by
  have HL := Lib.hid (letB_iff r)
  rcases (show r < 0 ∨ (0 ≤ r ∧ 57343 < r ∧ 1114111 < r) ∨ (0 ≤ r ∧ r ≤ 1114111 ∧ r < 55296) ∨ (0 ≤ r ∧ r ≤ 1114111 ∧ 55296 ≤ r ∧ 57343 < r) ∨ (0 ≤ r ∧ r ≤ 1114111 ∧ 55296 ≤ r ∧ r ≤ 57343) from by omega) with h | ⟨h, h', h''⟩ | ⟨h, h', h''⟩ | ⟨h, h', h'', h3⟩ | ⟨h, h', h'', h3⟩
  all_goals
    go_enter Tryd.func122, Tryd.ntmps122
    go_wp2
    go_ret
    refine ⟨ret_bool ?_, rfl⟩
    rw [Bool.eq_iff_iff, HL.out]
    simp
    try omega

/-- What the language makes of a letter's number. -/
theorem encode_put (r : Nat) (h : letter r) : Utf8.encode (r : Int) = putUB r := by
  have hv : Utf8.valid (r : Int) = true := by rw [valid_letter]; simpa using h
  unfold Utf8.encode putUB putU
  simp only [hv, if_true, Int.toNat_natCast]
  repeat' split
  all_goals first | rfl | (exfalso; omega)

theorem enc_back (r : Nat) (R : Int) (hR : R = (r : Int)) (hr : letter r) (W : World) : Sem.run Tryd.prog (convert 21 9 (.int .i32 R)) W = .ok (.string (putUB r)) W := by
  rw [run_convert_int_string W 21 9 .i32 R (by rw [Tryd.underlying21]; rfl) Tryd.underlying9, hR, encode_put r hr]

theorem at_letter {r : Int} {b : Bool} (w : World) (h : letB r = b) : Calls Tryd.prog 122 #[.int .i64 r] w fun e w' => e = .returned (.bool b) ∧ w = w' := h ▸ letter_any r w

set_option maxRecDepth 100000 in
set_option maxHeartbeats 800000 in
theorem at_putu (r : Nat) (R : Int) (w : World) (hR : R = (r : Int)) (hr : letter r) :
    Calls Tryd.prog 115 #[.int .i64 R] w fun e w' => e = .returned (.tuple #[.string (putUB r), .bool true]) ∧ Below w.heap.size w w' := by
  have h0 := hr.1
  have HL : Hid (letB R = true) := by show _ = _; rw [hR, letB_nat]; simpa using hr
  have g0 : 0 ≤ R := by omega
  have g1 : R ≤ 1114111 := by omega
  have hcv := enc_back r R hR hr
  clear hr hR h0
  go_enter Tryd.func115, Tryd.ntmps115
  go_wp2_with fail
  refine (at_letter _ HL.out).mono ?_
  rintro _ w1 ⟨rfl, rfl⟩
  clear HL
  go_wp2
  go_ret2
  exact ⟨rfl, Below.refl _ _⟩

theorem putu_yes (r : Nat) (w : World) (hr : letter r) :
    Calls Tryd.prog 115 #[.int .i64 (r : Int)] w fun e w' => e = .returned (.tuple #[.string (putUB r), .bool true]) ∧ Below w.heap.size w w' := at_putu r _ w rfl hr

set_option maxRecDepth 100000 in
set_option maxHeartbeats 400000 in
theorem putu_no (r : Int) (w : World) (h1 : -9223372036854775808 ≤ r) (h2 : r ≤ 9223372036854775807) (hr : letB r = false) :
    Calls Tryd.prog 115 #[.int .i64 r] w fun e w' => e = .returned (.tuple #[.string ByteArray.empty, .bool false]) ∧ Below w.heap.size w w' := by
  have HL := Lib.hid hr
  clear hr
  go_enter Tryd.func115, Tryd.ntmps115
  go_wp2_with fail
  refine (at_letter _ HL.out).mono ?_
  rintro _ w1 ⟨rfl, rfl⟩
  clear HL
  go_wp2
  go_ret2
  exact ⟨rfl, Below.refl _ _⟩
end Go.Proofs.YtmnigdcgdebgoaaDoor
namespace Go.Proofs.YtmnigdcgdebgoaaDoor
open Go.RowKit
set_option linter.unusedVariables false

theorem dec_yes (s : ByteArray) (r n : Nat) (h : takeU s.data.toList = (r, n, true)) : decB s = (r, n) := by
  unfold decB
  rw [h]
  rfl

theorem dec_no (s : ByteArray) (r n : Nat) (h : takeU s.data.toList = (r, n, false)) : ∃ m, decB s = (65533, m) ∧ m < 3 := by
  unfold decB
  rw [h]
  exact ⟨_, rfl, by split <;> omega⟩

/-- The letter 65533 has three bytes. -/
theorem long_three (l : List UInt8) (n : Nat) (h : takeU l = (65533, n, true)) : n = 3 := (takeU_yes l 65533 n h).2.2.1

set_option maxRecDepth 100000 in
set_option maxHeartbeats 800000 in
theorem takeu_any (s : ByteArray) (r n : Nat) (b : Bool) (w : World) (hT : Tabs w) (h : takeU s.data.toList = (r, n, b)) :
    Calls Tryd.prog 88 #[.string s] w fun e w' => e = .returned (.tuple #[.int .i64 (r : Int), .int .i64 (n : Int), .bool b]) ∧ Below w.heap.size w w' := by
  cases b with
  | true =>
    have HD := Lib.hid (dec_yes s r n h)
    have y := takeU_yes _ _ _ h
    have g1 : (r : Int) ≤ 1114111 := by have := y.1.1; omega
    by_cases h3 : r = 65533
    · subst h3
      have hn := long_three _ _ h
      subst hn
      clear y h
      go_enter Tryd.func88, Tryd.ntmps88
      go_wp2_with fail
      refine (lib_dec s 65533 3 _ hT HD.out).mono ?_
      rintro _ w1 ⟨rfl, hb⟩
      clear HD
      go_wp2
      go_ret3
      exact ⟨rfl, hb⟩
    · have d0 : ((r : Int) == 65533) = false := by rw [beq_eq_false_iff_ne]; omega
      clear y h
      go_enter Tryd.func88, Tryd.ntmps88
      go_wp2_with fail
      refine (lib_dec s r n _ hT HD.out).mono ?_
      rintro _ w1 ⟨rfl, hb⟩
      clear HD
      go_wp2
      go_ret3
      exact ⟨rfl, hb⟩
  | false =>
    obtain ⟨rfl, rfl⟩ := takeU_no _ _ _ h
    obtain ⟨m, hd, hm⟩ := dec_no s _ _ h
    have HD := Lib.hid hd
    have hm' : (m : Int) < 3 := by omega
    clear hd h
    go_enter Tryd.func88, Tryd.ntmps88
    go_wp2_with fail
    refine (lib_dec s 65533 m _ hT HD.out).mono ?_
    rintro _ w1 ⟨rfl, hb⟩
    clear HD
    go_wp2
    go_ret3
    exact ⟨rfl, hb⟩

set_option maxRecDepth 100000 in
set_option maxHeartbeats 400000 in
theorem begins_any (s : ByteArray) (b : Bool) (w : World) (hT : Tabs w) (h : (takeU s.data.toList).2.2 = b) :
    Calls Tryd.prog 72 #[.string s] w fun e w' => e = .returned (.bool b) ∧ Below w.heap.size w w' := by
  obtain ⟨r, n, b', ht⟩ : ∃ r n b', takeU s.data.toList = (r, n, b') := ⟨_, _, _, rfl⟩
  rw [ht] at h
  have e : b' = b := h
  subst e
  have HT := Lib.hid ht
  clear ht h
  go_enter Tryd.func72, Tryd.ntmps72
  go_wp2_with fail
  refine (takeu_any s r n b' _ hT HT.out).mono ?_
  rintro _ w1 ⟨rfl, hb⟩
  clear HT
  go_wp2
  go_ret
  exact ⟨rfl, hb⟩
end Go.Proofs.YtmnigdcgdebgoaaDoor
namespace Go.Proofs.YtmnigdcgdebgoaaDoor
open Go.RowKit
set_option linter.unusedVariables false

theorem rest_list (s : ByteArray) (p : Nat) : (s.extract p s.size).data.toList = s.data.toList.drop p := by
  rw [extract_list, List.take_of_length_le (by rw [List.length_drop, list_len]; omega)]

/-- The text s is gone through up to its place p, and had the letters rs. -/
def Gone (s : ByteArray) (p : Nat) (rs : List Nat) : Prop := p ≤ s.size ∧ rs.length ≤ p ∧ s.data.toList = textU rs ++ (s.extract p s.size).data.toList ∧ letters rs

theorem gone_nil (s : ByteArray) : Gone s 0 [] := ⟨Nat.zero_le _, Nat.le_refl _, by rw [rest_list]; simp [textU], fun r hr => absurd hr List.not_mem_nil⟩

theorem gone_end (s : ByteArray) (p : Nat) (rs : List Nat) (h : Gone s p rs) (hp : ¬ p < s.size) : runesU s.data.toList = some rs :=
  runes_end s _ rs h.2.2.1 h.2.2.2 (by rw [ByteArray.size_extract]; omega)

theorem gone_no (s : ByteArray) (p : Nat) (rs : List Nat) (h : Gone s p rs) (hp : p < s.size) (r n : Nat) (ht : takeU (s.extract p s.size).data.toList = (r, n, false)) : runesU s.data.toList = none ∧ Utf8.decode s p = (65533, 1) := by
  refine ⟨runes_stop s _ rs r n h.2.2.1 h.2.2.2 (by rw [ByteArray.size_extract]; omega) ht, ?_⟩
  rw [decode_take s p hp, ← rest_list, ht]
  rfl

theorem gone_yes (s : ByteArray) (p : Nat) (rs : List Nat) (h : Gone s p rs) (hp : p < s.size) (r n : Nat) (ht : takeU (s.extract p s.size).data.toList = (r, n, true)) :
    Gone s (p + n) (rs ++ [r]) ∧ Utf8.decode s p = (r, n) ∧ 1 ≤ n ∧ p + n ≤ s.size ∧ r ≤ 1114111 := by
  obtain ⟨q1, q2, q3, q4, q5, q6⟩ := runes_step s _ rs r n h.2.2.1 h.2.2.2 ht
  have e4 : p + n ≤ s.size := by
    rw [ByteArray.size_extract] at q4
    omega
  refine ⟨⟨e4, ?_, ?_, q2⟩, ?_, q3, e4, q6⟩
  · have := h.2.1
    rw [List.length_append]
    simp
    omega
  · have e : ((s.extract p s.size).extract n (s.extract p s.size).size).data.toList = (s.extract (p + n) s.size).data.toList := by
      rw [rest_list, rest_list, rest_list, List.drop_drop]
    rw [← e]
    exact q1
  · rw [decode_take s p hp, ← rest_list, ht]
    rfl

/-- What the loop of Valid holds: the range's own place is in block g. -/
def ValidAt (s : ByteArray) (g : Nat) (w0 : World) (gk : Nat) (wr : World) : Prop :=
  ∃ (p : Nat) (rs : List Nat), p + gk = s.size ∧ Gone s p rs ∧ wr.heap[g]? = some (.stringIter s p) ∧ Below g w0 wr

theorem iter_keep {w w' : World} {k p : Nat} {s : ByteArray} (h : w.heap[k]? = some (.stringIter s p)) (hb : Below w.heap.size w w') : w'.heap[k]? = some (.stringIter s p) := by
  rw [hb.block k (Array.getElem?_eq_some_iff.1 h).1]
  exact h

theorem valid_yes {s : ByteArray} {rs : List Nat} (h : runesU s.data.toList = some rs) : validB s = true := by unfold validB; rw [h]; rfl
theorem valid_no {s : ByteArray} (h : runesU s.data.toList = none) : validB s = false := by unfold validB; rw [h]; rfl

set_option maxRecDepth 100000 in
set_option maxHeartbeats 1600000 in
theorem valid_any (s : ByteArray) (w : World) (hT : Tabs w) (hs : s.size ≤ 1000000000000) :
    Calls Tryd.prog 51 #[.string s] w fun e w' => e = .returned (.bool (validB s)) ∧ Below w.heap.size w w' := by
  go_enter Tryd.func51, Tryd.ntmps51
  go_wp2
  go_loopg [] s.size (fun gk wr => ValidAt s w.heap.size w gk wr)
  case atStart => exact ⟨0, [], by omega, gone_nil s, World.iter_heap w s 0, (Below.refl _ _).alloc (Nat.le_refl _) _⟩
  case round =>
    obtain ⟨p, rs, hgk, hgo, hit, hbe⟩ := hrel
    have HG := Lib.hid hgo
    have z1 : p ≤ s.size := hgo.1
    clear hgo
    by_cases hp : p < s.size
    · obtain ⟨r, n, b, ht⟩ : ∃ r n b, takeU (s.extract p s.size).data.toList = (r, n, b) := ⟨_, _, _, rfl⟩
      have hnx := fun ty => Lib.run_next_any_at (P := Tryd.prog) wr w.heap.size s p ty hit hp
      cases b with
      | false =>
        obtain ⟨hno, hd⟩ := gone_no s p rs HG.out hp r n ht
        rw [hd] at hnx
        have hb2 := Lib.below_iterAt hbe (k := w.heap.size) (Nat.le_refl _) s (p + 1)
        obtain ⟨W1, hW1⟩ : ∃ W1, W1 = wr.iterAt w.heap.size s (p + 1) := ⟨_, rfl⟩
        rw [← hW1] at hnx hb2
        have HV := Lib.hid (valid_no hno)
        have HB : Hid ((takeU (s.extract p s.size).data.toList).2.2 = false) := by show _ = _; rw [ht]
        clear hW1 hit hd hno ht HG hbe
        go_wp2_with fail
        refine (begins_any _ false _ (hT.keep hb2) HB.out).mono ?_
        rintro _ w2 ⟨rfl, hb⟩
        have hb1 := hb2.trans (hb.mono hb2.size)
        clear hb hb2
        go_wp2
        go_ret
        exact ⟨ret_bool HV.out.symm, hb1⟩
      | true =>
        obtain ⟨g1, hd, g3, g4, g5⟩ := gone_yes s p rs HG.out hp r n ht
        rw [hd] at hnx
        have hit2 := Lib.iterAt_heap wr w.heap.size s p (p + n) hit
        have hb2 := Lib.below_iterAt hbe (k := w.heap.size) (Nat.le_refl _) s (p + n)
        obtain ⟨W1, hW1⟩ : ∃ W1, W1 = wr.iterAt w.heap.size s (p + n) := ⟨_, rfl⟩
        rw [← hW1] at hnx hit2 hb2
        have G1 := Lib.hid g1
        have HI := Lib.hid hit2
        have HB : Hid ((takeU (s.extract p s.size).data.toList).2.2 = true) := by show _ = _; rw [ht]
        clear hW1 hit hd g1 ht HG hbe hit2
        by_cases h3 : r = 65533
        · subst h3
          go_wp2_with fail
          refine (begins_any _ true _ (hT.keep hb2) HB.out).mono ?_
          rintro _ w2 ⟨rfl, hb⟩
          have hb1 := hb2.trans (hb.mono hb2.size)
          have hi2 := iter_keep HI.out hb
          clear hb hb2 HI HB
          go_wp2
          go_roundg (gk - n)
          case measure => omega
          case rel => exact ⟨p + n, rs ++ [65533], by omega, G1.out, hi2, hb1⟩
        · have d0 : ((r : Int) == 65533) = false := by rw [beq_eq_false_iff_ne]; omega
          clear HB
          go_wp2
          go_roundg (gk - n)
          case measure => omega
          case rel => exact ⟨p + n, rs ++ [r], by omega, G1.out, HI.out, hb2⟩
    · have hnx := fun ty => Lib.run_next_end_at (P := Tryd.prog) wr w.heap.size s p ty hit hp
      have HV := Lib.hid (valid_yes (gone_end s p rs HG.out hp))
      clear HG hit
      go_wp2
      go_ret
      exact ⟨ret_bool HV.out.symm, hbe⟩
end Go.Proofs.YtmnigdcgdebgoaaDoor
