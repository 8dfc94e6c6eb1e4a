/-
  strings.ContainsAny of the bytes 9, 10 and 13, in any text: a walk for short texts, the library's own contract for long ones.
-/
import Derived.Test.YteoailanpmkcfaaLinesRuneP
import Derived.Shelf.Strings.IndexAnyAll
namespace Go.Proofs.Yteoailanpmkcfaa
open Go.RowKit Go.Shelf
set_option linter.unusedVariables false

def numb153 : Go.Shelf.Ren := ⟨fun | 153 => 52 | 152 => 62 | 226 => 63 | 227 => 64 | 228 => 65 | 137 => 55 | 119 => 71 | 224 => 69 | 225 => 68 | 217 => 67 | 266 => 73 | n => n, fun | 9 => 9 | 3 => 3 | 4 => 4 | 5 => 5 | 21 => 21 | 117 => 70 | 116 => 69 | 0 => 0 | 46 => 73 | 124 => 75 | n => n, fun | n => n⟩
theorem lays153 : Go.Proofs.Lays.n153 Try.prog numb153 := {
  mixed := by kernel_rfl
  f119 := Try.func71.trans (congrArg some (by kernel_rfl))
  f137 := Try.func55.trans (congrArg some (by kernel_rfl))
  f152 := Try.func62.trans (congrArg some (by kernel_rfl))
  f153 := Try.func52.trans (congrArg some (by kernel_rfl))
  f217 := Try.func67.trans (congrArg some (by kernel_rfl))
  f224 := Try.func69.trans (congrArg some (by kernel_rfl))
  f225 := Try.func68.trans (congrArg some (by kernel_rfl))
  f226 := Try.func63.trans (congrArg some (by kernel_rfl))
  f227 := Try.func64.trans (congrArg some (by kernel_rfl))
  f228 := Try.func65.trans (congrArg some (by kernel_rfl))
  f266 := Try.func73.trans (congrArg some (by kernel_rfl))
  t0 := Try.underlying0
  a0 := Try.isAgg0
  z0 := Try.sizeOf0
  v0 := Try.zeroValue0
  t3 := Try.underlying3
  a3 := Try.isAgg3
  z3 := Try.sizeOf3
  v3 := Try.zeroValue3
  t4 := Try.underlying4
  a4 := Try.isAgg4
  z4 := Try.sizeOf4
  v4 := Try.zeroValue4
  t5 := Try.underlying5
  a5 := Try.isAgg5
  z5 := Try.sizeOf5
  v5 := Try.zeroValue5
  t9 := Try.underlying9
  a9 := Try.isAgg9
  z9 := Try.sizeOf9
  v9 := Try.zeroValue9
  t21 := Try.underlying21
  a21 := Try.isAgg21
  z21 := Try.sizeOf21
  v21 := Try.zeroValue21
  t46 := Try.underlying73
  a46 := Try.isAgg73
  z46 := Try.sizeOf73
  v46 := Try.zeroValue73
  t116 := Try.underlying69
  a116 := Try.isAgg69
  z116 := Try.sizeOf69
  t117 := Try.underlying70
  a117 := Try.isAgg70
  z117 := Try.sizeOf70
  v117 := Try.zeroValue70
  t124 := Try.underlying75
  a124 := Try.isAgg75
  z124 := Try.sizeOf75
  v124 := Try.zeroValue75 }

/-- The place of the first byte that ends a field, or that there is none. -/
def AnyPost (s : ByteArray) (w : World) (e : Ending) (w' : World) : Prop := ∃ i : Int, e = .returned (.int .i64 i) ∧ decide (0 ≤ i) = (!okField s.data.toList) ∧ Below w.heap.size w w'

theorem any_long (s : ByteArray) (w : World) (h8 : 8 < s.size) (hs : s.size ≤ 1000000) :
    Calls Try.prog 52 #[.string s, .string ⟨#[9, 10, 13]⟩] w (AnyPost s w) := by
  have h116 : (Try.prog.info? 69).map (fun i => (i.zero, i.size)) = some (some (.agg (Array.replicate 256 (.bool false))), 256) := by kernel_rfl
  have k : Calls Try.prog 52 #[.string s, .string ⟨#[9, 10, 13]⟩] w _ := Any.strings_IndexAny_long lays153 (zero_of_info h116).1 (zero_of_info h116).2 s ⟨#[9, 10, 13]⟩ w (by decide) h8 (by omega) (by decide) (by
    intro j b hj
    match j, hj with
    | 0, hj => cases hj; decide
    | 1, hj => cases hj; decide
    | 2, hj => cases hj; decide
    | n + 3, hj => cases hj)
  refine k.mono fun e w' ⟨h1, h2⟩ => ⟨_, h1, ?_, ?_⟩
  · rw [okField_cut, Bool.not_not]
    exact indexAny_cut _
  · rw [h2]
    exact ((Below.refl _ _).alloc (Nat.le_refl _) _).alloc (by simp) _

theorem low_cuts : Low ⟨#[9, 10, 13]⟩ := by
  intro k hk
  have : k < 3 := hk
  match k, this with
  | 0, _ => show (9 : UInt8).toNat < 128; decide
  | 1, _ => show (10 : UInt8).toNat < 128; decide
  | 2, _ => show (13 : UInt8).toNat < 128; decide

/-- What the range over s holds. -/
def AnyAt (s : ByteArray) (g : Nat) (w0 : World) (gk : Nat) (wr : World) : Prop :=
  ∃ p : Nat, p + gk = s.size ∧ NoCut s p ∧ wr.heap[g]? = some (.stringIter s p) ∧ Below g w0 wr

theorem iter_kept {w w' : World} {k p : Nat} {s : ByteArray} (h : w.heap[k]? = some (.stringIter s p)) (hb : Below w.heap.size w w') : w'.heap[k]? = some (.stringIter s p) := by
  rw [hb.block k (Array.getElem?_eq_some_iff.1 h).1]
  exact h

set_option maxRecDepth 100000 in
set_option maxHeartbeats 1600000 in
theorem any_short (s chars : ByteArray) (w : World) (h8 : s.size ≤ 8) (hch : chars = ⟨#[9, 10, 13]⟩) :
    Calls Try.prog 52 #[.string s, .string chars] w (AnyPost s w) := by
  have HL : Hid (Low chars) := by show Low chars; rw [hch]; exact low_cuts
  have hcs : chars.size ≤ 1000000000000 := by rw [hch]; decide
  have n1 : chars.toList ≠ [] := by rw [hch]; decide +kernel
  have n2 : chars.toList.isEmpty = false := by rw [hch]; decide +kernel
  have n3 : ((chars.size : Int) == 1) = false := by rw [hch]; decide
  have n4 : ¬ (chars.size : Int) = 1 := by rw [hch]; decide
  have n5 : ¬ chars.size = 1 := by rw [hch]; decide
  have n6 : ¬ (8 : Int) < (s.size : Int) := by omega
  have HC : Hid (chars.data.toList = [9, 10, 13]) := by show _ = _; rw [hch]
  clear hch
  go_enter Try.func52, Try.ntmps52
  go_wp2
  go_loopg [] s.size (fun gk wr => AnyAt s w.heap.size w gk wr)
  case atStart => exact ⟨0, by omega, rfl, World.iter_heap w s 0, (Below.refl _ _).alloc (Nat.le_refl _) _⟩
  case round =>
    obtain ⟨p, hgk, hno, hit, hbe⟩ := hrel
    have HN := Lib.hid hno
    clear hno
    by_cases hp : p < s.size
    · obtain ⟨r, n, hd⟩ : ∃ r n, Utf8.decode s p = (r, n) := ⟨_, _, rfl⟩
      obtain ⟨hlet, hcase⟩ := letter_step s p r n hp hd
      have hnx := fun ty => Lib.run_next_any_at (P := Try.prog) wr w.heap.size s p ty hit hp
      rw [hd] at hnx
      have hit2 := Lib.iterAt_heap wr w.heap.size s p (p + n) hit
      have hb2 := Lib.below_iterAt hbe (k := w.heap.size) (Nat.le_refl _) s (p + n)
      obtain ⟨W1, hW1⟩ : ∃ W1, W1 = wr.iterAt w.heap.size s (p + n) := ⟨_, rfl⟩
      rw [← hW1] at hnx hit2 hb2
      have HI := Lib.hid hit2
      clear hW1 hit hit2 hbe hd
      rcases hcase with ⟨hr, hsr, rfl⟩ | ⟨hr, hn1, hnz, hall⟩
      · subst hsr
        cases hc : cutB s[p] with
        | true =>
          have HV := Lib.hid (cut_here s p hp hc)
          have hi := indexByte_some [9, 10, 13] s[p] hc
          obtain ⟨i, hie⟩ : ∃ i, Lib.indexByte [9, 10, 13] s[p] = i := ⟨_, rfl⟩
          rw [hie] at hi
          rw [← HC.out] at hie
          have HX := Lib.hid hie
          clear hie hc
          go_wp2_with fail
          refine (rune_low chars s[p] _ i _ rfl hr HX.out).mono ?_
          rintro _ w2 ⟨rfl, hb⟩
          have hb1 := hb2.trans (hb.mono hb2.size)
          go_wp2
          go_ret
          refine ⟨_, rfl, ?_, hb1⟩
          rw [HV.out]
          simp
        | false =>
          have HNN := Lib.hid (noCut_one s p hp HN.out hc)
          have HX : Hid (Lib.indexByte chars.data.toList s[p] = -1) := by show _ = _; rw [HC.out]; exact indexByte_none _ _ hc
          clear hc HN
          go_wp2_with fail
          refine (rune_low chars s[p] _ (-1) _ rfl hr HX.out).mono ?_
          rintro _ w2 ⟨rfl, hb⟩
          have hb1 := hb2.trans (hb.mono hb2.size)
          have hi2 := iter_kept HI.out hb
          clear hb hb2 HI
          go_wp2
          go_roundg (gk - 1)
          case measure => omega
          case rel => exact ⟨p + 1, by omega, HNN.out, hi2, hb1⟩
      · have HNN := Lib.hid (noCut_high s p n HN.out hall)
        clear hall HN
        by_cases h3 : r = 65533
        · subst h3
          go_wp2_with fail
          refine (rune_bad chars _ _ rfl HL.out hcs).mono ?_
          rintro _ w2 ⟨rfl, hb⟩
          have hb1 := hb2.trans (hb.mono hb2.size)
          have hi2 := iter_kept HI.out hb
          clear hb hb2 HI
          go_wp2
          go_roundg (gk - n)
          case measure => omega
          case rel => exact ⟨p + n, by omega, HNN.out, hi2, hb1⟩
        · have HLT := Lib.hid hlet
          clear hlet
          go_wp2_with fail
          refine (rune_high chars r _ _ rfl HLT.out hr h3 HL.out hcs).mono ?_
          rintro _ w2 ⟨rfl, hb⟩
          have hb1 := hb2.trans (hb.mono hb2.size)
          have hi2 := iter_kept HI.out hb
          clear hb hb2 HI
          go_wp2
          go_roundg (gk - n)
          case measure => omega
          case rel => exact ⟨p + n, by omega, HNN.out, hi2, hb1⟩
    · have hnx := fun ty => Lib.run_next_end_at (P := Try.prog) wr w.heap.size s p ty hit hp
      have HV := Lib.hid (cut_none s p hp HN.out)
      clear hit HN
      go_wp2
      go_ret
      refine ⟨_, rfl, ?_, hbe⟩
      rw [HV.out]
      rfl

set_option maxRecDepth 100000 in
theorem cuts_any (s : ByteArray) (w : World) (hs : s.size ≤ 1000000) :
    Calls Try.prog 37 #[.string s, .string ⟨#[9, 10, 13]⟩] w fun e w' => e = .returned (.bool (!okField s.data.toList)) ∧ Below w.heap.size w w' := by
  have HA : Hid (Calls Try.prog 52 #[.string s, .string ⟨#[9, 10, 13]⟩] w (AnyPost s w)) := by
    rcases Nat.lt_or_ge 8 s.size with h | h
    · exact any_long s w h hs
    · exact any_short s _ w h rfl
  generalize (⟨#[9, 10, 13]⟩ : ByteArray) = chars at *
  go_enter Try.func37, Try.ntmps37
  go_wp2_with fail
  refine HA.out.mono ?_
  rintro _ w1 ⟨i, rfl, hi, hb⟩
  have HI := Lib.hid hi
  clear hi
  go_wp2
  go_ret
  exact ⟨ret_bool HI.out, hb⟩
end Go.Proofs.Yteoailanpmkcfaa
