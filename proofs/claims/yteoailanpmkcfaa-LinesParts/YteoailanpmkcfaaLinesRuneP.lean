/-
  strings.IndexRune of a letter in a text of bytes below 128: the library's own contracts where it has them, and a walk for letters from 128 on.
-/
import Derived.Test.YteoailanpmkcfaaLinesRune
import Derived.Test.YteoailanpmkcfaaBaseIndex
import Derived.Test.YteoailanpmkcfaaBaseDraw
import Derived.Shelf.Small.Utf8
import Derived.Shelf.Strings.Runes
import Derived.Laws.Runes
import Derived.Lib.OthersKept
import Derived.IntWalk
import Derived.WalkSmall
namespace Go.Proofs.Yteoailanpmkcfaa
open Go.RowKit Go.Shelf
set_option linter.unusedVariables false

def numb119 : Go.Shelf.Ren := ⟨fun | 119 => 71 | n => n, fun | 21 => 21 | 4 => 4 | n => n, fun | n => n⟩
theorem lays119 : Go.Proofs.Lays.n119 Try.prog numb119 := {
  mixed := by kernel_rfl
  f119 := Try.func71.trans (congrArg some (by kernel_rfl))
  t4 := Try.underlying4
  a4 := Try.isAgg4
  z4 := Try.sizeOf4
  v4 := Try.zeroValue4
  t21 := Try.underlying21
  a21 := Try.isAgg21
  z21 := Try.sizeOf21
  v21 := Try.zeroValue21 }
def numb152 : Go.Shelf.Ren := ⟨fun | 152 => 62 | 137 => 55 | 119 => 71 | 224 => 69 | 225 => 68 | 217 => 67 | 266 => 73 | n => n, fun | 9 => 9 | 21 => 21 | 3 => 3 | 4 => 4 | 5 => 5 | 0 => 0 | 46 => 73 | n => n, fun | n => n⟩
theorem lays152 : Go.Proofs.Lays.n152 Try.prog numb152 := {
  mixed := by kernel_rfl
  f119 := Try.func71.trans (congrArg some (by kernel_rfl))
  f137 := Try.func55.trans (congrArg some (by kernel_rfl))
  f152 := Try.func62.trans (congrArg some (by kernel_rfl))
  f217 := Try.func67.trans (congrArg some (by kernel_rfl))
  f224 := Try.func69.trans (congrArg some (by kernel_rfl))
  f225 := Try.func68.trans (congrArg some (by kernel_rfl))
  f266 := Try.func73.trans (congrArg some (by kernel_rfl))
  t0 := Try.underlying0
  a0 := Try.isAgg0
  z0 := Try.sizeOf0
  v0 := Try.zeroValue0
  t3 := Try.underlying3
  a3 := Try.isAgg3
  z3 := Try.sizeOf3
  v3 := Try.zeroValue3
  t4 := Try.underlying4
  a4 := Try.isAgg4
  z4 := Try.sizeOf4
  v4 := Try.zeroValue4
  t5 := Try.underlying5
  a5 := Try.isAgg5
  z5 := Try.sizeOf5
  v5 := Try.zeroValue5
  t9 := Try.underlying9
  a9 := Try.isAgg9
  z9 := Try.sizeOf9
  v9 := Try.zeroValue9
  t21 := Try.underlying21
  a21 := Try.isAgg21
  z21 := Try.sizeOf21
  v21 := Try.zeroValue21
  t46 := Try.underlying73
  a46 := Try.isAgg73
  z46 := Try.sizeOf73
  v46 := Try.zeroValue73 }

theorem validrune_any (r : Nat) (R : Int) (w : World) (hR : R = (r : Int)) (hr : letter r) :
    Calls Try.prog 71 #[.int .i32 R] w fun e w' => e = .returned (.bool true) ∧ w = w' := by
  subst hR
  have k : Calls Try.prog 71 #[.int .i32 (r : Int)] w _ := Any.utf8_ValidRune lays119 (r : Int) w
  refine k.mono fun e w' ⟨h1, h2⟩ => ⟨?_, h2.symm⟩
  rw [h1]
  refine ret_bool ?_
  unfold Lib.validRune
  rw [decide_eq_true_eq]
  obtain ⟨h3, h4⟩ := hr
  omega

theorem rune_low (s : ByteArray) (c : UInt8) (R i : Int) (w : World) (hR : R = (c.toNat : Int)) (hc : c.toNat < 128) (hi : Lib.indexByte s.data.toList c = i) :
    Calls Try.prog 62 #[.string s, .int .i32 R] w fun e w' => e = .returned (.int .i64 i) ∧ Below w.heap.size w w' := by
  subst hR hi
  have k : Calls Try.prog 62 #[.string s, .int .i32 (c.toNat : Int)] w _ := Any.strings_IndexRune_ascii lays152 s (c.toNat : Int) w (by omega) (by omega)
  refine k.mono fun e w' ⟨h1, h2⟩ => ⟨?_, by rw [h2]; exact Below.refl _ _⟩
  rw [h1]
  simp

def putUB' (r : Nat) : ByteArray := ⟨(putU r).toArray⟩
theorem encode_put' (r : Nat) (h : letter r) : Utf8.encode (r : Int) = putUB' r := by
  have hv : Utf8.valid (r : Int) = true := by rw [valid_letter]; simpa using h
  unfold Utf8.encode putUB' putU
  simp only [hv, if_true, Int.toNat_natCast]
  repeat' split
  all_goals first | rfl | (exfalso; omega)
theorem enc_back' (r : Nat) (R : Int) (hR : R = (r : Int)) (hr : letter r) (W : World) : Sem.run Try.prog (convert 21 9 (.int .i32 R)) W = .ok (.string (putUB' r)) W := by
  rw [run_convert_int_string W 21 9 .i32 R (by rw [Try.underlying21]; rfl) Try.underlying9, hR, encode_put' r hr]

/-- The bytes of a letter from 128 on: two to four, all from 128 on. -/
theorem high_bytes (r : Nat) (hr : letter r) (h : 128 ≤ r) : ∃ m, 1 ≤ m ∧ m ≤ 3 ∧ (putUB' r).size = m + 1 ∧ ∀ k (hk : k < (putUB' r).size), 128 ≤ ((putUB' r)[k]).toNat := by
  have hl := putU_len r
  have hs : (putUB' r).size = (putU r).length := by
    show (putU r).toArray.size = _
    rw [List.size_toArray]
  have h2 : 2 ≤ (putU r).length := by
    unfold putU
    rw [if_neg (by omega)]
    split
    · simp
    · split <;> simp
  refine ⟨(putU r).length - 1, by omega, by omega, by omega, fun k hk => ?_⟩
  have := putU_high r h hr
  rw [← bget _ k hk]
  exact this _ (List.getElem_mem _)

theorem high_text (r : Nat) (R : Int) (hR : R = (r : Int)) (hr : letter r) (h : 128 ≤ r) :
    ∃ (t : ByteArray) (m : Nat), (∀ W, Sem.run Try.prog (convert 21 9 (.int .i32 R)) W = .ok (.string t) W) ∧ 1 ≤ m ∧ m ≤ 3 ∧ t.size = m + 1 ∧ ∀ k (hk : k < t.size), 128 ≤ (t[k]).toNat := by
  obtain ⟨m, h1, h2, h3, h4⟩ := high_bytes r hr h
  exact ⟨putUB' r, m, enc_back' r R hR hr, h1, h2, h3, h4⟩

/-- A text of bytes below 128. -/
def Low (s : ByteArray) : Prop := ∀ k (hk : k < s.size), (s[k]).toNat < 128

theorem low_none (s : ByteArray) (h : Low s) (n : Nat) (c : UInt8) (hc : 128 ≤ c.toNat) : Lib.indexByte (s.extract n s.size).data.toList c = -1 := by
  refine indexByte_none _ _ ?_
  rw [← Bool.not_eq_true, List.contains_iff_mem]
  intro hm
  rw [extract_list] at hm
  have hm2 := List.mem_of_mem_drop (List.mem_of_mem_take hm)
  obtain ⟨k, hk, e⟩ := List.mem_iff_getElem.1 hm2
  have hk' : k < s.size := by rw [← list_len]; exact hk
  rw [bget s k hk'] at e
  have := h k hk'
  rw [e] at this
  omega

set_option maxRecDepth 100000 in
set_option maxHeartbeats 1600000 in
theorem rune_high (s : ByteArray) (r : Nat) (R : Int) (w : World) (hR : R = (r : Int)) (hr : letter r) (h : 128 ≤ r) (h3 : r ≠ 65533) (hs : Low s) (hz : s.size ≤ 1000000000000) :
    Calls Try.prog 62 #[.string s, .int .i32 R] w fun e w' => e = .returned (.int .i64 (-1)) ∧ Below w.heap.size w w' := by
  have HV := Lib.hid (validrune_any r R w hR hr)
  obtain ⟨t, m, hcv, m1, m2, hm, hb⟩ := high_text r R hR hr h
  have q1 : 0 ≤ R := by omega
  have q2 : ¬ R < 128 := by omega
  have q3 : (R == 65533) = false := by rw [beq_eq_false_iff_ne]; omega
  have q4 : ¬ R = 65533 := by omega
  have tm : m < t.size := by omega
  have hbm := hb m tm
  have HN := Lib.hid (fun W => index_any (s.extract (m + 1) s.size) t[m] (t[m].toNat : Int) (-1) W rfl (low_none s hs (m + 1) _ hbm))
  have HS := Lib.hid hs
  clear hR hr h h3 hb hs
  go_enter Try.func62, Try.ntmps62
  go_wp2_with (go_at_call 71; refine HV.out.mono ?_; rintro _ w1 ⟨rfl, rfl⟩)
  go_step3
  go_wp2
  go_loopw [9] (fun i wr => i = .int .i64 (m : Int) ∧ w = wr) (fun _ _ => 0)
  case atStart => exact ⟨rfl, rfl⟩
  case round =>
    obtain ⟨rfl, rfl⟩ := hrel
    by_cases hlt : m < s.size
    · have hsm := HS.out m hlt
      have d1 : ((s[m].toNat : Int) == (t[m].toNat : Int)) = false := by rw [beq_eq_false_iff_ne]; omega
      have d2 : ¬ (s[m].toNat : Int) = (t[m].toNat : Int) := by omega
      have d3 : (m : Int) < (s.size : Int) := by omega
      have d4 : (m : Int) < (t.size : Int) := by omega
      have d5 : (m : Int) + 1 ≤ (s.size : Int) := by omega
      have d6 : m + 1 ≤ s.size := by omega
      clear hm
      have d7 : IntKind.i64.wrap ((m : Int) + 1) = (m : Int) + 1 := IntWalk.i64_in _ (by omega)
      go_wp2_with fail
      go_step3
      go_wp2_with fail
      go_quiet (fail)
      go_wp2_with fail
      refine wp_region_below (g := w.heap.size) (w0 := w) (by kernel_rfl) (by kernel_rfl) (below_drewN (Below.refl _ _) _) (fun hex => ?_)
      repeat (go_big_quiet_step (first
        | (intro _; rfl)
        | (intro hq; go_at_call 55; (refine (HN.out _).mono ?_); rintro _ w1 ⟨rfl, rfl⟩; exact ⟨rfl, hq⟩)))
      refine wpQuiet_nil ?_
      intro w1 hb1
      go_wp2
      rw [Exit.noGoto_ret]
      go_wp2
      rw [Exit.noGoto_ret]
      go_wp2
      go_ret
      exact ⟨rfl, hb1⟩
    · go_wp2
      rw [Exit.noGoto_ret]
      go_wp2
      go_ret
      exact ⟨rfl, Below.refl _ _⟩

/-- What the range over a text of bytes below 128 holds: its own place is in block g. -/
def LowAt (s : ByteArray) (g : Nat) (w0 : World) (gk : Nat) (wr : World) : Prop :=
  ∃ p : Nat, p + gk = s.size ∧ wr.heap[g]? = some (.stringIter s p) ∧ Below g w0 wr

set_option maxRecDepth 100000 in
set_option maxHeartbeats 1600000 in
theorem rune_bad (s : ByteArray) (R : Int) (w : World) (hR : R = 65533) (hs : Low s) (hz : s.size ≤ 1000000000000) :
    Calls Try.prog 62 #[.string s, .int .i32 R] w fun e w' => e = .returned (.int .i64 (-1)) ∧ Below w.heap.size w w' := by
  subst hR
  have HS := Lib.hid hs
  clear hs
  go_enter Try.func62, Try.ntmps62
  go_wp2
  go_loopg [] s.size (fun gk wr => LowAt s w.heap.size w gk wr)
  case atStart => exact ⟨0, by omega, World.iter_heap w s 0, (Below.refl _ _).alloc (Nat.le_refl _) _⟩
  case round =>
    obtain ⟨p, hgk, hit, hbe⟩ := hrel
    by_cases hp : p < s.size
    · have hlo := HS.out p hp
      have hnx := fun ty => Lib.run_next_ascii_at (P := Try.prog) wr w.heap.size s p ty hit hp hlo
      have hit2 := Lib.iterAt_heap wr w.heap.size s p (p + 1) hit
      have hb2 := Lib.below_iterAt hbe (k := w.heap.size) (Nat.le_refl _) s (p + 1)
      obtain ⟨W1, hW1⟩ : ∃ W1, W1 = wr.iterAt w.heap.size s (p + 1) := ⟨_, rfl⟩
      rw [← hW1] at hnx hit2 hb2
      have HI := Lib.hid hit2
      have d1 : ((s[p].toNat : Int) == 65533) = false := by rw [beq_eq_false_iff_ne]; omega
      have d2 : ¬ (s[p].toNat : Int) = 65533 := by omega
      clear hW1 hit hit2 hbe
      go_wp2
      go_roundg (gk - 1)
      case measure => omega
      case rel => exact ⟨p + 1, by omega, HI.out, hb2⟩
    · have hnx := fun ty => Lib.run_next_end_at (P := Try.prog) wr w.heap.size s p ty hit hp
      clear hit
      go_wp2
      go_ret
      exact ⟨rfl, hbe⟩
end Go.Proofs.Yteoailanpmkcfaa
