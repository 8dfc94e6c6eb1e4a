/-
  Sum, Tail and Right of package crc: contracts.
-/
import Derived.Test.YtbgombgcjfemmaaCrcTbl
namespace Go.Proofs.Ytbgombgcjfemmaa
open Go.RowKit
set_option linter.unusedVariables false

/-- All bytes of the texts, from s on. -/
def crcL (s : Nat) (l : List ByteArray) : Nat := crcSt s (catB l).data.toList

theorem crcL_lt (s : Nat) (l : List ByteArray) (h : s < 4294967296) : crcL s l < 4294967296 := crcSt_lt _ _ h

/-- What Sum holds at a text's head. -/
def SumOut (l : List ByteArray) (sum i : Value) : Prop := ∃ k x : Nat, k ≤ l.length ∧ sum = .int .u32 (x : Int) ∧ i = .int .i64 (k : Int) ∧ x < 4294967296 ∧ x = crcL ones32 (l.take k)

/-- What Sum holds within a text. -/
def SumIn (x0 : Nat) (s : ByteArray) (sum i : Value) : Prop := ∃ j x : Nat, j ≤ s.size ∧ sum = .int .u32 (x : Int) ∧ i = .int .i64 (j : Int) ∧ x < 4294967296 ∧ x = crcSt x0 (s.data.toList.take j)

theorem sumIn_step (x0 : Nat) (s : ByteArray) (k x : Nat) (hk : k < s.size) (h : x = crcSt x0 (s.data.toList.take k)) : crcStep x s[k].toNat = crcSt x0 (s.data.toList.take (k + 1)) := by
  rw [take_snoc s k hk, crcSt_append, h]
  rfl

theorem sumOut_step (l : List ByteArray) (k x y : Nat) (s : ByteArray) (hk : k < l.length) (hs : l[k] = s) (h : x = crcL ones32 (l.take k)) (hy : y = crcSt x (s.data.toList.take s.size)) : y = crcL ones32 (l.take (k + 1)) := by
  unfold crcL at *
  rw [List.take_succ_eq_append_getElem hk, cat_snoc, app_list, crcSt_append, ← h, hs, hy, List.take_of_length_le (by rw [list_len]; omega)]

theorem sum_end (l : List ByteArray) (x : Nat) (h : x = crcL ones32 (l.take l.length)) : bits .xor .u32 IntKind.u32.max (x : Int) = (sumB (catB l) : Int) := by
  rw [List.take_length] at h
  have hx : x < 4294967296 := by rw [h]; exact crcL_lt _ _ (by decide)
  have e : IntKind.u32.max = ((4294967295 : Nat) : Int) := by decide
  rw [e, xor_u32 4294967295 x (by decide) hx]
  unfold sumB crcSum
  unfold crcL at h
  rw [← h, Nat.xor_comm]
  rfl

set_option maxRecDepth 100000 in
set_option maxHeartbeats 1600000 in
theorem sum_some (ad : Addr) (cap : Nat) (l : List ByteArray) (w : World) (hle : l.length ≤ cap) (hc : ∀ j (hj : j < l.length), w.cell? (ad.add j) = some (.string l[j])) (hl : l.length ≤ 1000) (hs : ∀ s ∈ l, s.size ≤ 1000000000000000) :
    Calls Try.prog 16 #[.slice (some ad) l.length cap] w fun e w' => e = .returned (.int .u32 (sumB (catB l) : Int)) ∧ Below w.heap.size w w' := by
  have HC := Lib.hid hc
  have HS := Lib.hid hs
  clear hc hs
  have hz := zero256
  have hst := store256
  go_enter Try.func16, Try.ntmps16
  go_wp2_with fail
  refine (table_any _).mono ?_
  rintro _ w1 ⟨rfl, hb1⟩
  go_wp2_with fail
  clear hz hst
  have hb2 := chain hb1 (tabW_below w1)
  have HT := Lib.hid (tabW_cell w1)
  have HC2 : Hid (∀ j (hj : j < l.length), (tabW w1).cell? (ad.add j) = some (.string l[j])) := fun j hj => by
    rw [hb2.cell (World.block_lt_of_cell? w _ (HC.out j hj))]
    exact HC.out j hj
  clear HC hb1
  generalize tabW w1 = W at *
  generalize w1.heap.size = g at *
  go_loop [4, 11] (fun sum i => SumOut l sum i) (fun _ i => l.length - (intOf i).toNat)
  case atStart => exact ⟨0, 4294967295, by omega, rfl, rfl, by omega, rfl⟩
  case round =>
    obtain ⟨k, x, hk, rfl, rfl, hx, hX⟩ := hrel
    have HX := Lib.hid hX
    clear hX
    by_cases hlt : k < l.length
    · have c0 := HC2.out k hlt
      have hz := HS.out l[k] (List.getElem_mem hlt)
      obtain ⟨s, hs⟩ : ∃ s, l[k] = s := ⟨_, rfl⟩
      rw [hs] at c0 hz
      have HK := Lib.hid hs
      clear hs
      go_wp2_with fail
      go_loop [4, 17] (fun sum i => SumIn x s sum i) (fun _ i => s.size - (intOf i).toNat)
      case atStart => exact ⟨0, x, by omega, rfl, rfl, hx, rfl⟩
      case round =>
        obtain ⟨j, y, hj, rfl, rfl, hy, hY⟩ := hrel
        have HY := Lib.hid hY
        clear hY
        by_cases hjs : j < s.size
        · have hcl : s[j].toNat < 256 := s[j].toNat_lt
          obtain ⟨a, b, ha, hb, hab, h1, h2⟩ := step_parts y s[j].toNat hy hcl
          have c1 := HT.out a ha
          rw [hab] at c1
          clear hab
          have HE := Lib.hid (sumIn_step x s j y hjs HY.out)
          have HL := Lib.hid (crcStep_lt y s[j].toNat hy hcl)
          clear HY HK c0
          go_wp2
          go_round
          case rel => exact ⟨j + 1, _, by omega, rfl, by go_num, HL.out, HE.out⟩
          case measure => simp [intOf]; omega
        · have e : j = s.size := by omega
          have HE := Lib.hid (sumOut_step l k x y s hlt HK.out HX.out (by rw [← e]; exact HY.out))
          subst e
          clear HY HK HX c0
          go_wp2
          go_round
          case rel => exact ⟨k + 1, y, by omega, rfl, by go_num, hy, HE.out⟩
          case measure => simp [intOf]; omega
    · have e : k = l.length := by omega
      subst e
      have he := sum_end l x HX.out
      clear HX
      go_wp2
      go_ret
      exact ⟨rfl, hb2⟩

set_option maxRecDepth 100000 in
set_option maxHeartbeats 1600000 in
theorem sum_nil (w : World) :
    Calls Try.prog 16 #[.slice none 0 0] w fun e w' => e = .returned (.int .u32 (sumB (catB []) : Int)) ∧ Below w.heap.size w w' := by
  have hz := zero256
  have hst := store256
  go_enter Try.func16, Try.ntmps16
  go_wp2_with fail
  refine (table_any _).mono ?_
  rintro _ w1 ⟨rfl, hb1⟩
  go_wp2_with fail
  clear hz hst
  have hb2 := chain hb1 (tabW_below w1)
  clear hb1
  generalize tabW w1 = W at *
  generalize w1.heap.size = g at *
  have HE := sum_end [] 4294967295 rfl
  go_loop [4, 11] (fun sum i => sum = .int .u32 4294967295 ∧ i = .int .i64 0) (fun _ _ => 0)
  case atStart => exact ⟨rfl, rfl⟩
  case round =>
    obtain ⟨rfl, rfl⟩ := hrel
    go_wp2
    go_ret
    exact ⟨ret_u32 HE, hb2⟩

theorem sum_big (v : Value) (l : List ByteArray) (w : World) (hv : StrsAt w v l) (hl : l.length ≤ 1000) (hs : ∀ s ∈ l, s.size ≤ 1000000000000000) :
    Calls Try.prog 16 #[v] w fun e w' => e = .returned (.int .u32 (sumB (catB l) : Int)) ∧ Below w.heap.size w w' := by
  rcases hv with ⟨rfl, rfl⟩ | ⟨ad, cap, rfl, hle, hc⟩
  · exact sum_nil w
  · exact sum_some ad cap l w hle hc hl hs

/-- The bytes of a sum, as many as are written. -/
def rowT (x k : Nat) : List UInt8 := (le4 x).take k ++ List.replicate (4 - k) 0

theorem rowT_len (x k : Nat) (h : k ≤ 4) : (rowT x k).length = 4 := by
  unfold rowT le4
  simp
  omega

theorem rowT_set (x k : Nat) (hx : x < 4294967296) (h : k < 4) : ∃ c : UInt8, (x : Int) / 2 ^ (8 * k) % 256 = (c.toNat : Int) ∧ (rowT x k).set k c = rowT x (k + 1) := by
  have h4 : k = 0 ∨ k = 1 ∨ k = 2 ∨ k = 3 := by omega
  rcases h4 with rfl | rfl | rfl | rfl
  · exact ⟨UInt8.ofNat (x % 256), by rw [u8_ofNat _ (by omega)]; simp, rfl⟩
  · exact ⟨UInt8.ofNat (x / 256 % 256), by rw [u8_ofNat _ (by omega)]; simp, rfl⟩
  · exact ⟨UInt8.ofNat (x / 65536 % 256), by rw [u8_ofNat _ (by omega)]; simp, rfl⟩
  · exact ⟨UInt8.ofNat (x / 16777216), by rw [u8_ofNat _ (by omega)]; simp; omega, rfl⟩

theorem tail_row (s : ByteArray) : tailB s = ⟨(rowT (sumB s) 4).toArray⟩ := rfl

/-- What Tail holds. -/
def TailAt (x : Nat) (w0 : World) (g gk : Nat) (i : Value) (wr : World) : Prop := ∃ k : Nat, k + gk = 4 ∧ i = .int .i64 (k : Int) ∧ BytesAt wr g (rowT x k) ∧ Below g w0 wr

theorem rowT_new (W : World) (x : Nat) (t : TypeId) : BytesAt (W.alloc (.cells #[.int .u8 0, .int .u8 0, .int .u8 0, .int .u8 0] t)) W.heap.size (rowT x 0) := by
  refine ⟨fun j hj => ?_, fun j hj => by simp⟩
  have h4 : j = 0 ∨ j = 1 ∨ j = 2 ∨ j = 3 := by
    rw [rowT_len x 0 (by omega)] at hj
    omega
  rcases h4 with rfl | rfl | rfl | rfl <;> (simp; rfl)

set_option maxRecDepth 100000 in
set_option maxHeartbeats 1600000 in
theorem tail_big (v : Value) (l : List ByteArray) (w : World) (hv : StrsAt w v l) (hl : l.length ≤ 1000) (hs : ∀ s ∈ l, s.size ≤ 1000000000000000) :
    Calls Try.prog 15 #[v] w fun e w' => e = .returned (.string (tailB (catB l))) ∧ Below w.heap.size w w' := by
  have HV := Lib.hid hv
  have HS := Lib.hid hs
  clear hv hs
  go_enter Try.func15, Try.ntmps15
  go_wp2_with fail
  have hb0 : Below w.heap.size w (w.alloc (.cells #[.int .u8 0, .int .u8 0, .int .u8 0, .int .u8 0] 43)) := (Below.refl _ _).alloc (Nat.le_refl _) _
  refine (sum_big v l _ (HV.out.keep hb0) hl HS.out).mono ?_
  rintro _ w1 ⟨rfl, hb1⟩
  have HB := hb0.trans (hb1.mono (by simp))
  have HE := Lib.hid (tail_row (catB l))
  have hx := sumB_lt (catB l)
  have HR := (rowT_new w (sumB (catB l)) 43).keep hb1
  generalize sumB (catB l) = x at *
  clear HV HS hb0 hb1
  go_wp2
  go_loopg [8] 4 (fun gk i wr => TailAt x w w.heap.size gk i wr)
  case atStart => exact ⟨0, by omega, rfl, HR, HB⟩
  case round =>
    clear HR HB
    obtain ⟨k, hk, rfl, hr, hbe⟩ := hrel
    by_cases hlt : k < 4
    · obtain ⟨c, hc, hset⟩ := rowT_set x k hx hlt
      have hlen := rowT_len x k (by omega)
      obtain ⟨v0, c0⟩ : ∃ v0, wr.cell? ⟨w.heap.size, k, none⟩ = some v0 := ⟨_, hr.1 k (by omega)⟩
      have f0 := hr.2 k (by omega)
      have HR2 := hr.set k (by omega) c _ rfl
      rw [hset] at HR2
      have HR3 := Lib.hid HR2
      have HB2 := hbe.setCell (p := ⟨w.heap.size, k, none⟩) (Nat.le_refl _) (.int .u8 (c.toNat : Int))
      clear hset HR2 hr hlen
      have h8 : (0 : Int) ≤ 8 * k := by omega
      go_wp2
      go_roundg (gk - 1)
      case measure => omega
      case rel => exact ⟨k + 1, by omega, by go_num, HR3.out, HB2⟩
    · have e : k = 4 := by omega
      subst e
      have hcv := hr.back 4 4 (rowT_len x 4 (by omega)).symm
      clear hr
      go_wp2
      go_ret
      exact ⟨ret_str HE.out.symm, hbe⟩

theorem bel_alloc {w W : World} (o : Obj) (h : Below w.heap.size w W) : Below w.heap.size w (W.alloc o) := h.alloc h.size o
theorem bel_first {w W : World} (o : Obj) (h : Below w.heap.size w W.drew) : Below w.heap.size w (W.alloc o).drew :=
  (bel_alloc o (W := W) ⟨h.os, h.tape, h.output, h.size, h.block⟩).drew

theorem tail_cell {s : ByteArray} (W : World) (b : Nat) (hc : W.cell? ⟨b, 0, none⟩ = some (.string s)) (h : s.size ≤ 1000000000000000) :
    Calls Try.prog 15 #[.slice (some ⟨b, 0, none⟩) 1 1] W fun e w' => e = .returned (.string (tailB s)) ∧ Below W.heap.size W w' := by
  have hv : StrsAt W (.slice (some ⟨b, 0, none⟩) 1 1) [s] := by
    refine .inr ⟨⟨b, 0, none⟩, 1, rfl, by simp, fun j hj => ?_⟩
    have : j = 0 := by simpa using hj
    subst this
    exact hc
  have hh := tail_big _ [s] W hv (by simp) (by simpa using h)
  rw [cat_one] at hh
  exact hh

theorem cell_drew (W : World) (v : Value) (t : TypeId) : (W.alloc (.cells #[v] t)).drew.cell? ⟨W.heap.size, 0, none⟩ = some v := by
  show (W.alloc (.cells #[v] t)).cell? _ = _
  simp

set_option maxRecDepth 100000 in
set_option maxHeartbeats 1600000 in
theorem right_any (s : ByteArray) (w : World) (hs : s.size ≤ 1000000000000000) :
    Calls Try.prog 19 #[.string s] w fun e w' => e = .returned (.bool (rightB s)) ∧ Below w.heap.size w w' := by
  by_cases h4 : 4 ≤ s.size
  · obtain ⟨k, hk⟩ : ∃ k, s.size = k + 4 := ⟨s.size - 4, by omega⟩
    have hkz : s.size - 4 = k := by omega
    have HE : Hid (rightB s = ((tailB (s.extract 0 k)).toList == (s.extract k s.size).toList)) := by
      show _ = _
      unfold rightB
      rw [hkz, Bool.beq_comm]
      simp [h4]
    have hki : (s.size : Int) - 4 = (k : Int) := by omega
    have hkl : (k : Int) ≤ (s.size : Int) := by omega
    have h4i : (4 : Int) ≤ (s.size : Int) := by omega
    have hks : k ≤ s.size := by omega
    have hez : (s.extract 0 k).size ≤ 1000000000000000 := by rw [ByteArray.size_extract]; omega
    clear hk hkz h4
    go_enter Try.func19, Try.ntmps19
    go_wp2_with fail
    have hS : Below w.heap.size w w.drew := (Below.refl _ _).drew
    go_region_held3 (fun W => Below w.heap.size w W) (first | assumption | (refine bel_first _ ?_; assumption) | (refine bel_alloc _ ?_; assumption)) (first
      | (go_at_call 15; ((with_reducible refine (tail_cell _ _ (cell_drew _ _ _) hez).mono ?_); rintro _ _ ⟨rfl, hb⟩; have hS1 := chain (w := w) (by assumption) hb; clear hb)))
    all_goals
      go_wp2
      go_ret
      exact ⟨ret_bool HE.out.symm, by assumption⟩
  · have HE : Hid (rightB s = false) := by
      show _ = _
      unfold rightB
      simp [h4]
    have h4i : decide ((4 : Int) ≤ (s.size : Int)) = false := by rw [decide_eq_false_iff_not]; omega
    have h4j : (s.size : Int) < 4 := by omega
    clear h4
    go_enter Try.func19, Try.ntmps19
    go_wp2_with fail
    refine wp_region_below (g := w.heap.size) (w0 := w) (by kernel_rfl) (by kernel_rfl) (Below.refl _ _) (fun hex => ?_)
    repeat (go_big_quiet_step (first
      | (intro _; rfl)))
    refine wpQuiet_nil ?_
    intro w1 hb1
    go_wp2
    go_ret
    exact ⟨ret_bool HE.out.symm, hb1⟩

theorem sum_any (v : Value) (l : List ByteArray) (w : World) (hv : StrsAt w v l) (hl : l.length ≤ 1000) (hs : ∀ s ∈ l, s.size ≤ 140737488351232) :
    Calls Try.prog 16 #[v] w fun e w' => e = .returned (.int .u32 (sumB (catB l) : Int)) ∧ Below w.heap.size w w' :=
  sum_big v l w hv hl fun s h => Nat.le_trans (hs s h) (by decide)

theorem tail_any (v : Value) (l : List ByteArray) (w : World) (hv : StrsAt w v l) (hl : l.length ≤ 1000) (hs : ∀ s ∈ l, s.size ≤ 140737488351232) :
    Calls Try.prog 15 #[v] w fun e w' => e = .returned (.string (tailB (catB l))) ∧ Below w.heap.size w w' :=
  tail_big v l w hv hl fun s h => Nat.le_trans (hs s h) (by decide)
end Go.Proofs.Ytbgombgcjfemmaa
