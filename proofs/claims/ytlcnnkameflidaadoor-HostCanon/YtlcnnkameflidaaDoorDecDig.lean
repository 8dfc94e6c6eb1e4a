/-
  digits of package dec: a contract.
-/
import Derived.Test.YtlcnnkameflidaaDoorDecPref
import Derived.Laws.Cover4
import Derived.WalkMore
import Derived.Deep.LoopGhost
namespace Go.Proofs.YtlcnnkameflidaaDoor
open Go.RowKit
set_option linter.unusedVariables false

/-- The row of runes in block g: the j lowest digits of n at its end. -/
def RowR (w : World) (g n j : Nat) : Prop :=
  (∀ i, i < j → w.cell? ⟨g, 19 - i, none⟩ = some (.int .i32 ((48 + n / 10 ^ i % 10 : Nat) : Int))) ∧ (∀ i, i < 20 → ∃ v, w.cell? ⟨g, i, none⟩ = some v) ∧ (∀ i, i < 20 → w.frozen? ⟨g, i, none⟩ = false)

theorem RowR.set {w : World} {g n j : Nat} (h : RowR w g n j) (hj : j < 20) (v : Int) (hv : v = ((48 + n / 10 ^ j % 10 : Nat) : Int)) (p : Nat) (hp : j + p + 1 = 20) :
    RowR (w.setCell ⟨g, p, none⟩ (.int .i32 v)) g n (j + 1) := by
  subst hv
  have ep : p = 19 - j := by omega
  subst ep
  obtain ⟨h1, h2, h3⟩ := h
  obtain ⟨v0, hv0⟩ := h2 (19 - j) (by omega)
  refine ⟨fun i hi => ?_, fun i hi => ?_, fun i hi => ?_⟩
  · by_cases e : i = j
    · subst e
      rw [World.cell?_setCell_same w _ _ hv0]
    · rw [World.cell?_setCell_other w _ _ _ (fun h => e (by injection h; omega))]
      exact h1 i (by omega)
  · by_cases e : i = 19 - j
    · subst e
      exact ⟨_, World.cell?_setCell_same w _ _ hv0⟩
    · rw [World.cell?_setCell_other w _ _ _ (fun h => e (by injection h; omega))]
      exact h2 i hi
  · rw [World.frozen?_setCell]
    exact h3 i hi

theorem encode_digit (c : UInt8) (h : isD c = true) (r : ByteArray) : (r ++ Utf8.encode (c.toNat : Int)) = ⟨(r.data.toList ++ [c]).toArray⟩ := by
  have hc : 48 ≤ c.toNat ∧ c.toNat ≤ 57 := by simpa [isD] using h
  have key : ∀ c : UInt8, c.toNat < 128 → Utf8.encode (c.toNat : Int) = ⟨#[c]⟩ := by
    intro c hc
    have : ∀ n : Nat, n < 128 → Utf8.encode (n : Int) = ⟨#[UInt8.ofNat n]⟩ := by decide +kernel
    rw [this _ hc]
    simp
  rw [key c (by omega)]
  apply ba_ext
  simp

theorem runes_digits : ∀ (l : List UInt8), allD l = true → runesBytes (l.map fun c => (c.toNat : Int)) = ⟨l.toArray⟩ := by
  have key : ∀ (l : List UInt8) (r : ByteArray), allD l = true → (l.map fun c => (c.toNat : Int)).foldl (fun r n => r ++ Utf8.encode n) r = ⟨(r.data.toList ++ l).toArray⟩ := by
    intro l
    induction l with
    | nil => intro r _; exact ba_ext (by simp)
    | cons c t ih =>
      intro r h
      have h' : isD c = true ∧ allD t = true := by simpa [allD] using h
      rw [List.map_cons, List.foldl_cons, encode_digit c h'.1, ih _ h'.2]
      simp
  intro l h
  unfold runesBytes
  rw [key l _ h]
  simp

theorem RowR.new (w : World) (n : Nat) (t : TypeId) (C : Array Value) (hC : C.size = 20) : RowR (w.alloc (.cells C t)) w.heap.size n 0 := by
  refine ⟨fun i hi => by omega, fun i hi => ?_, fun i hi => by simp⟩
  refine ⟨C[i], ?_⟩
  simp [hC, hi]

/-- What holds when j digits have been written. -/
def DigAt (n k : Nat) (g : Nat) (w0 : World) (gk : Nat) (left at' : Value) (wr : World) : Prop :=
  ∃ j p q : Nat, left = .int .u64 q ∧ at' = .int .i64 ((p + 1 : Nat) : Int) ∧ j + p + 1 = 20 ∧ j + gk = k ∧ 1 ≤ gk ∧ q ≤ n ∧ q = n / 10 ^ j ∧ RowR wr g n j ∧ Below g w0 wr

theorem digits_back (w : World) (g n k len cap : Nat) (hk : k ≤ 20) (h : RowR w g n k) (hl : len = k) (p : Nat) (hp : p = 20 - k) :
    Sem.run Tryd.prog (convert 62 9 (.slice (some ⟨g, p, none⟩) len cap)) w = .ok (.string (padB n k)) w := by
  subst hl hp
  have := run_convert_runes (P := Tryd.prog) w 62 9 21 ⟨g, 20 - len, none⟩ len cap ((padK n len).map fun c => (c.toNat : Int)) (by simp [padK_len]) Tryd.underlying62 Tryd.underlying21 Tryd.underlying9 (by
    intro j hj
    have hj' : j < len := by simpa [padK_len] using hj
    have := h.1 (len - 1 - j) (by omega)
    rw [show (19 - (len - 1 - j)) = 20 - len + j by omega] at this
    have ea : (⟨g, 20 - len, none⟩ : Addr).add j = ⟨g, 20 - len + j, none⟩ := by cases j <;> simp [Addr.add]
    rw [ea, this, List.getD_eq_getElem?_getD, List.getElem?_map, padK_at n len j hj']
    simp only [Option.map_some, Option.getD_some]
    rw [dig_toNat _ (Nat.mod_lt _ (by decide))])
  rw [List.take_of_length_le (by simp [padK_len]), runes_digits _ (padK_all _ _)] at this
  exact this

theorem row_slice (g p : Nat) (hp : p ≤ 19) (w : World) : (Instr.sliceAt 61 (.pointer (some ⟨g, 0, none⟩)) (some (.int .i64 (p : Int))) none none).run Tryd.prog w = .ok (.slice (some ⟨g, p, none⟩) (20 - p) (20 - p)) w := by
  have hal : Tryd.prog.arrayLen 61 = 20 := by kernel_rfl
  have hel : Tryd.prog.elem 61 = 21 := by kernel_rfl
  have hz : ∀ W, (sizeOf 21).run Tryd.prog W = .ok 1 W := fun W => by go_simp
  rw [run_sliceAt_array_l w 61 ⟨g, 0, none⟩ (by rw [hal, hel]; exact Tryd.underlying61) .i64 p (by omega) (by rw [hal]; omega), hal, hel, hz]
  have h1 : ¬ (20 = p) := by omega
  simp only [Result.andThen, slicedAt, Int.toNat_natCast, Nat.mul_one]
  rw [if_neg h1]
  have ea : (⟨g, 0, none⟩ : Addr).add p = ⟨g, p, none⟩ := by cases p <;> simp [Addr.add]
  rw [ea]

set_option maxRecDepth 100000 in
set_option maxHeartbeats 1600000 in
theorem digits_any (n : Nat) (least : Int) (k : Nat) (w : World) (hk : 1 ≤ k) (hk20 : k ≤ 20) (hn : n < 10 ^ k) (h64 : n < 18446744073709551616) (hl0 : 0 ≤ least) (hl : least ≤ k)
    (hk3 : least = k ∨ k = 1 ∨ 10 ^ (k - 1) ≤ n) :
    Calls Tryd.prog 50 #[.int .u64 n, .int .i64 least] w fun e w' => e = .returned (.string (padB n k)) ∧ Below w.heap.size w w' := by
  have HN := Lib.hid hn
  have HK := Lib.hid hk3
  clear hn hk3
  go_enter Tryd.func50, Tryd.ntmps50
  go_wp2
  go_step3
  go_wp2
  go_step3
  go_wp2
  have HR := RowR.new w n 61 #[.int .i32 0, .int .i32 0, .int .i32 0, .int .i32 0, .int .i32 0, .int .i32 0, .int .i32 0, .int .i32 0, .int .i32 0, .int .i32 0, .int .i32 0, .int .i32 0, .int .i32 0, .int .i32 0, .int .i32 0, .int .i32 0, .int .i32 0, .int .i32 0, .int .i32 0, .int .i32 0] rfl
  go_loopg [0, 6] k (fun gk left at' wr => DigAt n k w.heap.size w gk left at' wr)
  case atStart => exact ⟨0, 19, n, rfl, rfl, by omega, by omega, by omega, by omega, by simp, HR, (Below.refl _ _).alloc (Nat.le_refl _) _⟩
  case round =>
    clear HR
    obtain ⟨j, p, q, rfl, rfl, hjp, hjk, hg1, hqn, hq, hrow, hbe⟩ := hrel
    obtain ⟨v0, c0⟩ := hrow.2.1 p (by omega)
    have f0 := hrow.2.2 p (by omega)
    have HQ := Lib.hid hq
    have HROW := Lib.hid hrow
    clear hq hrow
    have hp19 : p ≤ 19 := by omega
    have hq64 : (q : Int) ≤ 18446744073709551615 := by omega
    have hsl := row_slice w.heap.size p hp19
    have HS := HROW.out.set (by omega) (48 + (q : Int) % 10) (by rw [← HQ.out]; omega) p hjp
    have hcv := digits_back _ w.heap.size n (j + 1) (20 - p) (20 - p) (by omega) HS (by omega) p (by omega)
    have HROW2 := Lib.hid HS
    have HB := hbe.setCell (p := ⟨w.heap.size, p, none⟩) (Nat.le_refl _) (.int .i32 (48 + (q : Int) % 10))
    have HST := Lib.hid (pow_step n j q HQ.out)
    have HD : Hid (n / 10 ^ (j + 1) = 0 → n < 10 ^ (j + 1)) := fun h => (Nat.div_eq_zero_iff.1 h).resolve_left (Nat.pos_iff_ne_zero.1 (pow_pos10 _))
    have HU : Hid (k ≤ j + 1 → n / 10 ^ (j + 1) = 0) := fun h => Nat.div_eq_of_lt (Nat.lt_of_lt_of_le HN.out (Nat.pow_le_pow_right (by decide) h))
    clear HS
    go_wp2
    · have h0 : 0 < (q : Int) / 10 := by assumption
      have hs1 := HST.out
      have hs2 := HU.out
      have hgk : 2 ≤ gk := by
        rcases Nat.lt_or_ge gk 2 with h | h
        · have := hs2 (by omega)
          omega
        · exact h
      clear hs2
      go_roundg (gk - 1)
      case measure => omega
      case rel => exact ⟨j + 1, p - 1, q / 10, by go_num, by rw [show p - 1 + 1 = p by omega], by omega, by omega, by omega, by omega, hs1, HROW2.out, HB⟩
    · have h0 : (q : Int) / 10 ≤ 0 := by assumption
      have h1 : least ≤ 20 - (p : Int) := by assumption
      rw [Exit.noGoto_ret]
      go_ret
      refine ⟨ret_str ?_, HB⟩
      have hd := HD.out (by rw [← HST.out]; omega)
      have e : j + 1 = k := by
        rcases HK.out with h | h | h
        · omega
        · omega
        · rcases Nat.lt_or_ge (j + 1) k with hlt | hge
          · have : 10 ^ (j + 1) ≤ 10 ^ (k - 1) := Nat.pow_le_pow_right (by decide) (by omega)
            omega
          · omega
      rw [e]
    · have h0 : (q : Int) / 10 ≤ 0 := by assumption
      have h1 : 20 - (p : Int) < least := by assumption
      go_roundg (gk - 1)
      case measure => omega
      case rel => exact ⟨j + 1, p - 1, q / 10, by go_num, by rw [show p - 1 + 1 = p by omega], by omega, by omega, by omega, by omega, HST.out, HROW2.out, HB⟩
end Go.Proofs.YtlcnnkameflidaaDoor
