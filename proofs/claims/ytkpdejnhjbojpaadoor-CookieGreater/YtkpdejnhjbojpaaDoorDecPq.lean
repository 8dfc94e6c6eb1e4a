/-
  strings.CutPrefix and what it calls: contracts.
  digits of package dec: a contract.
  worth of package dec: contracts.
  Numbers in decimal digits, plain; what digits come to, with the value as a variable.
  Print of package dec: contracts.
  Read of package dec: contracts.
-/
import Derived.Test.YtkpdejnhjbojpaaDoorRows
import Derived.Test.YtkpdejnhjbojpaaDoorDecPlain
import Derived.WalkKit
import Derived.WalkSpells
import Derived.WalkLawsBesides
import Derived.Lib.Hide
import Derived.Laws.Cover4
import Derived.WalkMore
import Derived.Deep.LoopGhost
import Derived.Lib.OthersKept
import Derived.Laws.RangeAny
import Derived.Laws.Bits64
import Derived.Laws.BitsLemmas
namespace Go.Proofs.YtkpdejnhjbojpaaDoor
open Go.RowKit
set_option linter.unusedVariables false

set_option maxHeartbeats 400000 in
theorem hasprefix_any (s p : ByteArray) (w : World) (hs : s.size ≤ maxLen) (hp : p.size ≤ maxLen) :
    Calls Tryd.prog 75 #[.string s, .string p] w fun e w' => e = .returned (.bool (prefB s p)) ∧ w = w' := by
  unfold maxLen at hs hp
  by_cases h : p.size ≤ s.size
  · have HE : Hid (prefB s p = ((s.extract 0 p.size).toList == p.toList)) := by show _ = _; simp [prefB, h]
    go_enter Tryd.func75, Tryd.ntmps75
    go_wp2
    go_ret
    exact ⟨ret_bool HE.out.symm, rfl⟩
  · have HE : Hid (prefB s p = false) := by show _ = _; simp [prefB, h]
    go_enter Tryd.func75, Tryd.ntmps75
    go_wp2
    go_ret
    exact ⟨ret_bool HE.out.symm, rfl⟩

set_option maxHeartbeats 400000 in
theorem cutp_yes (s p : ByteArray) (w : World) (hs : s.size ≤ maxLen) (hp : p.size ≤ maxLen) (h : prefB s p = true) :
    Calls Tryd.prog 68 #[.string s, .string p] w fun e w' => e = .returned (.tuple #[.string (s.extract p.size s.size), .bool true]) ∧ w = w' := by
  have hle : p.size ≤ s.size := by
    unfold prefB at h
    simp at h
    exact h.1
  have H := Lib.hid h
  clear h
  have in23 : Calls Tryd.prog 84 #[.string s, .string p] w fun e w' => e = .returned (.tuple #[.string (s.extract p.size s.size), .bool true]) ∧ w = w' := by
    go_enter Tryd.func84, Tryd.ntmps84
    go_wp2_with fail
    refine (hasprefix_any s p _ hs hp).mono ?_
    rintro e w' ⟨rfl, rfl⟩
    rw [H.out]
    unfold maxLen at hs hp
    go_wp2
    go_ret2
    exact ⟨rfl, rfl⟩
  go_enter Tryd.func68, Tryd.ntmps68
  go_wp2_with fail
  refine in23.mono ?_
  rintro e w' ⟨rfl, rfl⟩
  go_wp2
  go_ret2
  exact ⟨rfl, rfl⟩

set_option maxHeartbeats 400000 in
theorem cutp_no (s p : ByteArray) (w : World) (hs : s.size ≤ maxLen) (hp : p.size ≤ maxLen) (h : prefB s p = false) :
    Calls Tryd.prog 68 #[.string s, .string p] w fun e w' => e = .returned (.tuple #[.string s, .bool false]) ∧ w = w' := by
  have H := Lib.hid h
  clear h
  have in23 : Calls Tryd.prog 84 #[.string s, .string p] w fun e w' => e = .returned (.tuple #[.string s, .bool false]) ∧ w = w' := by
    go_enter Tryd.func84, Tryd.ntmps84
    go_wp2_with fail
    refine (hasprefix_any s p _ hs hp).mono ?_
    rintro e w' ⟨rfl, rfl⟩
    rw [H.out]
    go_wp2
    go_ret2
    exact ⟨rfl, rfl⟩
  go_enter Tryd.func68, Tryd.ntmps68
  go_wp2_with fail
  refine in23.mono ?_
  rintro e w' ⟨rfl, rfl⟩
  go_wp2
  go_ret2
  exact ⟨rfl, rfl⟩
end Go.Proofs.YtkpdejnhjbojpaaDoor
namespace Go.Proofs.YtkpdejnhjbojpaaDoor
open Go.RowKit
set_option linter.unusedVariables false

/-- The row of runes in block g: the j lowest digits of n at its end. -/
def RowR (w : World) (g n j : Nat) : Prop :=
  (∀ i, i < j → w.cell? ⟨g, 19 - i, none⟩ = some (.int .i32 ((48 + n / 10 ^ i % 10 : Nat) : Int))) ∧ (∀ i, i < 20 → ∃ v, w.cell? ⟨g, i, none⟩ = some v) ∧ (∀ i, i < 20 → w.frozen? ⟨g, i, none⟩ = false)

theorem RowR.set {w : World} {g n j : Nat} (h : RowR w g n j) (hj : j < 20) (v : Int) (hv : v = ((48 + n / 10 ^ j % 10 : Nat) : Int)) (p : Nat) (hp : j + p + 1 = 20) :
    RowR (w.setCell ⟨g, p, none⟩ (.int .i32 v)) g n (j + 1) := by
  subst hv
  have ep : p = 19 - j := by omega
  subst ep
  obtain ⟨h1, h2, h3⟩ := h
  obtain ⟨v0, hv0⟩ := h2 (19 - j) (by omega)
  refine ⟨fun i hi => ?_, fun i hi => ?_, fun i hi => ?_⟩
  · by_cases e : i = j
    · subst e
      rw [World.cell?_setCell_same w _ _ hv0]
    · rw [World.cell?_setCell_other w _ _ _ (fun h => e (by injection h; omega))]
      exact h1 i (by omega)
  · by_cases e : i = 19 - j
    · subst e
      exact ⟨_, World.cell?_setCell_same w _ _ hv0⟩
    · rw [World.cell?_setCell_other w _ _ _ (fun h => e (by injection h; omega))]
      exact h2 i hi
  · rw [World.frozen?_setCell]
    exact h3 i hi

theorem encode_digit (c : UInt8) (h : isD c = true) (r : ByteArray) : (r ++ Utf8.encode (c.toNat : Int)) = ⟨(r.data.toList ++ [c]).toArray⟩ := by
  have hc : 48 ≤ c.toNat ∧ c.toNat ≤ 57 := by simpa [isD] using h
  have key : ∀ c : UInt8, c.toNat < 128 → Utf8.encode (c.toNat : Int) = ⟨#[c]⟩ := by
    intro c hc
    have : ∀ n : Nat, n < 128 → Utf8.encode (n : Int) = ⟨#[UInt8.ofNat n]⟩ := by decide +kernel
    rw [this _ hc]
    simp
  rw [key c (by omega)]
  apply ba_ext
  simp

theorem runes_digits : ∀ (l : List UInt8), allD l = true → runesBytes (l.map fun c => (c.toNat : Int)) = ⟨l.toArray⟩ := by
  have key : ∀ (l : List UInt8) (r : ByteArray), allD l = true → (l.map fun c => (c.toNat : Int)).foldl (fun r n => r ++ Utf8.encode n) r = ⟨(r.data.toList ++ l).toArray⟩ := by
    intro l
    induction l with
    | nil => intro r _; exact ba_ext (by simp)
    | cons c t ih =>
      intro r h
      have h' : isD c = true ∧ allD t = true := by simpa [allD] using h
      rw [List.map_cons, List.foldl_cons, encode_digit c h'.1, ih _ h'.2]
      simp
  intro l h
  unfold runesBytes
  rw [key l _ h]
  simp

theorem RowR.new (w : World) (n : Nat) (t : TypeId) (C : Array Value) (hC : C.size = 20) : RowR (w.alloc (.cells C t)) w.heap.size n 0 := by
  refine ⟨fun i hi => by omega, fun i hi => ?_, fun i hi => by simp⟩
  refine ⟨C[i], ?_⟩
  simp [hC, hi]

/-- What holds when j digits have been written. -/
def DigAt (n k : Nat) (g : Nat) (w0 : World) (gk : Nat) (left at' : Value) (wr : World) : Prop :=
  ∃ j p q : Nat, left = .int .u64 q ∧ at' = .int .i64 ((p + 1 : Nat) : Int) ∧ j + p + 1 = 20 ∧ j + gk = k ∧ 1 ≤ gk ∧ q ≤ n ∧ q = n / 10 ^ j ∧ RowR wr g n j ∧ Below g w0 wr

theorem digits_back (w : World) (g n k len cap : Nat) (hk : k ≤ 20) (h : RowR w g n k) (hl : len = k) (p : Nat) (hp : p = 20 - k) :
    Sem.run Tryd.prog (convert 99 9 (.slice (some ⟨g, p, none⟩) len cap)) w = .ok (.string (padB n k)) w := by
  subst hl hp
  have := run_convert_runes (P := Tryd.prog) w 99 9 21 ⟨g, 20 - len, none⟩ len cap ((padK n len).map fun c => (c.toNat : Int)) (by simp [padK_len]) Tryd.underlying99 Tryd.underlying21 Tryd.underlying9 (by
    intro j hj
    have hj' : j < len := by simpa [padK_len] using hj
    have := h.1 (len - 1 - j) (by omega)
    rw [show (19 - (len - 1 - j)) = 20 - len + j by omega] at this
    have ea : (⟨g, 20 - len, none⟩ : Addr).add j = ⟨g, 20 - len + j, none⟩ := by cases j <;> simp [Addr.add]
    rw [ea, this, List.getD_eq_getElem?_getD, List.getElem?_map, padK_at n len j hj']
    simp only [Option.map_some, Option.getD_some]
    rw [dig_toNat _ (Nat.mod_lt _ (by decide))])
  rw [List.take_of_length_le (by simp [padK_len]), runes_digits _ (padK_all _ _)] at this
  exact this

theorem row_slice (g p : Nat) (hp : p ≤ 19) (w : World) : (Instr.sliceAt 98 (.pointer (some ⟨g, 0, none⟩)) (some (.int .i64 (p : Int))) none none).run Tryd.prog w = .ok (.slice (some ⟨g, p, none⟩) (20 - p) (20 - p)) w := by
  have hal : Tryd.prog.arrayLen 98 = 20 := by kernel_rfl
  have hel : Tryd.prog.elem 98 = 21 := by kernel_rfl
  have hz : ∀ W, (sizeOf 21).run Tryd.prog W = .ok 1 W := fun W => by go_simp
  rw [run_sliceAt_array_l w 98 ⟨g, 0, none⟩ (by rw [hal, hel]; exact Tryd.underlying98) .i64 p (by omega) (by rw [hal]; omega), hal, hel, hz]
  have h1 : ¬ (20 = p) := by omega
  simp only [Result.andThen, slicedAt, Int.toNat_natCast, Nat.mul_one]
  rw [if_neg h1]
  have ea : (⟨g, 0, none⟩ : Addr).add p = ⟨g, p, none⟩ := by cases p <;> simp [Addr.add]
  rw [ea]

set_option maxRecDepth 100000 in
set_option maxHeartbeats 1600000 in
theorem digits_any (n : Nat) (least : Int) (k : Nat) (w : World) (hk : 1 ≤ k) (hk20 : k ≤ 20) (hn : n < 10 ^ k) (h64 : n < 18446744073709551616) (hl0 : 0 ≤ least) (hl : least ≤ k)
    (hk3 : least = k ∨ k = 1 ∨ 10 ^ (k - 1) ≤ n) :
    Calls Tryd.prog 99 #[.int .u64 n, .int .i64 least] w fun e w' => e = .returned (.string (padB n k)) ∧ Below w.heap.size w w' := by
  have HN := Lib.hid hn
  have HK := Lib.hid hk3
  clear hn hk3
  go_enter Tryd.func99, Tryd.ntmps99
  go_wp2
  go_step3
  go_wp2
  go_step3
  go_wp2
  have HR := RowR.new w n 98 #[.int .i32 0, .int .i32 0, .int .i32 0, .int .i32 0, .int .i32 0, .int .i32 0, .int .i32 0, .int .i32 0, .int .i32 0, .int .i32 0, .int .i32 0, .int .i32 0, .int .i32 0, .int .i32 0, .int .i32 0, .int .i32 0, .int .i32 0, .int .i32 0, .int .i32 0, .int .i32 0] rfl
  go_loopg [0, 6] k (fun gk left at' wr => DigAt n k w.heap.size w gk left at' wr)
  case atStart => exact ⟨0, 19, n, rfl, rfl, by omega, by omega, by omega, by omega, by simp, HR, (Below.refl _ _).alloc (Nat.le_refl _) _⟩
  case round =>
    clear HR
    obtain ⟨j, p, q, rfl, rfl, hjp, hjk, hg1, hqn, hq, hrow, hbe⟩ := hrel
    obtain ⟨v0, c0⟩ := hrow.2.1 p (by omega)
    have f0 := hrow.2.2 p (by omega)
    have HQ := Lib.hid hq
    have HROW := Lib.hid hrow
    clear hq hrow
    have hp19 : p ≤ 19 := by omega
    have hq64 : (q : Int) ≤ 18446744073709551615 := by omega
    have hsl := row_slice w.heap.size p hp19
    have HS := HROW.out.set (by omega) (48 + (q : Int) % 10) (by rw [← HQ.out]; omega) p hjp
    have hcv := digits_back _ w.heap.size n (j + 1) (20 - p) (20 - p) (by omega) HS (by omega) p (by omega)
    have HROW2 := Lib.hid HS
    have HB := hbe.setCell (p := ⟨w.heap.size, p, none⟩) (Nat.le_refl _) (.int .i32 (48 + (q : Int) % 10))
    have HST := Lib.hid (pow_step n j q HQ.out)
    have HD : Hid (n / 10 ^ (j + 1) = 0 → n < 10 ^ (j + 1)) := fun h => (Nat.div_eq_zero_iff.1 h).resolve_left (Nat.pos_iff_ne_zero.1 (pow_pos10 _))
    have HU : Hid (k ≤ j + 1 → n / 10 ^ (j + 1) = 0) := fun h => Nat.div_eq_of_lt (Nat.lt_of_lt_of_le HN.out (Nat.pow_le_pow_right (by decide) h))
    clear HS
    go_wp2
    · have h0 : 0 < (q : Int) / 10 := by assumption
      have hs1 := HST.out
      have hs2 := HU.out
      have hgk : 2 ≤ gk := by
        rcases Nat.lt_or_ge gk 2 with h | h
        · have := hs2 (by omega)
          omega
        · exact h
      clear hs2
      go_roundg (gk - 1)
      case measure => omega
      case rel => exact ⟨j + 1, p - 1, q / 10, by go_num, by rw [show p - 1 + 1 = p by omega], by omega, by omega, by omega, by omega, hs1, HROW2.out, HB⟩
    · have h0 : (q : Int) / 10 ≤ 0 := by assumption
      have h1 : least ≤ 20 - (p : Int) := by assumption
      rw [Exit.noGoto_ret]
      go_ret
      refine ⟨ret_str ?_, HB⟩
      have hd := HD.out (by rw [← HST.out]; omega)
      have e : j + 1 = k := by
        rcases HK.out with h | h | h
        · omega
        · omega
        · rcases Nat.lt_or_ge (j + 1) k with hlt | hge
          · have : 10 ^ (j + 1) ≤ 10 ^ (k - 1) := Nat.pow_le_pow_right (by decide) (by omega)
            omega
          · omega
      rw [e]
    · have h0 : (q : Int) / 10 ≤ 0 := by assumption
      have h1 : 20 - (p : Int) < least := by assumption
      go_roundg (gk - 1)
      case measure => omega
      case rel => exact ⟨j + 1, p - 1, q / 10, by go_num, by rw [show p - 1 + 1 = p by omega], by omega, by omega, by omega, by omega, HST.out, HROW2.out, HB⟩
end Go.Proofs.YtkpdejnhjbojpaaDoor
namespace Go.Proofs.YtkpdejnhjbojpaaDoor
open Go.RowKit
set_option linter.unusedVariables false

/-- What worth holds at place pos. -/
def WorthAt (s : ByteArray) (g : Nat) (w0 : World) (gk : Nat) (sum : Value) (wr : World) : Prop :=
  ∃ pos S : Nat, pos + gk = s.size ∧ sum = .int .u64 (S : Int) ∧ S < 18446744073709551616 ∧ S = valN (s.data.toList.take pos) % 18446744073709551616 ∧ allD (s.data.toList.take pos) = true ∧
    wr.heap[g]? = some (.stringIter s pos) ∧ Below g w0 wr

theorem worth_step (S V c : Nat) (h : S = V % 18446744073709551616) (h1 : 48 ≤ c) : IntKind.u64.wrap (IntKind.u64.wrap ((S : Int) * 10) + ((c : Int) - 48)) = (((10 * V + (c - 48)) % 18446744073709551616 : Nat) : Int) := by
  rw [IntKind.wrap_u64, IntKind.wrap_u64]
  omega

/-- One digit on. -/
theorem worthAt_step (s : ByteArray) (g : Nat) (w0 : World) (gk pos S : Nat) (wr : World) (hp : pos < s.size) (hpg : pos + gk = s.size) (hSv : S = valN (s.data.toList.take pos) % 18446744073709551616)
    (hall : allD (s.data.toList.take pos) = true) (hc : isD s[pos] = true) (hit : wr.heap[g]? = some (.stringIter s (pos + 1))) (hbe : Below g w0 wr) :
    WorthAt s g w0 (gk - 1) (.int .u64 (IntKind.u64.wrap (IntKind.u64.wrap ((S : Int) * 10) + ((s[pos].toNat : Int) - 48)))) wr := by
  have hc' : 48 ≤ s[pos].toNat ∧ s[pos].toNat ≤ 57 := by simpa [isD] using hc
  refine ⟨pos + 1, _, by omega, by rw [worth_step S _ _ hSv hc'.1], Nat.mod_lt _ (by decide), ?_, ?_, hit, hbe⟩
  · rw [take_snoc s pos hp, valN_snoc]
  · rw [take_snoc s pos hp, allD_snoc _ _ hall, hc]

set_option maxRecDepth 100000 in
set_option maxHeartbeats 1600000 in
theorem worth_yes (s : ByteArray) (w : World) (hs : s.size ≤ maxLen) (h : allD s.data.toList = true) :
    Calls Tryd.prog 93 #[.string s] w fun e w' => e = .returned (.tuple #[.int .u64 ((valN s.data.toList % 18446744073709551616 : Nat) : Int), .bool true]) ∧ Below w.heap.size w w' := by
  unfold maxLen at hs
  have HA := Lib.hid h
  clear h
  go_enter Tryd.func93, Tryd.ntmps93
  go_wp2
  go_loopg [4] s.size (fun gk sum wr => WorthAt s w.heap.size w gk sum wr)
  case atStart => exact ⟨0, 0, by omega, rfl, by omega, rfl, rfl, World.iter_heap w s 0, (Below.refl _ _).alloc (Nat.le_refl _) _⟩
  case round =>
    obtain ⟨pos, S, hpg, rfl, hS, hSv, hall, hit, hbe⟩ := hrel
    have HSv := Lib.hid hSv
    have Hall := Lib.hid hall
    clear hSv hall
    by_cases hp : pos < s.size
    · have hcd : isD s[pos] = true := by
        have := HA.out
        unfold allD at this
        rw [List.all_eq_true] at this
        exact this _ (by rw [← bget s pos hp]; exact List.getElem_mem _)
      have hc : 48 ≤ s[pos].toNat ∧ s[pos].toNat ≤ 57 := by simpa [isD] using hcd
      obtain ⟨hc1, hc2⟩ := hc
      have hnx : ∀ ty, (Instr.next (.pointer (some ⟨w.heap.size, 0, none⟩)) true ty).run Tryd.prog wr = _ := fun ty => Lib.run_next_any_at wr w.heap.size s pos ty hit hp
      rw [decode_ascii s pos hp (by omega)] at hnx
      have hit2 := Lib.iterAt_heap wr w.heap.size s pos (pos + 1) hit
      have hbe2 := Lib.below_iterAt hbe (k := w.heap.size) (Nat.le_refl _) s (pos + 1)
      have HCD := Lib.hid hcd
      clear hcd hit hbe
      go_wp2
      go_roundg (gk - 1)
      case measure => omega
      case rel => exact worthAt_step s _ _ gk pos S _ hp hpg HSv.out Hall.out HCD.out hit2 hbe2
    · have hnx : ∀ ty, (Instr.next (.pointer (some ⟨w.heap.size, 0, none⟩)) true ty).run Tryd.prog wr = _ := fun ty => Lib.run_next_end_at wr w.heap.size s pos ty hit hp
      go_wp2
      go_ret2
      refine ⟨ret_u64b true ?_, hbe⟩
      rw [HSv.out, List.take_of_length_le (by rw [list_len]; omega)]

set_option maxRecDepth 100000 in
set_option maxHeartbeats 1600000 in
theorem worth_no (s : ByteArray) (w : World) (hs : s.size ≤ maxLen) (h : allD s.data.toList = false) :
    Calls Tryd.prog 93 #[.string s] w fun e w' => e = .returned (.tuple #[.int .u64 0, .bool false]) ∧ Below w.heap.size w w' := by
  unfold maxLen at hs
  have HA := Lib.hid h
  clear h
  go_enter Tryd.func93, Tryd.ntmps93
  go_wp2
  go_loopg [4] s.size (fun gk sum wr => WorthAt s w.heap.size w gk sum wr)
  case atStart => exact ⟨0, 0, by omega, rfl, by omega, rfl, rfl, World.iter_heap w s 0, (Below.refl _ _).alloc (Nat.le_refl _) _⟩
  case round =>
    obtain ⟨pos, S, hpg, rfl, hS, hSv, hall, hit, hbe⟩ := hrel
    have HSv := Lib.hid hSv
    have Hall := Lib.hid hall
    clear hSv hall
    by_cases hp : pos < s.size
    · have hnx : ∀ ty, (Instr.next (.pointer (some ⟨w.heap.size, 0, none⟩)) true ty).run Tryd.prog wr = _ := fun ty => Lib.run_next_any_at wr w.heap.size s pos ty hit hp
      rcases (show s[pos].toNat < 48 ∨ (48 ≤ s[pos].toNat ∧ s[pos].toNat ≤ 57) ∨ (57 < s[pos].toNat ∧ s[pos].toNat < 128) ∨ 128 ≤ s[pos].toNat from by omega) with hc | ⟨hc1, hc2⟩ | ⟨hc1, hc2⟩ | hc
      · rw [decode_ascii s pos hp (by omega)] at hnx
        have hbe2 := Lib.below_iterAt hbe (k := w.heap.size) (Nat.le_refl _) s (pos + 1)
        go_wp2
        go_ret2
        exact ⟨rfl, hbe2⟩
      · have HCD : Hid (isD s[pos] = true) := by show _ = _; simp [isD, hc1, hc2]
        rw [decode_ascii s pos hp (by omega)] at hnx
        have hit2 := Lib.iterAt_heap wr w.heap.size s pos (pos + 1) hit
        have hbe2 := Lib.below_iterAt hbe (k := w.heap.size) (Nat.le_refl _) s (pos + 1)
        clear hit hbe
        go_wp2
        go_roundg (gk - 1)
        case measure => omega
        case rel => exact worthAt_step s _ _ gk pos S _ hp hpg HSv.out Hall.out HCD.out hit2 hbe2
      · rw [decode_ascii s pos hp (by omega)] at hnx
        have hbe2 := Lib.below_iterAt hbe (k := w.heap.size) (Nat.le_refl _) s (pos + 1)
        go_wp2
        go_ret2
        exact ⟨rfl, hbe2⟩
      · have hh := (decode_high s pos hp hc).1
        have hbe2 := Lib.below_iterAt hbe (k := w.heap.size) (Nat.le_refl _) s (pos + (Utf8.decode s pos).2)
        generalize (Utf8.decode s pos).1 = r at hnx hh
        generalize (Utf8.decode s pos).2 = t at hnx hbe2
        have h1 : ¬ (r : Int) < 48 := by omega
        have h2 : (57 : Int) < (r : Int) := by omega
        go_wp2
        go_ret2
        exact ⟨rfl, hbe2⟩
    · exfalso
      have h := Hall.out
      rw [List.take_of_length_le (by rw [list_len]; omega), HA.out] at h
      cases h
end Go.Proofs.YtkpdejnhjbojpaaDoor
namespace Go.Proofs.YtkpdejnhjbojpaaDoor
open Go.RowKit
set_option linter.unusedVariables false

theorem at_worth {s : ByteArray} {n : Nat} (w : World) (hs : s.size ≤ maxLen) (h : allD s.data.toList = true) (hv : valN s.data.toList % 18446744073709551616 = n) :
    Calls Tryd.prog 93 #[.string s] w fun e w' => e = .returned (.tuple #[.int .u64 (n : Int), .bool true]) ∧ Below w.heap.size w w' := hv ▸ worth_yes s w hs h

end Go.Proofs.YtkpdejnhjbojpaaDoor
namespace Go.Proofs.YtkpdejnhjbojpaaDoor
open Go.RowKit
set_option linter.unusedVariables false

set_option maxRecDepth 100000 in
set_option maxHeartbeats 400000 in
theorem print_pos (n : Nat) (w : World) (h : n ≤ 9223372036854775807) :
    Calls Tryd.prog 94 #[.int .i64 (n : Int)] w fun e w' => e = .returned (.string (printB n)) ∧ Below w.heap.size w w' := by
  have H19 := nd_le19 n (by omega)
  obtain ⟨k1, k2, k3⟩ := nd_spec n (by omega)
  have K2 := Lib.hid k2
  have K3 := Lib.hid k3
  clear k2 k3
  have HP := Lib.hid (printB_pos n)
  go_enter Tryd.func94, Tryd.ntmps94
  go_wp2_with fail
  refine (digits_any n 1 (nd n) _ k1 (by omega) K2.out (by omega) (by omega) (by omega) (.inr K3.out)).mono ?_
  rintro _ w1 ⟨rfl, hb1⟩
  go_wp2
  go_ret
  exact ⟨ret_str HP.out.symm, hb1⟩

set_option maxRecDepth 100000 in
set_option maxHeartbeats 400000 in
theorem print_neg (n : Nat) (w : World) (h1 : 1 ≤ n) (h : n ≤ 9223372036854775808) :
    Calls Tryd.prog 94 #[.int .i64 (-(n : Int))] w fun e w' => e = .returned (.string (printB (-(n : Int)))) ∧ Below w.heap.size w w' := by
  have H19 := nd_le19 n (by omega)
  obtain ⟨k1, k2, k3⟩ := nd_spec n (by omega)
  have K2 := Lib.hid k2
  have K3 := Lib.hid k3
  clear k2 k3
  have HP := Lib.hid (printB_neg n h1)
  have hw1 : IntKind.u64.wrap (-(n : Int)) = 18446744073709551616 - n := by rw [IntKind.wrap_u64]; omega
  have hw2 : IntKind.u64.wrap (-(18446744073709551616 - (n : Int))) = n := by rw [IntKind.wrap_u64]; omega
  have hneg : (-(n : Int)) < 0 := by omega
  have HM := Lib.hid (minus_pad n (nd n))
  have hsz := padB_size n (nd n)
  have hss : (ByteArray.mk #[45]).size + (padB n (nd n)).size ≤ 9223372036854775807 := by rw [hsz]; show 1 + _ ≤ _; omega
  clear hsz
  go_enter Tryd.func94, Tryd.ntmps94
  go_wp2_with fail
  refine (digits_any n 1 (nd n) _ k1 (by omega) K2.out (by omega) (by omega) (by omega) (.inr K3.out)).mono ?_
  rintro _ w1 ⟨rfl, hb1⟩
  go_wp2
  go_ret
  exact ⟨ret_str (by rw [HP.out, HM.out]), hb1⟩
theorem print_any (n : Int) (w : World) (h1 : -9223372036854775808 ≤ n) (h2 : n ≤ 9223372036854775807) :
    Calls Tryd.prog 94 #[.int .i64 n] w fun e w' => e = .returned (.string (printB n)) ∧ Below w.heap.size w w' := by
  by_cases h : 0 ≤ n
  · obtain ⟨m, rfl⟩ := Int.eq_ofNat_of_zero_le h
    exact print_pos m w (by omega)
  · obtain ⟨m, hm⟩ : ∃ m : Nat, n = -(m : Int) := ⟨n.natAbs, by omega⟩
    subst hm
    exact print_neg m w (by omega) (by omega)

end Go.Proofs.YtkpdejnhjbojpaaDoor
namespace Go.Proofs.YtkpdejnhjbojpaaDoor
open Go.RowKit
set_option linter.unusedVariables false

set_option maxRecDepth 100000 in
set_option maxHeartbeats 800000 in
theorem read_pos (n : Nat) (s : ByteArray) (w : World) (hn : n ≤ 9223372036854775807) (hs : printB (n : Int) = s) :
    Calls Tryd.prog 88 #[.string s] w fun e w' => e = .returned (.tuple #[.int .i64 (n : Int), .bool true]) ∧ Below w.heap.size w w' := by
  have hl : s.data.toList = padK n (nd n) := by rw [← hs, printB_pos, padB_list]
  have hz : s.size ≤ 19 := by rw [← list_len, hl, padK_len]; exact nd_le19 n (by omega)
  have hm : prefB s ⟨#[45]⟩ = false := by
    rw [← Bool.not_eq_true, pref_minus]
    rintro ⟨r, hr⟩
    exact padK_head n (nd n) (nd_spec n (by omega)).1 r (by rw [← hl, hr])
  have HA : Hid (allD s.data.toList = true) := by show _ = _; rw [hl]; exact padK_all _ _
  have HV : Hid (valN s.data.toList % 18446744073709551616 = n) := by show _ = _; rw [hl]; exact val_pad_nd n (by omega)
  have hq : ((printB (n : Int)).toList == s.toList) = true := by rw [hs]; simp
  have HM := Lib.hid hm
  clear hm hl hs
  go_enter Tryd.func88, Tryd.ntmps88
  go_wp2_with fail
  refine (cutp_no s _ _ (by unfold maxLen; omega) (by decide) HM.out).mono ?_
  rintro _ w1 ⟨rfl, rfl⟩
  go_wp2_with fail
  refine (at_worth (n := n) _ (by unfold maxLen; omega) HA.out HV.out).mono ?_
  rintro _ w1 ⟨rfl, hb1⟩
  go_wp2_with fail
  refine (print_any n _ (by omega) (by omega)).mono ?_
  rintro _ w2 ⟨rfl, hb⟩
  have hb2 := chain hb1 hb
  clear hb hb1
  go_wp2
  go_ret2
  exact ⟨rfl, hb2⟩

set_option maxRecDepth 100000 in
set_option maxHeartbeats 800000 in
theorem read_neg (n : Nat) (s : ByteArray) (w : World) (h1 : 1 ≤ n) (hn : n ≤ 9223372036854775808) (hs : printB (-(n : Int)) = s) :
    Calls Tryd.prog 88 #[.string s] w fun e w' => e = .returned (.tuple #[.int .i64 (-(n : Int)), .bool true]) ∧ Below w.heap.size w w' := by
  have hl : s.data.toList = 45 :: padK n (nd n) := by rw [← hs, printB_neg n h1]
  have hz : s.size ≤ 20 := by
    have := nd_le19 n (by omega)
    rw [← list_len, hl, List.length_cons, padK_len]
    omega
  have hm : prefB s ⟨#[45]⟩ = true := (pref_minus s).2 ⟨_, hl⟩
  have he := ext1_list s _ _ hl
  have hez : (s.extract 1 s.size).size ≤ 20 := by rw [ByteArray.size_extract]; omega
  have HA : Hid (allD (s.extract 1 s.size).data.toList = true) := by show _ = _; rw [he]; exact padK_all _ _
  have HV : Hid (valN (s.extract 1 s.size).data.toList % 18446744073709551616 = n) := by show _ = _; rw [he]; exact val_pad_nd n (by omega)
  have hq : ((printB (-(n : Int))).toList == s.toList) = true := by rw [hs]; simp
  have HM := Lib.hid hm
  clear hm hl hs he
  have hw : wrap64 (-(wrap64 (n : Int))) = -(n : Int) := by unfold wrap64; omega
  go_enter Tryd.func88, Tryd.ntmps88
  go_wp2_with fail
  refine (cutp_yes s _ _ (by unfold maxLen; omega) (by decide) HM.out).mono ?_
  rintro _ w1 ⟨rfl, rfl⟩
  rw [show (ByteArray.mk #[45]).size = 1 from rfl]
  generalize s.extract 1 s.size = b at *
  go_wp2_with fail
  refine (at_worth (n := n) _ (by unfold maxLen; omega) HA.out HV.out).mono ?_
  rintro _ w1 ⟨rfl, hb1⟩
  go_wp2_with fail
  rw [hw]
  with_reducible refine (print_any (-(n : Int)) _ (by omega) (by omega)).mono ?_
  rintro _ w2 ⟨rfl, hb⟩
  have hb2 := chain hb1 hb
  clear hb hb1
  go_wp2
  go_ret2
  exact ⟨rfl, hb2⟩

theorem read_yes (n : Int) (s : ByteArray) (w : World) (h1 : -9223372036854775808 ≤ n) (h2 : n ≤ 9223372036854775807) (hs : printB n = s) :
    Calls Tryd.prog 88 #[.string s] w fun e w' => e = .returned (.tuple #[.int .i64 n, .bool true]) ∧ Below w.heap.size w w' := by
  by_cases h : 0 ≤ n
  · obtain ⟨m, rfl⟩ := Int.eq_ofNat_of_zero_le h
    exact read_pos m s w (by omega) hs
  · obtain ⟨m, hm⟩ : ∃ m : Nat, n = -(m : Int) := ⟨n.natAbs, by omega⟩
    subst hm
    exact read_neg m s w (by omega) (by omega) hs

set_option maxRecDepth 100000 in
set_option maxHeartbeats 800000 in
theorem read_no (s : ByteArray) (w : World) (hs : s.size ≤ maxLen) (h : ∀ n : Int, -9223372036854775808 ≤ n → n ≤ 9223372036854775807 → printB n ≠ s) :
    Calls Tryd.prog 88 #[.string s] w fun e w' => e = .returned (.tuple #[.int .i64 0, .bool false]) ∧ Below w.heap.size w w' := by
  have HN : Hid (∀ n : Int, -9223372036854775808 ≤ n → n ≤ 9223372036854775807 → ((printB n).toList == s.toList) = false) := fun n h1 h2 => by
    rw [eq_toList, decide_eq_false_iff_not]
    exact h n h1 h2
  clear h
  cases hm : prefB s ⟨#[45]⟩
  · have HM := Lib.hid hm
    clear hm
    go_enter Tryd.func88, Tryd.ntmps88
    go_wp2_with fail
    refine (cutp_no s _ _ hs (by decide) HM.out).mono ?_
    rintro _ w1 ⟨rfl, rfl⟩
    cases ha : allD s.data.toList
    · have HA := Lib.hid ha
      clear ha
      go_wp2_with fail
      refine (worth_no s _ hs HA.out).mono ?_
      rintro _ w1 ⟨rfl, hb1⟩
      go_wp2
      go_ret2
      exact ⟨rfl, hb1⟩
    · have HA := Lib.hid ha
      clear ha
      go_wp2_with fail
      refine (worth_yes s _ hs HA.out).mono ?_
      rintro _ w1 ⟨rfl, hb1⟩
      generalize hv : ((valN s.data.toList % 18446744073709551616 : Nat) : Int) = v
      clear hv
      obtain ⟨r1, r2⟩ := wrap64_range v
      have hq := HN.out (wrap64 v) r1 r2
      go_wp2_with fail
      generalize wrap64 v = u at *
      with_reducible refine (print_any u _ r1 r2).mono ?_
      rintro _ w2 ⟨rfl, hb⟩
      have hb2 := chain hb1 hb
      clear hb hb1
      go_wp2
      go_ret2
      exact ⟨rfl, hb2⟩
  · have HM := Lib.hid hm
    clear hm
    have hez : (s.extract 1 s.size).size ≤ maxLen := by rw [ByteArray.size_extract]; omega
    go_enter Tryd.func88, Tryd.ntmps88
    go_wp2_with fail
    refine (cutp_yes s _ _ hs (by decide) HM.out).mono ?_
    rintro _ w1 ⟨rfl, rfl⟩
    rw [show (ByteArray.mk #[45]).size = 1 from rfl]
    generalize s.extract 1 s.size = b at *
    cases ha : allD b.data.toList
    · have HA := Lib.hid ha
      clear ha
      go_wp2_with fail
      refine (worth_no b _ hez HA.out).mono ?_
      rintro _ w1 ⟨rfl, hb1⟩
      go_wp2
      go_ret2
      exact ⟨rfl, hb1⟩
    · have HA := Lib.hid ha
      clear ha
      go_wp2_with fail
      refine (worth_yes b _ hez HA.out).mono ?_
      rintro _ w1 ⟨rfl, hb1⟩
      generalize hv : ((valN b.data.toList % 18446744073709551616 : Nat) : Int) = v
      clear hv
      obtain ⟨r1, r2⟩ := wrap64_range (-(wrap64 v))
      have hq := HN.out (wrap64 (-(wrap64 v))) r1 r2
      go_wp2_with fail
      generalize wrap64 (-(wrap64 v)) = u at *
      with_reducible refine (print_any u _ r1 r2).mono ?_
      rintro _ w2 ⟨rfl, hb⟩
      have hb2 := chain hb1 hb
      clear hb hb1
      go_wp2
      go_ret2
      exact ⟨rfl, hb2⟩
end Go.Proofs.YtkpdejnhjbojpaaDoor
