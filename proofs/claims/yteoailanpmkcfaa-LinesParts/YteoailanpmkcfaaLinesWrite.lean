/-
  The program's own marking (package lines): escapes, percents, write: contracts.
-/
import Derived.Test.YteoailanpmkcfaaLinesMark3
import Derived.Test.YteoailanpmkcfaaBaseString
import Derived.Deep.RegionHeld3
import Derived.Laws.EntriesVeiled
namespace Go.Proofs.Yteoailanpmkcfaa
open Go.RowKit
set_option linter.unusedVariables false

/-- A way, as the program has it: fb tells what a byte becomes, fw which it was. -/
def wayV (m : Way) (fb fw : Nat) : Value := .agg #[.int .u8 (m.mark.toNat : Int), .int .i64 (m.many : Int), .func (.func fb) #[] #[], .func (.func fw) #[] #[]]

set_option maxRecDepth 100000 in
theorem escapes_any (w : World) : Calls Try.prog 39 #[] w fun e w' => e = .returned (wayV wayE 54 56) ∧ Below w.heap.size w w' := by
  go_enter Try.func39, Try.ntmps39
  go_wp2
  exact bodyPost_ret (v := wayV wayE 54 56) (by simp [results, Try.results39, go_sem, wayV, wayE]) rfl ⟨rfl, (Below.refl _ _).alloc (Nat.le_refl _) _⟩

set_option maxRecDepth 100000 in
theorem percents_any (w : World) : Calls Try.prog 43 #[] w fun e w' => e = .returned (wayV wayP 57 59) ∧ Below w.heap.size w w' := by
  go_enter Try.func43, Try.ntmps43
  go_wp2
  exact bodyPost_ret (v := wayV wayP 57 59) (by simp [results, Try.results43, go_sem, wayV, wayP]) rfl ⟨rfl, (Below.refl _ _).alloc (Nat.le_refl _) _⟩

/-- What fb tells. -/
def Becomes (m : Way) (fb : Nat) : Prop := ∀ (c : UInt8) (C : Int) (w : World), C = (c.toNat : Int) → Calls Try.prog fb #[.int .u8 C] w fun e w' => e = .returned (.string ⟨(m.becomes c).toArray⟩) ∧ Below w.heap.size w w'

/-- What write holds at place k: the box in block g, the builder behind it. -/
def WriteAt (m : Way) (s : ByteArray) (g : Nat) (w0 : World) (i : Value) (wr : World) : Prop :=
  ∃ k : Nat, k ≤ s.size ∧ i = .int .i64 (k : Int) ∧ Bld wr (g + 1) (m.writeL (s.data.toList.take k)) ∧ Below (g + 1) w0 wr

theorem Way.writeL_len {m : Way} (h : m.Fair) (l : List UInt8) : (m.writeL l).length ≤ (1 + m.many) * l.length := by
  induction l with
  | nil => simp [Way.writeL]
  | cons c t ih =>
    have := (Way.len h c).2
    have e : m.writeL (c :: t) = m.becomes c ++ m.writeL t := rfl
    rw [e, List.length_append, List.length_cons, Nat.mul_add, Nat.mul_one]
    omega

set_option maxRecDepth 100000 in
set_option maxHeartbeats 1600000 in
theorem write_any (m : Way) (fb fw : Nat) (s : ByteArray) (w : World) (hm : m.Fair) (h2 : m.many ≤ 2) (hs : s.size ≤ 1000000000000)
    (hN : ∀ args w, Sem.run Try.prog (callFunc fb args) w = .ok (.enter fb args) w) (hp : Becomes m fb) :
    Calls Try.prog 40 #[wayV m fb fw, .string s] w fun e w' => e = .returned (.string ⟨(m.writeL s.data.toList).toArray⟩) ∧ Below w.heap.size w w' := by
  have HP := Lib.hid hp
  have HF := Lib.hid hm
  have HL := Lib.hid (list_len s)
  clear hp hm
  unfold wayV
  go_enter Try.func40, Try.ntmps40
  go_wp2
  go_loopw [9] (fun i wr => WriteAt m s w.heap.size (w.alloc (.cells #[.int .u8 (m.mark.toNat : Int), .int .i64 (m.many : Int), .func (.func fb) #[] #[], .func (.func fw) #[] #[]] 53)) i wr) (fun i _ => s.size - (intOf i).toNat)
  case atStart =>
    refine ⟨0, by omega, rfl, ?_, (Below.refl _ _).alloc (by simp) _⟩
    have := Bld.fresh (w.alloc (.cells #[.int .u8 (m.mark.toNat : Int), .int .i64 (m.many : Int), .func (.func fb) #[] #[], .func (.func fw) #[] #[]] 53))
    rw [World.size_alloc] at this
    exact this
  case round =>
    obtain ⟨k, hk, rfl, hb, hbe⟩ := hrel
    have hsz := hb.lt
    have HB := Lib.hid hb
    have hc2 : wr.cell? ⟨w.heap.size, 2, none⟩ = some (.func (.func fb) #[] #[]) := by
      rw [hbe.cell (p := ⟨w.heap.size, 2, none⟩) (by simp)]
      simp
    clear hb
    by_cases hlt : k < s.size
    · have hlw : (m.writeL (s.data.toList.take k)).length ≤ (1 + m.many) * k := by
        have h := Way.writeL_len HF.out (s.data.toList.take k)
        have h3 : (s.data.toList.take k).length ≤ k := List.length_take_le _ _
        exact Nat.le_trans h (Nat.mul_le_mul_left _ h3)
      have hq := (Way.len HF.out s[k]).2
      have hsb : (⟨(m.becomes s[k]).toArray⟩ : ByteArray).size = (m.becomes s[k]).length := by
        show (m.becomes s[k]).toArray.size = _
        rw [List.size_toArray]
      have hroom : (m.writeL (s.data.toList.take k)).length + (⟨(m.becomes s[k]).toArray⟩ : ByteArray).size ≤ 140737488355328 := by
        have h3 : (1 + m.many) * k ≤ 3 * k := Nat.mul_le_mul_right _ (by omega)
        omega
      have HQ := Lib.hid hroom
      have HS : Hid (m.writeL (s.data.toList.take k) ++ (⟨(m.becomes s[k]).toArray⟩ : ByteArray).data.toList = m.writeL (s.data.toList.take (k + 1))) := by
        show _ = _
        rw [take_snoc s k hlt, Way.snoc]
      clear hlw hq hsb hroom
      have hwl : w.heap.size < wr.drew.heap.size := by
        show w.heap.size < wr.heap.size
        omega
      go_wp2_with fail
      go_region_held3 (fun W => W.cell? ⟨w.heap.size, 2, none⟩ = some (.func (.func fb) #[] #[])) (first | assumption) (first
          | (go_at_call 33; (with_reducible refine (wstr_any (w.heap.size + 1) _ _ _ HB1.out HQ.out).mono ?_); rintro _ w2 ⟨rfl, hb2, hbe2⟩; have hc4 := (hbe2.cell (p := ⟨w.heap.size, 2, none⟩) (Nat.lt_succ_self _)).trans hc3)
          | (refine (HP.out s[k] _ _ rfl).mono ?_; rintro _ w1 ⟨rfl, hb1⟩; have HB1 := Lib.hid (Bld.keep (w := wr.drew) HB.out hb1); have hc3 := (hb1.cell (p := ⟨w.heap.size, 2, none⟩) hwl).trans hc2))
      all_goals
        rw [HS.out] at hb2
        have HB2 := Lib.hid hb2
        have hbe3 := (hbe.drew.trans (hb1.mono (show w.heap.size + 1 ≤ wr.drew.heap.size from by simp; omega))).trans hbe2
        clear hb2 HB1 HQ HS
        go_wp2
        go_roundw
        case rel => exact ⟨k + 1, by omega, by go_num, HB2.out, hbe3⟩
        case measure => simp [intOf]; omega
    · have e : s.data.toList.take k = s.data.toList := List.take_of_length_le (by rw [HL.out]; omega)
      have HE := Lib.hid e
      clear e
      go_wp2_with fail
      refine (bstring_any (w.heap.size + 1) _ _ HB.out).mono ?_
      rintro _ w1 ⟨rfl, hb1⟩
      go_wp2
      go_ret
      refine ⟨ret_str (by rw [HE.out]), ?_⟩
      exact ((Below.refl w.heap.size w).alloc (Nat.le_refl _) _).trans ((hbe.trans hb1).mono (by omega))
end Go.Proofs.Yteoailanpmkcfaa
