/-
  The program's own piece and kindOf (package quote): contracts.
-/
import Derived.Test.YtfpokkpklbkhiaaDoorQuoteEscQ
import Derived.Test.YtfpokkpklbkhiaaDoorQuoteWrite
import Derived.BigRegion
import Derived.Laws.EntriesVeiled
namespace Go.Proofs.YtfpokkpklbkhiaaDoor
open Go.RowKit
set_option linter.unusedVariables false

/-- string([]byte{..}), behind a draw. -/
theorem lit_backQ (l : List UInt8) (W : World) : Sem.run Tryd.prog (convert 32 9 (.slice (some ⟨W.heap.size, 0, none⟩) l.length l.length)) (W.alloc (.cells (u8s l).toArray 5)).drew = .ok (.string ⟨l.toArray⟩) (W.alloc (.cells (u8s l).toArray 5)).drew := by
  refine run_convert_bytes_back (P := Tryd.prog) _ 32 9 5 ⟨W.heap.size, 0, none⟩ l.length l Tryd.underlying32 Tryd.underlying5 Tryd.underlying9 (fun j hj => ?_)
  have e : (⟨W.heap.size, 0, none⟩ : Addr).add j = ⟨W.heap.size, j, none⟩ := by cases j <;> simp [Addr.add]
  rw [e]
  have := cell_of_row (W.alloc (.cells (u8s l).toArray 5)) W.heap.size j (u8s l).toArray 5 (0, 0) (heap_alloc_new W _)
  show (W.alloc (.cells (u8s l).toArray 5)).cell? _ = _
  rw [this]
  simp [u8s, List.getElem?_eq_getElem hj]
theorem six_backQ (v0 v1 v2 v3 v4 v5 : Int) (c0 c1 c2 c3 c4 c5 : UInt8) (h0 : v0 = (c0.toNat : Int)) (h1 : v1 = (c1.toNat : Int)) (h2 : v2 = (c2.toNat : Int)) (h3 : v3 = (c3.toNat : Int)) (h4 : v4 = (c4.toNat : Int)) (h5 : v5 = (c5.toNat : Int)) (W : World) :
    Sem.run Tryd.prog (convert 32 9 (.slice (some ⟨W.heap.size, 0, none⟩) 6 6)) (W.alloc (.cells #[.int .u8 v0, .int .u8 v1, .int .u8 v2, .int .u8 v3, .int .u8 v4, .int .u8 v5] 5)).drew = .ok (.string ⟨#[c0, c1, c2, c3, c4, c5]⟩) (W.alloc (.cells #[.int .u8 v0, .int .u8 v1, .int .u8 v2, .int .u8 v3, .int .u8 v4, .int .u8 v5] 5)).drew := by
  subst h0 h1 h2 h3 h4 h5
  exact lit_backQ [c0, c1, c2, c3, c4, c5] W

def hexB : ByteArray := ⟨#[48, 49, 50, 51, 52, 53, 54, 55, 56, 57, 97, 98, 99, 100, 101, 102]⟩
theorem hex_at : ∀ a : Fin 16, (hexB[a.1]'(by have := a.2; exact this)).toNat = signQ a.1 := by decide
theorem hex_is (a : Nat) (h : a < 16) : ((⟨#[48, 49, 50, 51, 52, 53, 54, 55, 56, 57, 97, 98, 99, 100, 101, 102]⟩ : ByteArray)[a]'h).toNat = (UInt8.ofNat (signQ a)).toNat := by
  rw [u8n _ (signQ_lt a h)]
  exact hex_at ⟨a, h⟩

/-- Where a byte that has a sign stands, and its sign. -/
theorem short_place (c : UInt8) : (shortN c.toNat = 0 ∧ Lib.indexByte [34, 92, 8, 9, 10, 12, 13] c = -1) ∨ ∃ (k : Nat) (hk : k < 7), Lib.indexByte [34, 92, 8, 9, 10, 12, 13] c = (k : Int) ∧ shortN c.toNat ≠ 0 ∧ ((⟨#[34, 92, 98, 116, 110, 102, 114]⟩ : ByteArray)[k]'hk) = UInt8.ofNat (shortN c.toNat) := by
  by_cases h1 : c = 34
  · subst h1; exact .inr ⟨0, by decide, by decide, by decide, by decide⟩
  by_cases h2 : c = 92
  · subst h2; exact .inr ⟨1, by decide, by decide, by decide, by decide⟩
  by_cases h3 : c = 8
  · subst h3; exact .inr ⟨2, by decide, by decide, by decide, by decide⟩
  by_cases h4 : c = 9
  · subst h4; exact .inr ⟨3, by decide, by decide, by decide, by decide⟩
  by_cases h5 : c = 10
  · subst h5; exact .inr ⟨4, by decide, by decide, by decide, by decide⟩
  by_cases h6 : c = 12
  · subst h6; exact .inr ⟨5, by decide, by decide, by decide, by decide⟩
  by_cases h7 : c = 13
  · subst h7; exact .inr ⟨6, by decide, by decide, by decide, by decide⟩
  refine .inl ⟨?_, indexByte_none _ _ (by simp [h1, h2, h3, h4, h5, h6, h7])⟩
  have e : ∀ n : UInt8, c ≠ n → c.toNat ≠ n.toNat := fun n h k => h (UInt8.toNat.inj k)
  have e1 : c.toNat ≠ 34 := e 34 h1
  have e2 : c.toNat ≠ 92 := e 92 h2
  have e3 : c.toNat ≠ 8 := e 8 h3
  have e4 : c.toNat ≠ 9 := e 9 h4
  have e5 : c.toNat ≠ 10 := e 10 h5
  have e6 : c.toNat ≠ 12 := e 12 h6
  have e7 : c.toNat ≠ 13 := e 13 h7
  unfold shortN
  rw [if_neg e1, if_neg e2, if_neg e3, if_neg e4, if_neg e5, if_neg e6, if_neg e7]

set_option maxRecDepth 100000 in
set_option maxHeartbeats 1600000 in
theorem ppiece_any (c : UInt8) (C : Int) (w : World) (hC : C = (c.toNat : Int)) :
    Calls Tryd.prog 20 #[.int .u8 C] w fun e w' => e = .returned (.string ⟨(pieceL c).toArray⟩) ∧ Below w.heap.size w w' := by
  subst hC
  have hc := c.toNat_lt
  rcases short_place c with ⟨hz, hi⟩ | ⟨k, hk, hi, hz, hq⟩
  · have HI := Lib.hid (fun W => index_any ⟨#[34, 92, 8, 9, 10, 12, 13]⟩ c (c.toNat : Int) (-1) W rfl hi)
    by_cases h32 : c.toNat < 32
    · have d1 : (c.toNat : Int) < 32 := by omega
      obtain ⟨a, ha⟩ : ∃ a, c.toNat / 16 = a := ⟨_, rfl⟩
      obtain ⟨b, hb⟩ : ∃ b, c.toNat % 16 = b := ⟨_, rfl⟩
      have q1 : a < 16 := by omega
      have q2 : b < 16 := by omega
      have q3 : (a : Int) < 16 := by omega
      have q4 : (b : Int) < 16 := by omega
      have r1 : ((c.toNat : Int) / 16) = (a : Int) := by omega
      have r2 : ((c.toNat : Int) % 16) = (b : Int) := by omega
      have r3 : IntKind.u8.wrap (a : Int) = (a : Int) := by
        show ((a : Int) % 256) = _
        omega
      have HE : Hid (pieceL c = [92, 117, 48, 48, UInt8.ofNat (signQ a), UInt8.ofNat (signQ b)]) := by
        show _ = _
        unfold pieceL
        rw [if_neg (by omega), if_pos h32, ha, hb]
      have h6 := fun W => six_backQ 92 117 48 48 (((⟨#[48, 49, 50, 51, 52, 53, 54, 55, 56, 57, 97, 98, 99, 100, 101, 102]⟩ : ByteArray)[a]'q1).toNat : Int) (((⟨#[48, 49, 50, 51, 52, 53, 54, 55, 56, 57, 97, 98, 99, 100, 101, 102]⟩ : ByteArray)[b]'q2).toNat : Int) 92 117 48 48 (UInt8.ofNat (signQ a)) (UInt8.ofNat (signQ b)) rfl rfl rfl rfl (by rw [hex_is a q1]) (by rw [hex_is b q2]) W
      clear ha hb hi hz h32
      go_enter Tryd.func20, Tryd.ntmps20
      go_wp2_with (go_at_call 32; refine (HI.out _).mono ?_; rintro _ w1 ⟨rfl, rfl⟩)
      go_region
      all_goals
        go_wp2
        go_ret
        exact ⟨ret_str (by rw [HE.out]), ((Below.refl _ _).alloc (Nat.le_refl _) _).drew⟩
    · have d1 : ¬ (c.toNat : Int) < 32 := by omega
      have HE : Hid (pieceL c = [c]) := by
        show _ = _
        unfold pieceL
        rw [if_neg (by omega), if_neg h32]
      have h5 := fun W => one_back (c.toNat : Int) c rfl W
      clear hi hz h32
      go_enter Tryd.func20, Tryd.ntmps20
      go_wp2_with (go_at_call 32; refine (HI.out _).mono ?_; rintro _ w1 ⟨rfl, rfl⟩)
      go_ret
      exact ⟨ret_str (by rw [HE.out]), (Below.refl _ _).alloc (Nat.le_refl _) _⟩
  · have HI := Lib.hid (fun W => index_any ⟨#[34, 92, 8, 9, 10, 12, 13]⟩ c (c.toNat : Int) (k : Int) W rfl hi)
    have HE : Hid (pieceL c = [92, UInt8.ofNat (shortN c.toNat)]) := by
      show _ = _
      unfold pieceL
      rw [if_pos hz]
    have hk' : (k : Int) < 7 := by omega
    have h2 := fun W => two_back 92 (((⟨#[34, 92, 98, 116, 110, 102, 114]⟩ : ByteArray)[k]'hk).toNat : Int) 92 (UInt8.ofNat (shortN c.toNat)) rfl (by rw [hq]) W
    clear hi hz hq
    go_enter Tryd.func20, Tryd.ntmps20
    go_wp2_with (go_at_call 32; refine (HI.out _).mono ?_; rintro _ w1 ⟨rfl, rfl⟩)
    go_ret
    exact ⟨ret_str (by rw [HE.out]), (Below.refl _ _).alloc (Nat.le_refl _) _⟩

/-- A kind of pieces, as the program has it: what reads them, and the error. -/
def kindV (f : Nat) (e : Int) : Value := .agg #[.func (.func f) #[] #[], .int .i64 e]

set_option maxRecDepth 100000 in
theorem pkind_low (C : Int) (w : World) (h0 : 0 ≤ C) (h : C < 32) :
    Calls Tryd.prog 25 #[.int .u8 C] w fun e w' => e = .returned (kindV 34 72) ∧ Below w.heap.size w w' := by
  go_enter Tryd.func25, Tryd.ntmps25
  go_wp2
  exact bodyPost_ret (v := kindV 34 72) (by simp [results, Tryd.results25, go_sem, kindV]) rfl ⟨rfl, (Below.refl _ _).alloc (Nat.le_refl _) _⟩

set_option maxRecDepth 100000 in
theorem pkind_esc (C : Int) (w : World) (h : C = 92) :
    Calls Tryd.prog 25 #[.int .u8 C] w fun e w' => e = .returned (kindV 35 73) ∧ Below w.heap.size w w' := by
  subst h
  go_enter Tryd.func25, Tryd.ntmps25
  go_wp2
  exact bodyPost_ret (v := kindV 35 73) (by simp [results, Tryd.results25, go_sem, kindV]) rfl ⟨rfl, (Below.refl _ _).alloc (Nat.le_refl _) _⟩

set_option maxRecDepth 100000 in
theorem pkind_utf (C : Int) (w : World) (h : ¬ C < 32) (h92 : C ≠ 92) :
    Calls Tryd.prog 25 #[.int .u8 C] w fun e w' => e = .returned (kindV 36 74) ∧ Below w.heap.size w w' := by
  have d3 : (C == 92) = false := by rw [beq_eq_false_iff_ne]; exact h92
  go_enter Tryd.func25, Tryd.ntmps25
  go_wp2
  exact bodyPost_ret (v := kindV 36 74) (by simp [results, Tryd.results25, go_sem, kindV]) rfl ⟨rfl, (Below.refl _ _).alloc (Nat.le_refl _) _⟩
end Go.Proofs.YtfpokkpklbkhiaaDoor
