/-
  What the program's own Read (package quote) looks at: the kind of the piece at a place, what reads it, and what it tells.
-/
import Derived.Test.YtfpokkpklbkhiaaDoorQuoteWriteP
import Derived.Test.YtfpokkpklbkhiaaDoorQuoteRead
import Derived.Test.YtfpokkpklbkhiaaDoorQuoteDig
namespace Go.Proofs.YtfpokkpklbkhiaaDoor
open Go.RowKit
set_option linter.unusedVariables false

theorem callN (args : Array Value) (w : World) : Sem.run Tryd.prog (callFunc 34 args) w = .ok (.enter 34 args) w := by go_simp
theorem callE (args : Array Value) (w : World) : Sem.run Tryd.prog (callFunc 35 args) w = .ok (.enter 35 args) w := by go_simp
theorem callU (args : Array Value) (w : World) : Sem.run Tryd.prog (callFunc 36 args) w = .ok (.enter 36 args) w := by go_simp

/-- The kind of the piece at place k of s: f reads it, and tells L, N and b; E is its error. -/
structure KindAt (s : ByteArray) (k : Nat) (hk : k < s.size) (f : Nat) (E L N : Int) (b : Bool) : Prop where
  kind : ∀ w, Calls Tryd.prog 25 #[.int .u8 (s[k].toNat : Int)] w fun e w' => e = .returned (kindV f E) ∧ Below w.heap.size w w'
  enter : ∀ args w, Sem.run Tryd.prog (callFunc f args) w = .ok (.enter f args) w
  tells : ∀ w, Tabs w → Calls Tryd.prog f #[.string (s.extract k s.size)] w fun e w' => e = .returned (.tuple #[.int .i64 L, .int .i64 N, .bool b]) ∧ Below w.heap.size w w'

/-- What that is by the document. -/
def PieceAt (s : ByteArray) (k : Nat) (E L N : Int) (b : Bool) : Prop :=
  (b = true ∧ ∃ r n : Nat, L = (r : Int) ∧ N = (n : Int) ∧ letter r ∧ pieceQ (s.data.toList.drop k) = (0, putU r, n)) ∨ (b = false ∧ ∃ e : Nat, E = (e : Int) ∧ e ≠ 0 ∧ pieceQ (s.data.toList.drop k) = (e, [], 0))

theorem kind_at (s : ByteArray) (k : Nat) (hk : k < s.size) : ∃ f E L N b, KindAt s k hk f E L N b ∧ PieceAt s k E L N b := by
  have hp := piece_cons s k hk
  have hc := s[k].toNat_lt
  have hr := rest_of s k
  have hz : 0 < (s.extract k s.size).size := by rw [ByteArray.size_extract]; omega
  by_cases h32 : s[k].toNat < 32
  · rw [if_pos h32] at hp
    refine ⟨_, 72, 0, 0, false, ⟨fun w => pkind_low _ w (by omega) (by omega), callN, fun w hT => (pnothing_any _ w).mono ?_⟩, .inr ⟨rfl, 72, rfl, by decide, hp⟩⟩
    rintro e w' ⟨rfl, rfl⟩
    exact ⟨rfl, Below.refl _ _⟩
  · rw [if_neg h32] at hp
    by_cases h92 : s[k].toNat = 92
    · rw [if_pos h92] at hp
      have h0 : (s.extract k s.size)[0].toNat = 92 := by
        rw [ByteArray.getElem_extract]
        exact h92
      have hd : (s.extract k s.size).data.toList.drop 1 = s.data.toList.drop (k + 1) := by rw [hr, List.drop_drop]
      have hE := fun w => pescape_any (s.extract k s.size) w hz h0
      rw [hd] at hE
      cases he : escQ (s.data.toList.drop (k + 1)) with
      | none =>
        rw [he] at hp hE
        refine ⟨_, 73, 0, 0, false, ⟨fun w => pkind_esc _ w (by omega), callE, fun w hT => (hE w).mono ?_⟩, .inr ⟨rfl, 73, rfl, by decide, hp⟩⟩
        rintro e w' ⟨rfl, rfl⟩
        exact ⟨rfl, Below.refl _ _⟩
      | some p =>
        obtain ⟨r, n⟩ := p
        obtain ⟨e1, _⟩ := escQ_yes _ _ _ he
        rw [he] at hp hE
        refine ⟨_, 73, (r : Int), (n : Int), true, ⟨fun w => pkind_esc _ w (by omega), callE, fun w hT => (hE w).mono ?_⟩, .inl ⟨rfl, r, n, rfl, rfl, e1, hp⟩⟩
        rintro e w' ⟨rfl, rfl⟩
        exact ⟨rfl, Below.refl _ _⟩
    · rw [if_neg h92] at hp
      obtain ⟨r, n, b, ht⟩ : ∃ r n b, takeU (s.data.toList.drop k) = (r, n, b) := ⟨_, _, _, rfl⟩
      have ht' : takeU (s.extract k s.size).data.toList = (r, n, b) := by rw [hr]; exact ht
      rw [ht] at hp
      refine ⟨_, 74, (r : Int), (n : Int), b, ⟨fun w => pkind_utf _ w (by omega) (by omega), callU, fun w hT => takeu_any _ r n b w hT ht'⟩, ?_⟩
      cases b with
      | true =>
        obtain ⟨y1, y2, _⟩ := takeU_yes _ _ _ ht
        refine .inl ⟨rfl, r, n, rfl, rfl, y1, ?_⟩
        rw [y2]
        exact hp
      | false => exact .inr ⟨rfl, 74, rfl, by decide, hp⟩

/-- Reading goes on: no fewer bytes are read in the end. -/
theorem readR_more (l out : List UInt8) (k : Nat) (u : List UInt8) (n : Nat) (h : readR l out k = (0, u, n)) : k ≤ n := by
  generalize hm : l.length = m
  induction m using Nat.strongRecOn generalizing l out k with
  | _ m ih =>
    by_cases h34 : l.head? = some 34
    · rw [readR_end _ _ _ h34] at h
      simp only [Prod.mk.injEq] at h
      omega
    · by_cases h0 : (pieceQ l).1 = 0
      · obtain ⟨_, p2, p3, _⟩ := pieceQ_yes l h0
        rw [readR_step _ _ _ h34 h0] at h
        have := ih (l.drop (pieceQ l).2.2).length (by rw [List.length_drop]; omega) _ _ _ h rfl
        omega
      · rw [readR_err _ _ _ h34 h0] at h
        simp only [Prod.mk.injEq] at h
        exact absurd h.1 h0

/-- How far Read comes at most. -/
def Room (s : ByteArray) : Prop := ∀ (k : Nat) (o : List UInt8), k ≤ s.size → readQ s.data.toList = readR (s.data.toList.drop k) o k → o.length ≤ k → k ≤ 140737488351232
theorem room_of (s : ByteArray) (hn : s.size ≤ 140737488351232 ∨ ∃ u n, readQ s.data.toList = (0, u, n) ∧ n ≤ 1000000) : Room s := by
  intro k o hk h _
  rcases hn with hn | ⟨u, n, h1, h2⟩
  · omega
  · have := readR_more _ _ _ _ _ (h.symm.trans h1)
    omega
end Go.Proofs.YtfpokkpklbkhiaaDoor
