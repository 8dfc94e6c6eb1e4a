/-
  The document's own reader of json: what a row with one item more comes to, in whatever order its blocks are made.
-/
import Derived.Test.YtmnigdcgdebgoaaDoorJsonRefB
import Derived.Test.YtmnigdcgdebgoaaDoorJsonRefM
import Derived.Test.YtmnigdcgdebgoaaDoorDecRrd
namespace Go.Proofs.YtmnigdcgdebgoaaDoor
open Go.RowKit
set_option linter.unusedVariables false

theorem two_new1 (w : World) (a b : Obj) : ((w.alloc a).alloc b).heap[w.heap.size + 1]? = some b := by
  have := heap_alloc_new (w.alloc a) b
  rw [show (w.alloc a).heap.size = w.heap.size + 1 by simp] at this
  exact this
theorem two_new2 (w : World) (a b : Obj) : ((w.alloc a).alloc b).heap[w.heap.size]? = some a :=
  (heap_alloc_old (w.alloc a) b (by simp)).trans (heap_alloc_new w a)
theorem two_lt1 (w : World) (a b : Obj) : w.heap.size + 1 < ((w.alloc a).alloc b).heap.size := by simp
theorem two_lt2 (w : World) (a b : Obj) : w.heap.size < ((w.alloc a).alloc b).heap.size := by simp; omega

/-- What a reading call of the document's tells, and leaves. -/
def RTells (s : ByteArray) (b : Nat) (l : List It) (w : World) (a : Nat × List It × List UInt8) (r : Ending) (w' : World) : Prop :=
  ∃ j ao m c, j ≤ s.size ∧ r = .returned (stV s j (.slice ao m c) a.1) ∧ Below w.heap.size w w' ∧ (a.1 = 0 → restB s j = a.2.2 ∧ ItsFar b w' (.slice ao m c) (l ++ a.2.1))
theorem ItsFar.mono {b b' : Nat} {w : World} {v : Value} {l : List It} (h : ItsFar b w v l) (hb : b' ≤ b) : ItsFar b' w v l := ⟨h.1, fun ad n c e => Nat.le_trans hb (h.2 ad n c e)⟩
theorem ItsFar.keep {b : Nat} {w w' : World} {v : Value} {l : List It} (h : ItsFar b w v l) (hb : Below w.heap.size w w') : ItsFar b w' v l := ⟨h.1.keep hb, h.2⟩

theorem rdread_any (s : ByteArray) (w : World) (hs : s.size ≤ 1000000) : Calls Tryd.prog 85 #[.string s] w fun e w' => e = .returned (match readD s.data.toList with | some n => .tuple #[.int .i64 n, .bool true] | none => .tuple #[.int .i64 0, .bool false]) ∧ Below w.heap.size w w' := by
  cases h : readD s.data.toList with
  | some n =>
    obtain ⟨h1, h2, h3⟩ := readD_some h
    refine rread_yes n s w h1 h2 (ba_ext ?_)
    rw [printB_list, h3]
  | none =>
    refine rread_no s w (by unfold maxLen; omega) (fun n h1 h2 e => ?_)
    refine readD_none h n h1 h2 ?_
    rw [← e, printB_list]

theorem body_between (s : ByteArray) (k j : Nat) (hkj : k ≤ j) (hj : j ≤ s.size) (h : (restB s k).dropWhile numC = restB s j) : (s.extract k j).data.toList = (restB s k).takeWhile numC := by
  have hl := span_len numC (restB s k)
  rw [h, restB_len, restB_len] at hl
  have e : j - k = ((restB s k).takeWhile numC).length := by omega
  rw [extract_list, e]
  show (restB s k).take _ = _
  have h2 := List.takeWhile_append_dropWhile (p := numC) (l := restB s k)
  generalize (restB s k).takeWhile numC = a at *
  rw [← h2]
  exact List.take_left' rfl

def RNumAt (s : ByteArray) (k : Nat) (W : World) (n : Nat) (v5 : Value) (wr : World) : Prop :=
  ∃ j : Nat, k ≤ j ∧ j ≤ s.size ∧ s.size - j = n ∧ v5 = .int .i64 (j : Int) ∧ (restB s k).dropWhile numC = (restB s j).dropWhile numC ∧ W = wr


/-- What the row with an item more is, behind the two appends. -/
def PushTold (W2 : World) (l : List It) (x : It) (v : Value) (w' : World) : Prop := ItsAt w' v (l ++ [x]) ∧ Below W2.heap.size W2 w' ∧ (∃ ao m c, v = .slice ao m c) ∧ ItsFar W2.heap.size w' v (l ++ [x])
/-- The three orders. -/
theorem push_one (W2 : World) {v : Value} {l : List It} (hI : ItsAt W2 v l) (hl : l.length ≤ 1000000) (d K N : Int) (key text : ByteArray) :
    ∃ v' w', (Builtin.append_ #[22, 22] 22 #[.slice (some ⟨W2.heap.size, 0, none⟩) 0 0, v]).run Tryd.prog ((W2.alloc (.cells #[] 46)).drew) = .ok v' w' ∧
      (∃ ao m c, v' = .slice ao m c) ∧ Below W2.heap.size W2 w' ∧ ∃ v2 w2, (Builtin.append_ #[22, 22] 22 #[v', .slice (some ⟨w'.heap.size, 0, none⟩) 1 1]).run Tryd.prog (w'.alloc (.cells #[.int .i64 d, .int .i64 K, .string key, .string text, .int .i64 N] 46)) = .ok v2 w2 ∧ PushTold W2 l ⟨d, K, key.data.toList, text.data.toList, N⟩ v2 w2 := by
  obtain ⟨v', w', h1, h2, h3, h4, h5, h6⟩ := app_one W2 (W := (W2.alloc (.cells #[] 46)).drew) (g := W2.heap.size) (l := l) ((Below.refl _ _).alloc (Nat.le_refl _) _).drew (rowE_new W2 _ (Nat.le_refl _)) hI hl
  refine ⟨v', w', h1, h4, h3, ?_⟩
  obtain ⟨v2, w2, k1, k2, k3, k4⟩ := app_two W2 (W := w'.alloc (.cells #[.int .i64 d, .int .i64 K, .string key, .string text, .int .i64 N] 46)) (gx := w'.heap.size) (l := l) (h3.alloc h3.size _) (World.ownsRow.alloc h2 _) d K N key text (heap_alloc_new w' _) hl
  exact ⟨v2, w2, k1, k2, k3, k4⟩
theorem push_two (W2 : World) {v : Value} {l : List It} (hI : ItsAt W2 v l) (hl : l.length ≤ 1000000) (d K N : Int) (key text : ByteArray) :
    ∃ v' w', (Builtin.append_ #[22, 22] 22 #[.slice (some ⟨W2.heap.size, 0, none⟩) 0 0, v]).run Tryd.prog (((W2.alloc (.cells #[] 46)).alloc (.cells #[.int .i64 d, .int .i64 K, .string key, .string text, .int .i64 N] 46)).drew) = .ok v' w' ∧
      (∃ ao m c, v' = .slice ao m c) ∧ Below W2.heap.size W2 w' ∧ ∃ v2 w2, (Builtin.append_ #[22, 22] 22 #[v', .slice (some ⟨W2.heap.size + 1, 0, none⟩) 1 1]).run Tryd.prog w' = .ok v2 w2 ∧ PushTold W2 l ⟨d, K, key.data.toList, text.data.toList, N⟩ v2 w2 := by
  have hb := (((Below.refl W2.heap.size W2).alloc (Nat.le_refl _) (.cells #[] 46)).alloc (by simp) (.cells #[.int .i64 d, .int .i64 K, .string key, .string text, .int .i64 N] 46)).drew
  obtain ⟨v', w', h1, h2, h3, h4, h5, h6⟩ := app_one W2 (g := W2.heap.size) (l := l) hb (World.ownsRow.alloc (rowE_new W2 _ (Nat.le_refl _)) _) hI hl
  refine ⟨v', w', h1, h4, h3, ?_⟩
  obtain ⟨v2, w2, k1, k2, k3, k4⟩ := app_two W2 (W := w') (gx := W2.heap.size + 1) (l := l) h3 h2 d K N key text ((h6 (W2.heap.size + 1) (two_lt1 W2 _ _) (Nat.succ_ne_self _)).trans (two_new1 W2 _ _)) hl
  exact ⟨v2, w2, k1, k2, k3, k4⟩
theorem push_three (W2 : World) {v : Value} {l : List It} (hI : ItsAt W2 v l) (hl : l.length ≤ 1000000) (d K N : Int) (key text : ByteArray) :
    ∃ v' w', (Builtin.append_ #[22, 22] 22 #[.slice (some ⟨W2.heap.size + 1, 0, none⟩) 0 0, v]).run Tryd.prog (((W2.alloc (.cells #[.int .i64 d, .int .i64 K, .string key, .string text, .int .i64 N] 46)).alloc (.cells #[] 46)).drew) = .ok v' w' ∧
      (∃ ao m c, v' = .slice ao m c) ∧ Below W2.heap.size W2 w' ∧ ∃ v2 w2, (Builtin.append_ #[22, 22] 22 #[v', .slice (some ⟨W2.heap.size, 0, none⟩) 1 1]).run Tryd.prog w' = .ok v2 w2 ∧ PushTold W2 l ⟨d, K, key.data.toList, text.data.toList, N⟩ v2 w2 := by
  have hb := (((Below.refl W2.heap.size W2).alloc (Nat.le_refl _) (.cells #[.int .i64 d, .int .i64 K, .string key, .string text, .int .i64 N] 46)).alloc (by simp) (.cells #[] 46)).drew
  have hr := rowE_new (W2.alloc (.cells #[.int .i64 d, .int .i64 K, .string key, .string text, .int .i64 N] 46)) W2.heap.size (by simp)
  rw [show (W2.alloc (.cells #[.int .i64 d, .int .i64 K, .string key, .string text, .int .i64 N] 46)).heap.size = W2.heap.size + 1 by simp] at hr
  obtain ⟨v', w', h1, h2, h3, h4, h5, h6⟩ := app_one W2 (g := W2.heap.size + 1) (l := l) hb hr hI hl
  refine ⟨v', w', h1, h4, h3, ?_⟩
  obtain ⟨v2, w2, k1, k2, k3, k4⟩ := app_two W2 (W := w') (gx := W2.heap.size) (l := l) h3 h2 d K N key text ((h6 W2.heap.size (two_lt2 W2 _ _) (Nat.succ_ne_self _).symm).trans (two_new2 W2 _ _)) hl
  exact ⟨v2, w2, k1, k2, k3, k4⟩
end Go.Proofs.YtmnigdcgdebgoaaDoor
