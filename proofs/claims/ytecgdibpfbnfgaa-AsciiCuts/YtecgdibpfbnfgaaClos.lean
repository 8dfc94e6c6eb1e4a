/-
  The closures of package ascii, and what calls them: contracts, the leaves first.
-/
import Derived.Test.YtecgdibpfbnfgaaRows
import Derived.WalkKit
import Derived.WalkSpells
import Derived.WalkLawsBesides
import Derived.Lib.Hide
namespace Go.Proofs.Ytecgdibpfbnfgaa
open Go.RowKit

/-- Is a byte in one of the spans? -/
def inSpans (L : List (Int × Int)) (c : Int) : Bool := L.any fun p => decide (p.1 ≤ c) && decide (c ≤ p.2)

/-- The spans lie in block r. -/
def SpansAt (w : World) (r : Nat) (L : List (Int × Int)) : Prop :=
  ∀ i, i < L.length → w.cell? ⟨r, i * 2, none⟩ = some (.int .u8 (L.getD i (0, 0)).1) ∧ w.cell? ⟨r, i * 2 + 1, none⟩ = some (.int .u8 (L.getD i (0, 0)).2)

theorem inSpans_snoc (L : List (Int × Int)) (c : Int) (k : Nat) (h : k < L.length) :
    inSpans (L.take (k + 1)) c = (inSpans (L.take k) c || (decide ((L.getD k (0, 0)).1 ≤ c) && decide (c ≤ (L.getD k (0, 0)).2))) := by
  unfold inSpans
  rw [List.take_succ_eq_append_getElem h, List.any_append]
  simp [List.getD_eq_getElem?_getD, List.getElem?_eq_getElem h]

theorem inSpans_hit (L : List (Int × Int)) (c : Int) (k : Nat) (h : k < L.length) (h1 : (L.getD k (0, 0)).1 ≤ c) (h2 : c ≤ (L.getD k (0, 0)).2) : inSpans L c = true := by
  unfold inSpans
  rw [List.any_eq_true]
  refine ⟨L[k], List.getElem_mem h, ?_⟩
  simp [List.getD_eq_getElem?_getD, List.getElem?_eq_getElem h] at h1 h2
  simp [h1, h2]

theorem ret_bool {a b : Bool} (h : a = b) : Ending.returned (.bool a) = .returned (.bool b) := by rw [h]

set_option maxHeartbeats 400000 in
theorem among1_any (c : Int) (b r : Nat) (L : List (Int × Int)) (w : World) (hc : w.cell? ⟨b, 0, none⟩ = some (.slice (some ⟨r, 0, none⟩) L.length L.length))
    (hL : SpansAt w r L) (hl : L.length ≤ 100) :
    Calls Try.prog 30 #[.int .u8 c, .pointer (some ⟨b, 0, none⟩)] w fun e w' => e = .returned (.bool (inSpans L c)) ∧ w = w' := by
  go_enter Try.func30, Try.ntmps30
  go_wp2
  go_loop [7] (fun i => ∃ k : Nat, k ≤ L.length ∧ i = .int .i64 k ∧ inSpans (L.take k) c = false) (fun i => L.length - (intOf i).toNat)
  case atStart => exact ⟨0, Nat.zero_le _, rfl, by simp [inSpans]⟩
  case round =>
    obtain ⟨k, hk, rfl, hno⟩ := hrel
    have Hno := Lib.hid hno
    clear hno
    by_cases hlt : k < L.length
    · obtain ⟨c1, c2⟩ := hL k hlt
      have hsn := Lib.hid (inSpans_snoc L c k hlt)
      have hit := Lib.hid (inSpans_hit L c k hlt)
      generalize hlo : (L.getD k (0, 0)).1 = lo at *
      generalize hhi : (L.getD k (0, 0)).2 = hi at *
      clear hlo hhi
      go_wp2
      · go_ret
        exact ⟨ret_bool (hit.out ‹_› ‹_›).symm, rfl⟩
      · have h2 : hi < c := by assumption
        go_round
        case rel => exact ⟨k + 1, by omega, by go_num, by rw [hsn.out, Hno.out]; simp; omega⟩
        case measure => simp [intOf]; omega
      · have h1 : ¬ lo ≤ c := by assumption
        go_round
        case rel => exact ⟨k + 1, by omega, by go_num, by rw [hsn.out, Hno.out]; simp; omega⟩
        case measure => simp [intOf]; omega
    · go_wp2
      go_ret
      have e : k = L.length := by omega
      subst e
      exact ⟨ret_bool (by rw [← Hno.out, List.take_length]), rfl⟩

/-- Cut$1: is it the byte? -/
theorem cut1_any (c d : Int) (b : Nat) (w : World) (hc : w.cell? ⟨b, 0, none⟩ = some (.int .u8 d)) :
    Calls Try.prog 29 #[.int .u8 c, .pointer (some ⟨b, 0, none⟩)] w fun e w' => e = .returned (.bool (c == d)) ∧ w = w' := by
  go_enter Try.func29, Try.ntmps29
  go_wp2
  go_ret
  exact ⟨rfl, rfl⟩

/-- all$1: not what the closure says. -/
theorem all1_any (c : Int) (b x : Nat) (p : Int → Bool) (w : World) (hc : w.cell? ⟨b, 0, none⟩ = some (.func (.func 30) #[] #[.pointer (some ⟨x, 0, none⟩)]))
    (hp : Hid (∀ c, Calls Try.prog 30 #[.int .u8 c, .pointer (some ⟨x, 0, none⟩)] w fun e w' => e = .returned (.bool (p c)) ∧ w = w')) :
    Calls Try.prog 31 #[.int .u8 c, .pointer (some ⟨b, 0, none⟩)] w fun e w' => e = .returned (.bool (!p c)) ∧ w = w' := by
  go_enter Try.func31, Try.ntmps31
  go_wp2_with fail
  refine (hp.out c).mono ?_
  rintro e w' ⟨rfl, rfl⟩
  go_wp2
  go_ret
  exact ⟨rfl, rfl⟩

/-- The place of the first byte that is asked for, or the length. -/
def firstAt (p : Int → Bool) : List UInt8 → Nat
  | [] => 0
  | c :: r => if p c.toNat then 0 else firstAt p r + 1

theorem firstAt_miss (p : Int → Bool) : ∀ (l : List UInt8) (k : Nat) (hk : k < l.length), firstAt p (l.take k) = k → p (l[k].toNat : Int) = false → firstAt p (l.take (k + 1)) = k + 1
  | [], k, hk, _, _ => by simp at hk
  | c :: r, 0, hk, _, h2 => by simp at h2; simp [firstAt, h2]
  | c :: r, k + 1, hk, h1, h2 => by
    simp only [List.take_succ_cons, firstAt] at h1 ⊢
    cases hc : p (c.toNat : Int)
    · simp only [hc, Bool.false_eq_true, if_false] at h1 ⊢
      rw [firstAt_miss p r k (by simpa using hk) (by omega) (by simpa using h2)]
    · simp [hc] at h1

theorem firstAt_hit (p : Int → Bool) : ∀ (l : List UInt8) (k : Nat) (hk : k < l.length), firstAt p (l.take k) = k → p (l[k].toNat : Int) = true → firstAt p l = k
  | [], k, hk, _, _ => by simp at hk
  | c :: r, 0, hk, _, h2 => by simp at h2; simp [firstAt, h2]
  | c :: r, k + 1, hk, h1, h2 => by
    simp only [List.take_succ_cons, firstAt] at h1 ⊢
    cases hc : p (c.toNat : Int)
    · simp only [hc, Bool.false_eq_true, if_false] at h1 ⊢
      rw [firstAt_hit p r k (by simpa using hk) (by omega) (by simpa using h2)]
    · simp [hc] at h1

theorem firstAt_le (p : Int → Bool) : ∀ (l : List UInt8), firstAt p l ≤ l.length
  | [] => by simp [firstAt]
  | c :: r => by
    have := firstAt_le p r
    unfold firstAt
    split <;> simp; omega

theorem bget (s : ByteArray) (k : Nat) (h : k < s.size) : s.data.toList[k]'(by simpa using h) = s[k] := by rw [Array.getElem_toList]; rfl

theorem ret_i64 {a b : Int} (h : a = b) : Ending.returned (.int .i64 a) = .returned (.int .i64 b) := by rw [h]

set_option maxHeartbeats 400000 in
/-- first: the place of the first byte of which the closure says yes. -/
theorem first_any (N : Nat) (cap : Value) (p : Int → Bool) (s : ByteArray) (w : World) (hs : s.size ≤ maxLen)
    (hN : ∀ args w, Sem.run Try.prog (callFunc N args) w = .ok (.enter N args) w)
    (hp : Hid (∀ c, Calls Try.prog N #[.int .u8 c, cap] w fun e w' => e = .returned (.bool (p c)) ∧ w = w')) :
    Calls Try.prog 28 #[.string s, .func (.func N) #[] #[cap]] w fun e w' => e = .returned (.int .i64 (firstAt p s.data.toList)) ∧ w = w' := by
  unfold maxLen at hs
  go_enter Try.func28, Try.ntmps28
  go_wp2
  go_loop [8] (fun i => ∃ k : Nat, k ≤ s.size ∧ i = .int .i64 k ∧ firstAt p (s.data.toList.take k) = k) (fun i => s.size - (intOf i).toNat)
  case atStart => exact ⟨0, Nat.zero_le _, rfl, by simp [firstAt]⟩
  case round =>
    obtain ⟨k, hk, rfl, hno⟩ := hrel
    have Hno := Lib.hid hno
    clear hno
    by_cases hlt : k < s.size
    · go_wp2_with fail
      refine (hp.out _).mono ?_
      rintro e w' ⟨rfl, rfl⟩
      have hg := Lib.hid (bget s k hlt)
      have hit := Lib.hid (firstAt_hit p s.data.toList k (by simpa using hlt) Hno.out)
      have miss := Lib.hid (firstAt_miss p s.data.toList k (by simpa using hlt) Hno.out)
      cases hb : p (s[k].toNat : Int)
      · go_wp2
        go_round
        case rel => exact ⟨k + 1, by omega, by go_num, miss.out (by rw [hg.out]; exact hb)⟩
        case measure => simp [intOf]; omega
      · go_wp2
        go_ret
        exact ⟨ret_i64 (by rw [hit.out (by rw [hg.out]; exact hb)]), rfl⟩
    · go_wp2
      go_ret
      have e : k = s.size := by omega
      subst e
      refine ⟨ret_i64 ?_, rfl⟩
      have h := Hno.out
      rw [List.take_of_length_le (by simp)] at h
      rw [h]

theorem call29 (args : Array Value) (w : World) : Sem.run Try.prog (callFunc 29 args) w = .ok (.enter 29 args) w := by go_simp
theorem call31 (args : Array Value) (w : World) : Sem.run Try.prog (callFunc 31 args) w = .ok (.enter 31 args) w := by go_simp

/-- among: the spans, boxed, and the closure over the box. -/
theorem among_any (w : World) (a : Option Addr) (n m : Nat) :
    Calls Try.prog 23 #[.slice a n m] w fun e w' => e = .returned (.func (.func 30) #[] #[.pointer (some ⟨w.heap.size, 0, none⟩)]) ∧ w' = w.alloc (.cells #[.slice a n m] 38) := by
  go_enter Try.func23, Try.ntmps23
  go_wp2
  go_ret
  exact ⟨rfl, rfl⟩

theorem firstAt_all (p : Int → Bool) : ∀ l : List UInt8, ((firstAt (fun c => !p c) l : Int) == (l.length : Int)) = l.all fun c => p (c.toNat : Int)
  | [] => by simp [firstAt]
  | c :: r => by
    have ih := firstAt_all p r
    have hl := firstAt_le (fun c => !p c) r
    cases hc : p (c.toNat : Int)
    · simp [firstAt, hc]; omega
    · simp only [firstAt, hc, List.all_cons, Bool.true_and, ← ih]
      rw [Bool.eq_iff_iff]
      simp

/-- Is every byte so? -/
def allB (p : Int → Bool) (s : ByteArray) : Bool := s.data.toList.all fun c => p (c.toNat : Int)

set_option maxHeartbeats 400000 in
/-- all: is every byte so? -/
theorem all_any (s : ByteArray) (x : Nat) (p : Int → Bool) (w : World) (hs : s.size ≤ maxLen) (_hx : x < w.heap.size)
    (hp : Hid (∀ w1 c, Below w.heap.size w w1 → Calls Try.prog 30 #[.int .u8 c, .pointer (some ⟨x, 0, none⟩)] w1 fun e w' => e = .returned (.bool (p c)) ∧ w1 = w')) :
    Calls Try.prog 24 #[.string s, .func (.func 30) #[] #[.pointer (some ⟨x, 0, none⟩)]] w fun e w' =>
      e = .returned (.bool (allB p s)) ∧ Below w.heap.size w w' := by
  have hfa := Lib.hid (firstAt_all p s.data.toList)
  have hn : s.data.toList.length = s.size := by simp
  have Hn := Lib.hid hn
  clear hn
  go_enter Try.func24, Try.ntmps24
  go_wp2_with fail
  refine (first_any 31 _ (fun c => !p c) s _ hs call31 (Lib.hid fun c => all1_any c _ x p _ (by go_simp) (Lib.hid fun c => hp.out _ c ((Below.refl _ _).alloc (Nat.le_refl _) _)))).mono ?_
  rintro e w' ⟨rfl, rfl⟩
  go_wp2
  go_ret
  refine ⟨ret_bool ?_, (Below.refl _ _).alloc (Nat.le_refl _) _⟩
  unfold allB
  rw [← hfa.out, Hn.out]

/-- The cells of spans. -/
def HasSpans (cs : Array Value) (L : List (Int × Int)) : Prop :=
  ∀ i, i < L.length → cs[i * 2]? = some (.int .u8 (L.getD i (0, 0)).1) ∧ cs[i * 2 + 1]? = some (.int .u8 (L.getD i (0, 0)).2)

/-- The closure over spans that were just laid: what it answers in any later world. -/
theorem spans_calls (L : List (Int × Int)) (cs : Array Value) (w : World) (hl : L.length ≤ 100) (hcs : HasSpans cs L) (n : Nat) (hn : n = L.length) (w1 : World) (c : Int)
    (hb : Below ((w.alloc (.cells cs 35)).alloc (.cells #[.slice (some ⟨w.heap.size, 0, none⟩) n n] 38)).heap.size ((w.alloc (.cells cs 35)).alloc (.cells #[.slice (some ⟨w.heap.size, 0, none⟩) n n] 38)) w1) :
    Calls Try.prog 30 #[.int .u8 c, .pointer (some ⟨w.heap.size + 1, 0, none⟩)] w1 fun e w' => e = .returned (.bool (inSpans L c)) ∧ w1 = w' := by
  subst hn
  refine among1_any c (w.heap.size + 1) w.heap.size L w1 ?_ ?_ hl
  · rw [hb.cell (by simp)]
    simp
  · intro i hi
    obtain ⟨h1, h2⟩ := hcs i hi
    refine ⟨?_, ?_⟩
    · rw [hb.cell (by simp; omega)]
      simpa using h1
    · rw [hb.cell (by simp; omega)]
      simpa using h2

/-- Spans are laid, a closure is made over them, and all is asked: from where the spans' row has been laid. -/
def plainL : List (Int × Int) := [(33, 58), (60, 126)]
def octL : List (Int × Int) := [(33, 33), (35, 43), (45, 58), (60, 91), (93, 126)]
def tokL : List (Int × Int) := [(65, 90), (97, 122), (48, 57), (33, 33), (35, 39), (42, 43), (45, 46), (94, 96), (124, 124), (126, 126)]
def blankL : List (Int × Int) := [(9, 9), (32, 32)]
def upL : List (Int × Int) := [(65, 90)]
def cellsOf (L : List (Int × Int)) : Array Value := (L.flatMap fun p => [.int .u8 p.1, .int .u8 p.2]).toArray

theorem has_cellsOf : ∀ L, HasSpans (cellsOf L) L
  | [] => fun i hi => by simp at hi
  | (a, b) :: r => fun i hi => by
    have ih := has_cellsOf r
    unfold cellsOf at *
    cases i with
    | zero => simp
    | succ i =>
      have := ih i (by simpa using hi)
      have e1 : (i + 1) * 2 = i * 2 + 2 := by omega
      simp only [List.flatMap_cons, e1, List.getD_cons_succ]
      simpa using this

set_option maxHeartbeats 400000 in
theorem plain_any (s : ByteArray) (w : World) (hs : s.size ≤ maxLen) :
    Calls Try.prog 17 #[.string s] w fun e w' =>
      e = .returned (.bool (allB (inSpans plainL) s)) ∧ Below w.heap.size w w' := by
  go_enter Try.func17, Try.ntmps17
  go_wp2_with fail
  refine (among_any _ _ _ _).mono ?_
  rintro e w' ⟨rfl, rfl⟩
  go_wp2_with fail
  refine (all_any s _ (inSpans plainL) _ hs (by simp) (Lib.hid fun w1 c hb => spans_calls plainL (cellsOf plainL) w (by decide) (has_cellsOf _) 2 rfl w1 c hb)).mono ?_
  rintro e w' ⟨rfl, hb⟩
  go_wp2
  go_ret
  exact ⟨rfl, ((((Below.refl _ _).alloc (Nat.le_refl _) _).alloc (by simp) _).trans (hb.mono (by simp; omega)))⟩

set_option maxHeartbeats 400000 in
theorem octets_any (s : ByteArray) (w : World) (hs : s.size ≤ maxLen) :
    Calls Try.prog 15 #[.string s] w fun e w' =>
      e = .returned (.bool (allB (inSpans octL) s)) ∧ Below w.heap.size w w' := by
  go_enter Try.func15, Try.ntmps15
  go_wp2_with fail
  refine (among_any _ _ _ _).mono ?_
  rintro e w' ⟨rfl, rfl⟩
  go_wp2_with fail
  refine (all_any s _ (inSpans octL) _ hs (by simp) (Lib.hid fun w1 c hb => spans_calls octL (cellsOf octL) w (by decide) (has_cellsOf _) 5 rfl w1 c hb)).mono ?_
  rintro e w' ⟨rfl, hb⟩
  go_wp2
  go_ret
  exact ⟨rfl, ((((Below.refl _ _).alloc (Nat.le_refl _) _).alloc (by simp) _).trans (hb.mono (by simp; omega)))⟩

/-- Has s a byte, and is each one of a token's? -/
def tokenB (s : ByteArray) : Bool := !s.toList.isEmpty && allB (inSpans tokL) s

set_option maxHeartbeats 400000 in
theorem token_any (s : ByteArray) (w : World) (hs : s.size ≤ maxLen) :
    Calls Try.prog 13 #[.string s] w fun e w' => e = .returned (.bool (tokenB s)) ∧ Below w.heap.size w w' := by
  have hno : s.toList.isEmpty = true → tokenB s = false := by intro h; simp [tokenB, h]
  have hyes : s.toList.isEmpty = false → tokenB s = allB (inSpans tokL) s := by intro h; simp [tokenB, h]
  have Hno := Lib.hid hno
  have Hyes := Lib.hid hyes
  clear hno hyes
  by_cases h : s.toList = []
  · have h1 : s.toList.isEmpty = true := by simp [h]
    go_enter Try.func13, Try.ntmps13
    go_wp2
    go_ret
    exact ⟨ret_bool (Hno.out h1).symm, Below.refl _ _⟩
  · have h1 : s.toList.isEmpty = false := by simp [h]
    go_enter Try.func13, Try.ntmps13
    go_wp2_with fail
    refine (among_any _ _ _ _).mono ?_
    rintro e w' ⟨rfl, rfl⟩
    go_wp2_with fail
    refine (all_any s _ (inSpans tokL) _ hs (by simp) (Lib.hid fun w1 c hb => spans_calls tokL (cellsOf tokL) w (by decide) (has_cellsOf _) 10 rfl w1 c hb)).mono ?_
    rintro e w' ⟨rfl, hb⟩
    go_wp2
    go_ret
    exact ⟨ret_bool (Hyes.out h1).symm, ((((Below.refl _ _).alloc (Nat.le_refl _) _).alloc (by simp) _).trans (hb.mono (by simp; omega)))⟩
end Go.Proofs.Ytecgdibpfbnfgaa
