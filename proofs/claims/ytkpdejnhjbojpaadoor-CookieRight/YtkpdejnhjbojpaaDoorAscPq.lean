/-
  The closure of package ascii over spans of bytes: contracts.
  Lower of package ascii: a contract.
  first of package ascii: a contract.
  all of package ascii: a contract.
  Plain of package ascii: a contract.
  Token of package ascii: a contract.
  Octets of package ascii: a contract.
-/
import Derived.Test.YtkpdejnhjbojpaaDoorCkMa
import Derived.Test.YtkpdejnhjbojpaaDoorBaseBytes
import Derived.Laws.IdiomStrings
namespace Go.Proofs.YtkpdejnhjbojpaaDoor
open Go.RowKit
set_option linter.unusedVariables false

/-- The spans lie in block r. -/
def SpansAt (w : World) (r : Nat) (L : List (Int × Int)) : Prop :=
  ∀ i, i < L.length → w.cell? ⟨r, i * 2, none⟩ = some (.int .u8 (L.getD i (0, 0)).1) ∧ w.cell? ⟨r, i * 2 + 1, none⟩ = some (.int .u8 (L.getD i (0, 0)).2)

set_option maxHeartbeats 400000 in
theorem among1_any (c : Int) (b r : Nat) (L : List (Int × Int)) (w : World) (hc : w.cell? ⟨b, 0, none⟩ = some (.slice (some ⟨r, 0, none⟩) L.length L.length))
    (hL : SpansAt w r L) (hl : L.length ≤ 100) :
    Calls Tryd.prog 78 #[.int .u8 c, .pointer (some ⟨b, 0, none⟩)] w fun e w' => e = .returned (.bool (inSpans L c)) ∧ w = w' := by
  go_enter Tryd.func78, Tryd.ntmps78
  go_wp2
  go_loop [7] (fun i => ∃ k : Nat, k ≤ L.length ∧ i = .int .i64 k ∧ inSpans (L.take k) c = false) (fun i => L.length - (intOf i).toNat)
  case atStart => exact ⟨0, Nat.zero_le _, rfl, by simp [inSpans]⟩
  case round =>
    obtain ⟨k, hk, rfl, hno⟩ := hrel
    have Hno := Lib.hid hno
    clear hno
    by_cases hlt : k < L.length
    · obtain ⟨c1, c2⟩ := hL k hlt
      have hsn := Lib.hid (inSpans_snoc L c k hlt)
      have hit := Lib.hid (inSpans_hit L c k hlt)
      generalize hlo : (L.getD k (0, 0)).1 = lo at *
      generalize hhi : (L.getD k (0, 0)).2 = hi at *
      clear hlo hhi
      go_wp2
      · go_ret
        exact ⟨ret_bool (hit.out ‹_› ‹_›).symm, rfl⟩
      · have h2 : hi < c := by assumption
        go_round
        case rel => exact ⟨k + 1, by omega, by go_num, by rw [hsn.out, Hno.out]; simp; omega⟩
        case measure => simp [intOf]; omega
      · have h1 : ¬ lo ≤ c := by assumption
        go_round
        case rel => exact ⟨k + 1, by omega, by go_num, by rw [hsn.out, Hno.out]; simp; omega⟩
        case measure => simp [intOf]; omega
    · go_wp2
      go_ret
      have e : k = L.length := by omega
      subst e
      exact ⟨ret_bool (by rw [← Hno.out, List.take_length]), rfl⟩

/-- among: the spans, boxed, and the closure over the box. -/
theorem among_any (w : World) (a : Option Addr) (n m : Nat) :
    Calls Tryd.prog 55 #[.slice a n m] w fun e w' => e = .returned (.func (.func 78) #[] #[.pointer (some ⟨w.heap.size, 0, none⟩)]) ∧ w' = w.alloc (.cells #[.slice a n m] 79) := by
  go_enter Tryd.func55, Tryd.ntmps55
  go_wp2
  go_ret
  exact ⟨rfl, rfl⟩

/-- The cells of spans. -/
def HasSpans (cs : Array Value) (L : List (Int × Int)) : Prop :=
  ∀ i, i < L.length → cs[i * 2]? = some (.int .u8 (L.getD i (0, 0)).1) ∧ cs[i * 2 + 1]? = some (.int .u8 (L.getD i (0, 0)).2)

/-- The closure over spans that were just laid: what it answers in any later world. -/
theorem spans_calls (L : List (Int × Int)) (cs : Array Value) (w : World) (hl : L.length ≤ 100) (hcs : HasSpans cs L) (n : Nat) (hn : n = L.length) (w1 : World) (c : Int)
    (hb : Below ((w.alloc (.cells cs 70)).alloc (.cells #[.slice (some ⟨w.heap.size, 0, none⟩) n n] 79)).heap.size ((w.alloc (.cells cs 70)).alloc (.cells #[.slice (some ⟨w.heap.size, 0, none⟩) n n] 79)) w1) :
    Calls Tryd.prog 78 #[.int .u8 c, .pointer (some ⟨w.heap.size + 1, 0, none⟩)] w1 fun e w' => e = .returned (.bool (inSpans L c)) ∧ w1 = w' := by
  subst hn
  refine among1_any c (w.heap.size + 1) w.heap.size L w1 ?_ ?_ hl
  · rw [hb.cell (by simp)]
    simp
  · intro i hi
    obtain ⟨h1, h2⟩ := hcs i hi
    refine ⟨?_, ?_⟩
    · rw [hb.cell (by simp; omega)]
      simpa using h1
    · rw [hb.cell (by simp; omega)]
      simpa using h2

def cellsOf (L : List (Int × Int)) : Array Value := (L.flatMap fun p => [.int .u8 p.1, .int .u8 p.2]).toArray

theorem has_cellsOf : ∀ L, HasSpans (cellsOf L) L
  | [] => fun i hi => by simp at hi
  | (a, b) :: r => fun i hi => by
    have ih := has_cellsOf r
    unfold cellsOf at *
    cases i with
    | zero => simp
    | succ i =>
      have := ih i (by simpa using hi)
      have e1 : (i + 1) * 2 = i * 2 + 2 := by omega
      simp only [List.flatMap_cons, e1, List.getD_cons_succ]
      simpa using this
end Go.Proofs.YtkpdejnhjbojpaaDoor
namespace Go.Proofs.YtkpdejnhjbojpaaDoor
open Go.RowKit
set_option linter.unusedVariables false

theorem BytesAt.of_owned {w : World} {base g n : Nat} (h : w.ownsRow base 5 1 (.slice (some ⟨g, 0, none⟩) n n) n (madeCells (Value.int .u8 0).cells (n * 1)).toList) : BytesAt w g (List.replicate n 0) := by
  refine ⟨fun j hj => ?_, fun j _ => h.frozenAt j⟩
  have hj' : j < n := by simpa using hj
  rw [h.cellAt j (by omega)]
  show (madeCells #[Value.int .u8 0] (n * 1)).toList[j]? = _
  rw [toList_madeCells_one]
  simp [hj']

set_option maxHeartbeats 1600000 in
theorem lower_any (s : ByteArray) (w : World) (hs : s.size ≤ 281474976710656) :
    Calls Tryd.prog 70 #[.string s] w fun e w' => e = .returned (.string (lowB s)) ∧ Below w.heap.size w w' := by
  have HC : Hid (∀ w1 c, Below ((w.alloc (.cells #[.int .u8 65, .int .u8 90] 70)).alloc (.cells #[.slice (some ⟨w.heap.size, 0, none⟩) 1 1] 79)).heap.size ((w.alloc (.cells #[.int .u8 65, .int .u8 90] 70)).alloc (.cells #[.slice (some ⟨w.heap.size, 0, none⟩) 1 1] 79)) w1 → Calls Tryd.prog 78 #[.int .u8 c, .pointer (some ⟨w.heap.size + 1, 0, none⟩)] w1 fun e w' => e = .returned (.bool (inSpans upL c)) ∧ w1 = w') :=
    Lib.hid fun w1 c hb => spans_calls upL (cellsOf upL) w (by decide) (has_cellsOf _) 1 rfl _ c hb
  have HB : Below w.heap.size w ((w.alloc (.cells #[.int .u8 65, .int .u8 90] 70)).alloc (.cells #[.slice (some ⟨w.heap.size, 0, none⟩) 1 1] 79)) := ((Below.refl _ _).alloc (Nat.le_refl _) _).alloc (by simp) _
  obtain ⟨i0, hi, hz0, hz1, hz2⟩ := info_parts Tryd.infoU8
  go_enter Tryd.func70, Tryd.ntmps70
  go_wp2_with fail
  refine (among_any _ _ _ _).mono ?_
  rintro e w' ⟨rfl, rfl⟩
  generalize ((w.alloc (.cells #[.int .u8 65, .int .u8 90] 70)).alloc (.cells #[.slice (some ⟨w.heap.size, 0, none⟩) 1 1] 79)) = W at HC HB ⊢
  go_wp2_with (at_make; refine wpList_make_full _ rfl _ _ 80 rfl W.heap.size 5 i0 (.int .u8 0) 1 Tryd.underlying80 hi hz0 hz1 .i64 .i64 s.size s.size s.size rfl rfl rfl rfl (by rw [hz2]; omega) (by unfold maxLen; omega) (Nat.le_refl _) ?_; intro w1 hown hgrow)
  have hb1 := BytesAt.of_owned hown
  have hB1 : Below W.heap.size W w1 := (Below.refl _ _).grown hgrow (Nat.le_refl _) (fun j hj => by cases hj)
  clear hown hgrow hi hz0 hz1 hz2
  go_loopw [14] (fun i wr => ∃ k : Nat, k ≤ s.size ∧ i = .int .i64 k ∧ BytesAt wr W.heap.size (mixed (s.data.toList.map lowC) (List.replicate s.size 0) k) ∧ Below W.heap.size W wr) (fun i _ => s.size - (intOf i).toNat)
  case atStart => exact ⟨0, Nat.zero_le _, rfl, by simpa [mixed] using hb1, hB1⟩
  case round =>
    obtain ⟨k, hk, rfl, hby, hbe⟩ := hrel
    clear hb1 hB1
    have hlen : (s.data.toList.map lowC).length = (List.replicate s.size (0 : UInt8)).length := by simp
    by_cases hlt : k < s.size
    · have hml : k < (mixed (s.data.toList.map lowC) (List.replicate s.size 0) k).length := by rw [mixed_len _ _ _ hlen (by simpa using hk)]; simpa using hlt
      have c0 := hby.1 k hml
      have f0 := hby.2 k hml
      have hg := Lib.hid (bget s k hlt)
      have hms := Lib.hid (mixed_set _ _ k hlen (by simpa using hlt))
      have Hlen := Lib.hid hlen
      have hst := Lib.hid (hby.set k hml s[k] _ rfl)
      clear hlen
      go_wp2_with fail
      refine (HC.out _ _ (hbe.setCell (Nat.le_refl _) _)).mono ?_
      rintro _ w' ⟨rfl, rfl⟩
      rw [upL_iff]
      have hst1 := hst.out
      by_cases hu : 65 ≤ s[k].toNat ∧ s[k].toNat ≤ 90
      · obtain ⟨hu1, hu2⟩ := hu
        have d1 : decide ((65 : Int) ≤ (s[k].toNat : Int)) = true := by simp; omega
        have d2 : decide ((s[k].toNat : Int) ≤ 90) = true := by simp; omega
        rw [d1, d2]
        have hv := Lib.hid (lowC_up s[k] hu1 hu2)
        have hst2 := Lib.hid (hst1.set k (by simpa using hml) (lowC s[k]) _ hv.out.symm)
        clear hst1 d1 d2
        go_wp2
        go_roundw
        case rel =>
          refine ⟨k + 1, by omega, by go_num, ?_, (hbe.setCell (Nat.le_refl _) _).setCell (Nat.le_refl _) _⟩
          have h := hst2.out
          rw [List.set_set] at h
          rw [← hms.out, List.getElem_map, hg.out]
          exact h
        case measure => simp [intOf]; omega
      · have hd : (decide ((65 : Int) ≤ (s[k].toNat : Int)) && decide ((s[k].toNat : Int) ≤ 90)) = false := by simp; omega
        rw [hd]
        have hv := Lib.hid (lowC_not s[k] hu)
        clear hst1 hd hu
        go_wp2
        go_roundw
        case rel =>
          refine ⟨k + 1, by omega, by go_num, ?_, (hbe.setCell (Nat.le_refl _) _)⟩
          have h := hst.out
          rw [← hms.out, List.getElem_map, hg.out, hv.out]
          exact h
        case measure => simp [intOf]; omega
    · have e : k = s.size := by omega
      subst e
      have hcv := BytesAt.back (l := s.data.toList.map lowC) (g := W.heap.size) (w := wr) (by
        have h := hby
        have e2 : s.size = (s.data.toList.map lowC).length := by simp
        rw [e2, mixed_all _ _ (by simp)] at h
        exact h) s.size s.size (by simp)
      clear hlen
      go_wp2
      go_ret
      exact ⟨rfl, HB.trans (hbe.mono HB.size)⟩
end Go.Proofs.YtkpdejnhjbojpaaDoor
namespace Go.Proofs.YtkpdejnhjbojpaaDoor
open Go.RowKit
set_option linter.unusedVariables false

set_option maxHeartbeats 400000 in
/-- first: the place of the first byte of which the closure says yes. -/
theorem first_any (N : Nat) (cap : Value) (p : Int → Bool) (s : ByteArray) (w : World) (hs : s.size ≤ maxLen)
    (hN : ∀ args w, Sem.run Tryd.prog (callFunc N args) w = .ok (.enter N args) w)
    (hp : Hid (∀ c, Calls Tryd.prog N #[.int .u8 c, cap] w fun e w' => e = .returned (.bool (p c)) ∧ w = w')) :
    Calls Tryd.prog 76 #[.string s, .func (.func N) #[] #[cap]] w fun e w' => e = .returned (.int .i64 (firstAt p s.data.toList)) ∧ w = w' := by
  unfold maxLen at hs
  go_enter Tryd.func76, Tryd.ntmps76
  go_wp2
  go_loop [8] (fun i => ∃ k : Nat, k ≤ s.size ∧ i = .int .i64 k ∧ firstAt p (s.data.toList.take k) = k) (fun i => s.size - (intOf i).toNat)
  case atStart => exact ⟨0, Nat.zero_le _, rfl, by simp [firstAt]⟩
  case round =>
    obtain ⟨k, hk, rfl, hno⟩ := hrel
    have Hno := Lib.hid hno
    clear hno
    by_cases hlt : k < s.size
    · go_wp2_with fail
      refine (hp.out _).mono ?_
      rintro e w' ⟨rfl, rfl⟩
      have hg := Lib.hid (bget s k hlt)
      have hit := Lib.hid (firstAt_hit p s.data.toList k (by simpa using hlt) Hno.out)
      have miss := Lib.hid (firstAt_miss p s.data.toList k (by simpa using hlt) Hno.out)
      cases hb : p (s[k].toNat : Int)
      · go_wp2
        go_round
        case rel => exact ⟨k + 1, by omega, by go_num, miss.out (by rw [hg.out]; exact hb)⟩
        case measure => simp [intOf]; omega
      · go_wp2
        go_ret
        exact ⟨ret_i64 (by rw [hit.out (by rw [hg.out]; exact hb)]), rfl⟩
    · go_wp2
      go_ret
      have e : k = s.size := by omega
      subst e
      refine ⟨ret_i64 ?_, rfl⟩
      have h := Hno.out
      rw [List.take_of_length_le (by simp)] at h
      rw [h]
end Go.Proofs.YtkpdejnhjbojpaaDoor
namespace Go.Proofs.YtkpdejnhjbojpaaDoor
open Go.RowKit
set_option linter.unusedVariables false

/-- all$1: not what the closure says. -/
theorem all1_any (c : Int) (b x : Nat) (p : Int → Bool) (w : World) (hc : w.cell? ⟨b, 0, none⟩ = some (.func (.func 78) #[] #[.pointer (some ⟨x, 0, none⟩)]))
    (hp : Hid (∀ c, Calls Tryd.prog 78 #[.int .u8 c, .pointer (some ⟨x, 0, none⟩)] w fun e w' => e = .returned (.bool (p c)) ∧ w = w')) :
    Calls Tryd.prog 77 #[.int .u8 c, .pointer (some ⟨b, 0, none⟩)] w fun e w' => e = .returned (.bool (!p c)) ∧ w = w' := by
  go_enter Tryd.func77, Tryd.ntmps77
  go_wp2_with fail
  refine (hp.out c).mono ?_
  rintro e w' ⟨rfl, rfl⟩
  go_wp2
  go_ret
  exact ⟨rfl, rfl⟩

theorem call31 (args : Array Value) (w : World) : Sem.run Tryd.prog (callFunc 77 args) w = .ok (.enter 77 args) w := by go_simp

set_option maxHeartbeats 400000 in
/-- all: is every byte so? -/
theorem all_any (s : ByteArray) (x : Nat) (p : Int → Bool) (w : World) (hs : s.size ≤ maxLen) (_hx : x < w.heap.size)
    (hp : Hid (∀ w1 c, Below w.heap.size w w1 → Calls Tryd.prog 78 #[.int .u8 c, .pointer (some ⟨x, 0, none⟩)] w1 fun e w' => e = .returned (.bool (p c)) ∧ w1 = w')) :
    Calls Tryd.prog 54 #[.string s, .func (.func 78) #[] #[.pointer (some ⟨x, 0, none⟩)]] w fun e w' =>
      e = .returned (.bool (allB p s)) ∧ Below w.heap.size w w' := by
  have hfa := Lib.hid (firstAt_all p s.data.toList)
  have hn : s.data.toList.length = s.size := by simp
  have Hn := Lib.hid hn
  clear hn
  go_enter Tryd.func54, Tryd.ntmps54
  go_wp2_with fail
  refine (first_any 77 _ (fun c => !p c) s _ hs call31 (Lib.hid fun c => all1_any c _ x p _ (by go_simp) (Lib.hid fun c => hp.out _ c ((Below.refl _ _).alloc (Nat.le_refl _) _)))).mono ?_
  rintro e w' ⟨rfl, rfl⟩
  go_wp2
  go_ret
  refine ⟨ret_bool ?_, (Below.refl _ _).alloc (Nat.le_refl _) _⟩
  unfold allB
  rw [← hfa.out, Hn.out]
end Go.Proofs.YtkpdejnhjbojpaaDoor
namespace Go.Proofs.YtkpdejnhjbojpaaDoor
open Go.RowKit
set_option linter.unusedVariables false

set_option maxHeartbeats 400000 in
theorem plain_any (s : ByteArray) (w : World) (hs : s.size ≤ maxLen) :
    Calls Tryd.prog 53 #[.string s] w fun e w' =>
      e = .returned (.bool (allB (inSpans plainL) s)) ∧ Below w.heap.size w w' := by
  go_enter Tryd.func53, Tryd.ntmps53
  go_wp2_with fail
  refine (among_any _ _ _ _).mono ?_
  rintro e w' ⟨rfl, rfl⟩
  go_wp2_with fail
  refine (all_any s _ (inSpans plainL) _ hs (by simp) (Lib.hid fun w1 c hb => spans_calls plainL (cellsOf plainL) w (by decide) (has_cellsOf _) 2 rfl w1 c hb)).mono ?_
  rintro e w' ⟨rfl, hb⟩
  go_wp2
  go_ret
  exact ⟨rfl, ((((Below.refl _ _).alloc (Nat.le_refl _) _).alloc (by simp) _).trans (hb.mono (by simp; omega)))⟩
end Go.Proofs.YtkpdejnhjbojpaaDoor
namespace Go.Proofs.YtkpdejnhjbojpaaDoor
open Go.RowKit
set_option linter.unusedVariables false

set_option maxHeartbeats 400000 in
theorem token_any (s : ByteArray) (w : World) (hs : s.size ≤ maxLen) :
    Calls Tryd.prog 28 #[.string s] w fun e w' => e = .returned (.bool (tokenB s)) ∧ Below w.heap.size w w' := by
  have hno : s.toList.isEmpty = true → tokenB s = false := by intro h; simp [tokenB, h]
  have hyes : s.toList.isEmpty = false → tokenB s = allB (inSpans tokL) s := by intro h; simp [tokenB, h]
  have Hno := Lib.hid hno
  have Hyes := Lib.hid hyes
  clear hno hyes
  by_cases h : s.toList = []
  · have h1 : s.toList.isEmpty = true := by simp [h]
    go_enter Tryd.func28, Tryd.ntmps28
    go_wp2
    go_ret
    exact ⟨ret_bool (Hno.out h1).symm, Below.refl _ _⟩
  · have h1 : s.toList.isEmpty = false := by simp [h]
    go_enter Tryd.func28, Tryd.ntmps28
    go_wp2_with fail
    refine (among_any _ _ _ _).mono ?_
    rintro e w' ⟨rfl, rfl⟩
    go_wp2_with fail
    refine (all_any s _ (inSpans tokL) _ hs (by simp) (Lib.hid fun w1 c hb => spans_calls tokL (cellsOf tokL) w (by decide) (has_cellsOf _) 10 rfl w1 c hb)).mono ?_
    rintro e w' ⟨rfl, hb⟩
    go_wp2
    go_ret
    exact ⟨ret_bool (Hyes.out h1).symm, ((((Below.refl _ _).alloc (Nat.le_refl _) _).alloc (by simp) _).trans (hb.mono (by simp; omega)))⟩
end Go.Proofs.YtkpdejnhjbojpaaDoor
namespace Go.Proofs.YtkpdejnhjbojpaaDoor
open Go.RowKit
set_option linter.unusedVariables false

set_option maxHeartbeats 400000 in
theorem octets_any (s : ByteArray) (w : World) (hs : s.size ≤ maxLen) :
    Calls Tryd.prog 29 #[.string s] w fun e w' =>
      e = .returned (.bool (allB (inSpans octL) s)) ∧ Below w.heap.size w w' := by
  go_enter Tryd.func29, Tryd.ntmps29
  go_wp2_with fail
  refine (among_any _ _ _ _).mono ?_
  rintro e w' ⟨rfl, rfl⟩
  go_wp2_with fail
  refine (all_any s _ (inSpans octL) _ hs (by simp) (Lib.hid fun w1 c hb => spans_calls octL (cellsOf octL) w (by decide) (has_cellsOf _) 5 rfl w1 c hb)).mono ?_
  rintro e w' ⟨rfl, hb⟩
  go_wp2
  go_ret
  exact ⟨rfl, ((((Below.refl _ _).alloc (Nat.le_refl _) _).alloc (by simp) _).trans (hb.mono (by simp; omega)))⟩
end Go.Proofs.YtkpdejnhjbojpaaDoor
