/-
  The statements' own News and Olds: rows of items copied.
  The statements' own News.
  The document's own Same: are two rows the same?
  The statements' own alive: true.
  Values as rows of items (json): what follows of what is parsed and printed: plain facts.
  What the walks of stage 8's statements use, in one place.
-/
import Derived.Test.YtmnigdcgdebgoaaDoorJsE
import Derived.Test.YtmnigdcgdebgoaaDoorMathN
import Derived.Test.YtmnigdcgdebgoaaDoorPlainM
import Derived.Test.YtmnigdcgdebgoaaDoorQuoM
import Derived.Laws.StructEq
namespace Go.Proofs.YtmnigdcgdebgoaaDoor
open Go.RowKit
set_option linter.unusedVariables false

theorem Tryd.infoItR : (Tryd.prog.info? 46).map (fun i => (i.zero, i.size, i.bytes)) = some (some (.agg #[.int .i64 0, .int .i64 0, .string ByteArray.empty, .string ByteArray.empty, .int .i64 0]), 5, 56) := by kernel_rfl

theorem push_gen (T E : TypeId) (hT : Tryd.prog.underlying T = some (.slice E)) (hE : (Tryd.prog.info? E).map (fun i => (i.zero, i.size, i.bytes)) = some (some (.agg #[.int .i64 0, .int .i64 0, .string ByteArray.empty, .string ByteArray.empty, .int .i64 0]), 5, 56))
    {w : World} {base : Nat} {v : Value} {l : List It} (h : w.ownsRow base E 5 v l.length (itsV l)) (hbase : base ≤ w.heap.size) (hl : l.length ≤ 1000000) (d k n : Int) (key text : ByteArray) :
    ∃ v' w', (Builtin.append_ #[T, T] T #[v, .slice (some ⟨w.heap.size, 0, none⟩) 1 1]).run Tryd.prog (w.alloc (.cells #[.int .i64 d, .int .i64 k, .string key, .string text, .int .i64 n] E)) = .ok v' w' ∧
      w'.ownsRow base E 5 v' (l ++ [(⟨d, k, key.data.toList, text.data.toList, n⟩ : It)]).length (itsV (l ++ [⟨d, k, key.data.toList, text.data.toList, n⟩])) ∧ Below base w w' := by
  obtain ⟨i0, hi, hz0, hz1, hz2⟩ := info_parts hE
  have hb1 := (Below.refl w.heap.size w).alloc (Nat.le_refl _) (.cells #[.int .i64 d, .int .i64 k, .string key, .string text, .int .i64 n] E)
  obtain ⟨v', w', hr, hown, hg, _, hat⟩ := run_append_own_at (P := Tryd.prog) (w.alloc (.cells #[.int .i64 d, .int .i64 k, .string key, .string text, .int .i64 n] E)) base T T E i0 _ 5 56 hT hi hz0 hz1 hz2 rfl (by decide) v l.length (itsV l) (h.alloc _) ⟨w.heap.size, 0, none⟩ 1 1 [.int .i64 d, .int .i64 k, .string key, .string text, .int .i64 n] (by rfl) (by
      intro j u hj
      have e2 : (⟨w.heap.size, 0, none⟩ : Addr).add j = ⟨w.heap.size, j, none⟩ := by cases j <;> simp [Addr.add]
      have e := cell_of_row (w.alloc (.cells #[.int .i64 d, .int .i64 k, .string key, .string text, .int .i64 n] E)) w.heap.size j #[.int .i64 d, .int .i64 k, .string key, .string text, .int .i64 n] E (0, 0) (heap_alloc_new w _)
      rw [e2, e]
      simpa using hj) (by
      intro u hu
      simp only [List.mem_cons, List.not_mem_nil, or_false] at hu
      rcases hu with rfl | rfl | rfl | rfl | rfl <;> rfl) (by unfold maxLen; omega) (by omega) (by simp; omega)
  refine ⟨v', w', hr, ?_, ?_⟩
  · rw [List.length_append, itsV_app]
    have : itsV [(⟨d, k, key.data.toList, text.data.toList, n⟩ : It)] = [.int .i64 d, .int .i64 k, .string key, .string text, .int .i64 n] := by
      show itV _ ++ [] = _
      rw [List.append_nil, itV_mk]
    rw [this]
    exact hown
  · exact (hb1.mono hbase).grown hg (by simp; omega) (fun k hk => (World.ownsRow.lt h k hk).1)

/-- What the copying holds. -/
def CopyAt (E : TypeId) (l : List It) (w : World) (n : Nat) (v3 v8 : Value) (wr : World) : Prop :=
  ∃ i : Nat, v8 = .int .i64 (i : Int) ∧ i + n = l.length ∧ wr.ownsRow w.heap.size E 5 v3 (l.take i).length (itsV (l.take i)) ∧ Below w.heap.size w wr

set_option maxRecDepth 100000 in
set_option maxHeartbeats 1600000 in
theorem olds_some (l : List It) (ad : Addr) (cap : Nat) (w : World) (hc : ∀ j u, (itsV l)[j]? = some u → w.cell? (ad.add j) = some u) (hlz : l.length ≤ 100000) :
    Calls Tryd.prog 17 #[.slice (some ad) l.length cap] w fun e w' => ∃ v, e = .returned v ∧ ItsAt w' v l ∧ Below w.heap.size w w' := by
  obtain ⟨n, hn⟩ : ∃ n, l.length = n := ⟨_, rfl⟩
  have hnz : n ≤ 100000 := by rw [← hn]; exact hlz
  rw [hn]
  have HST : Hid (CopyAt 46 l w n (.slice none 0 0) (.int .i64 0) w) := ⟨0, rfl, by omega, World.ownsRow_nil w _ _ 5, Below.refl _ _⟩
  have HC := Lib.hid hc
  have HN := Lib.hid hn
  clear hc hn hlz
  go_enter Tryd.func17, Tryd.ntmps17
  go_wp2
  go_loopg [3, 8] n (fun n v3 v8 wr => CopyAt 46 l w n v3 v8 wr)
  case atStart => exact HST.out
  case round =>
    obtain ⟨i, rfl, hin, hrow, hbe⟩ := hrel
    rw [HN.out] at hin
    clear HST
    by_cases hi : i < n
    · have hi' : i < l.length := by rw [HN.out]; exact hi
      obtain ⟨d, K, key, text, N, hx⟩ : ∃ (d K : Int) (key text : ByteArray) (N : Int), l[i] = ⟨d, K, key.data.toList, text.data.toList, N⟩ :=
        ⟨l[i].depth, l[i].kind, bytesOf l[i].key, bytesOf l[i].text, l[i].n, by rw [list_bytesOf, list_bytesOf]⟩
      have hcw : ∀ j u, (itsV l)[j]? = some u → wr.cell? (ad.add j) = some u := fun j u hj => by
        have h4 := HC.out j u hj
        rw [hbe.cell (World.block_lt_of_cell? w _ h4)]
        exact h4
      have hcl := its_cells hcw i hi' key text (by rw [hx, bytesOf_list]) (by rw [hx, bytesOf_list])
      rw [hx] at hcl
      obtain ⟨q0, q1, q2, q3, q4⟩ := hcl
      have q0 : wr.cell? (ad.add (i * 5)) = some (.int .i64 d) := q0
      have hba := (Below.refl wr.heap.size wr).alloc (Nat.le_refl _) (.cells #[.int .i64 d, .int .i64 K, .string key, .string text, .int .i64 N] 41)
      obtain ⟨v', w3, hrn, hown3, hb3⟩ := push_gen 22 46 Tryd.underlying22 Tryd.infoItR (hrow.alloc (.cells #[.int .i64 d, .int .i64 K, .string key, .string text, .int .i64 N] 41)) (by have := hbe.size; simp; omega) (by rw [List.length_take]; omega) d K N key text
      rw [show (wr.alloc (.cells #[.int .i64 d, .int .i64 K, .string key, .string text, .int .i64 N] 41)).heap.size = wr.heap.size + 1 by simp] at hrn
      have htk : l.take i ++ [⟨d, K, key.data.toList, text.data.toList, N⟩] = l.take (i + 1) := by
        rw [List.take_succ_eq_append_getElem hi', hx]
      rw [htk] at hown3
      have HRN := Lib.hid hrn
      have HO3 := Lib.hid hown3
      have HB3 := Lib.hid ((hbe.trans (hba.mono hbe.size)).trans hb3)
      clear hrn hown3 hb3 hba hcw htk hx hrow hbe
      go_wp2_with (first | (at_builtin; refine wpList_append_run (by rfl) _ _ 22 (by rfl) (by rfl) (by rfl) HRN.out ?_))
      go_roundg (gk - 1)
      case measure => omega
      case rel => exact ⟨i + 1, by go_num, by rw [HN.out]; omega, HO3.out, HB3.out⟩
    · have e : l.take i = l := List.take_of_length_le (by rw [HN.out]; omega)
      rw [e] at hrow
      have HR := Lib.hid hrow
      clear hrow e
      go_wp2
      go_ret
      exact ⟨_, rfl, row_items HR.out, hbe⟩

set_option maxRecDepth 100000 in
theorem olds_none (w : World) : Calls Tryd.prog 17 #[.slice none 0 0] w fun e w' => ∃ v, e = .returned v ∧ ItsAt w' v [] ∧ Below w.heap.size w w' := by
  have HST : Hid (SameW w 0 (.int .i64 0) w) := ⟨rfl, rfl⟩
  go_enter Tryd.func17, Tryd.ntmps17
  go_wp2
  go_loopg [3, 8] 0 (fun n v3 v8 wr => v3 = .slice none 0 0 ∧ SameW w n v8 wr)
  case atStart => exact ⟨rfl, HST.out⟩
  case round =>
    obtain ⟨rfl, rfl, rfl⟩ := hrel
    clear HST
    go_wp2
    go_ret
    exact ⟨_, rfl, ItsAt.nil _, Below.refl _ _⟩

theorem olds_any (v : Value) (l : List It) (w : World) (h : ItsAt w v l) (hlz : l.length ≤ 100000) : Calls Tryd.prog 17 #[v] w fun e w' => ∃ v, e = .returned v ∧ ItsAt w' v l ∧ Below w.heap.size w w' := by
  rcases h with ⟨rfl, rfl⟩ | ⟨ad, cap, rfl, h1, h2⟩
  · exact olds_none w
  · exact olds_some l ad cap w h2 hlz
end Go.Proofs.YtmnigdcgdebgoaaDoor
namespace Go.Proofs.YtmnigdcgdebgoaaDoor
open Go.RowKit
set_option linter.unusedVariables false


set_option maxRecDepth 100000 in
set_option maxHeartbeats 1600000 in
theorem news_some (l : List It) (ad : Addr) (cap : Nat) (w : World) (hc : ∀ j u, (itsV l)[j]? = some u → w.cell? (ad.add j) = some u) (hlz : l.length ≤ 100000) :
    Calls Tryd.prog 13 #[.slice (some ad) l.length cap] w fun e w' => ∃ v, e = .returned v ∧ ItsAt w' v l ∧ Below w.heap.size w w' := by
  obtain ⟨n, hn⟩ : ∃ n, l.length = n := ⟨_, rfl⟩
  have hnz : n ≤ 100000 := by rw [← hn]; exact hlz
  rw [hn]
  have HST : Hid (CopyAt 41 l w n (.slice none 0 0) (.int .i64 0) w) := ⟨0, rfl, by omega, World.ownsRow_nil w _ _ 5, Below.refl _ _⟩
  have HC := Lib.hid hc
  have HN := Lib.hid hn
  clear hc hn hlz
  go_enter Tryd.func13, Tryd.ntmps13
  go_wp2
  go_loopg [3, 8] n (fun n v3 v8 wr => CopyAt 41 l w n v3 v8 wr)
  case atStart => exact HST.out
  case round =>
    obtain ⟨i, rfl, hin, hrow, hbe⟩ := hrel
    rw [HN.out] at hin
    clear HST
    by_cases hi : i < n
    · have hi' : i < l.length := by rw [HN.out]; exact hi
      obtain ⟨d, K, key, text, N, hx⟩ : ∃ (d K : Int) (key text : ByteArray) (N : Int), l[i] = ⟨d, K, key.data.toList, text.data.toList, N⟩ :=
        ⟨l[i].depth, l[i].kind, bytesOf l[i].key, bytesOf l[i].text, l[i].n, by rw [list_bytesOf, list_bytesOf]⟩
      have hcw : ∀ j u, (itsV l)[j]? = some u → wr.cell? (ad.add j) = some u := fun j u hj => by
        have h4 := HC.out j u hj
        rw [hbe.cell (World.block_lt_of_cell? w _ h4)]
        exact h4
      have hcl := its_cells hcw i hi' key text (by rw [hx, bytesOf_list]) (by rw [hx, bytesOf_list])
      rw [hx] at hcl
      obtain ⟨q0, q1, q2, q3, q4⟩ := hcl
      have q0 : wr.cell? (ad.add (i * 5)) = some (.int .i64 d) := q0
      have hba := (Below.refl wr.heap.size wr).alloc (Nat.le_refl _) (.cells #[.int .i64 d, .int .i64 K, .string key, .string text, .int .i64 N] 46)
      obtain ⟨v', w3, hrn, hown3, hb3⟩ := push_gen 25 41 Tryd.underlying25 Tryd.infoItP (hrow.alloc (.cells #[.int .i64 d, .int .i64 K, .string key, .string text, .int .i64 N] 46)) (by have := hbe.size; simp; omega) (by rw [List.length_take]; omega) d K N key text
      rw [show (wr.alloc (.cells #[.int .i64 d, .int .i64 K, .string key, .string text, .int .i64 N] 46)).heap.size = wr.heap.size + 1 by simp] at hrn
      have htk : l.take i ++ [⟨d, K, key.data.toList, text.data.toList, N⟩] = l.take (i + 1) := by
        rw [List.take_succ_eq_append_getElem hi', hx]
      rw [htk] at hown3
      have HRN := Lib.hid hrn
      have HO3 := Lib.hid hown3
      have HB3 := Lib.hid ((hbe.trans (hba.mono hbe.size)).trans hb3)
      clear hrn hown3 hb3 hba hcw htk hx hrow hbe
      go_wp2_with (first | (at_builtin; refine wpList_append_run (by rfl) _ _ 25 (by rfl) (by rfl) (by rfl) HRN.out ?_))
      go_roundg (gk - 1)
      case measure => omega
      case rel => exact ⟨i + 1, by go_num, by rw [HN.out]; omega, HO3.out, HB3.out⟩
    · have e : l.take i = l := List.take_of_length_le (by rw [HN.out]; omega)
      rw [e] at hrow
      have HR := Lib.hid hrow
      clear hrow e
      go_wp2
      go_ret
      exact ⟨_, rfl, row_items HR.out, hbe⟩

set_option maxRecDepth 100000 in
theorem news_none (w : World) : Calls Tryd.prog 13 #[.slice none 0 0] w fun e w' => ∃ v, e = .returned v ∧ ItsAt w' v [] ∧ Below w.heap.size w w' := by
  have HST : Hid (SameW w 0 (.int .i64 0) w) := ⟨rfl, rfl⟩
  go_enter Tryd.func13, Tryd.ntmps13
  go_wp2
  go_loopg [3, 8] 0 (fun n v3 v8 wr => v3 = .slice none 0 0 ∧ SameW w n v8 wr)
  case atStart => exact ⟨rfl, HST.out⟩
  case round =>
    obtain ⟨rfl, rfl, rfl⟩ := hrel
    clear HST
    go_wp2
    go_ret
    exact ⟨_, rfl, ItsAt.nil _, Below.refl _ _⟩

theorem news_any (v : Value) (l : List It) (w : World) (h : ItsAt w v l) (hlz : l.length ≤ 100000) : Calls Tryd.prog 13 #[v] w fun e w' => ∃ v, e = .returned v ∧ ItsAt w' v l ∧ Below w.heap.size w w' := by
  rcases h with ⟨rfl, rfl⟩ | ⟨ad, cap, rfl, h1, h2⟩
  · exact news_none w
  · exact news_some l ad cap w h2 hlz
end Go.Proofs.YtmnigdcgdebgoaaDoor
namespace Go.Proofs.YtmnigdcgdebgoaaDoor
open Go.RowKit
set_option linter.unusedVariables false

/-- Two items are the same, cell by cell. -/
def sameB (d K N d2 K2 N2 : Int) (key text key2 text2 : ByteArray) : Bool := (d == d2) && ((K == K2) && ((key.toList == key2.toList) && ((text.toList == text2.toList) && (N == N2))))
theorem sameB_iff (d K N d2 K2 N2 : Int) (key text key2 text2 : ByteArray) : sameB d K N d2 K2 N2 key text key2 text2 = decide ((⟨d, K, key.data.toList, text.data.toList, N⟩ : It) = ⟨d2, K2, key2.data.toList, text2.data.toList, N2⟩) := by
  unfold sameB
  rw [ByteArray.toList_eq, ByteArray.toList_eq, ByteArray.toList_eq, ByteArray.toList_eq, Bool.eq_iff_iff, decide_eq_true_eq, It.mk.injEq]
  simp

set_option maxRecDepth 100000 in
theorem eq_itemR (d K N d2 K2 N2 : Int) (key text key2 text2 : ByteArray) (w : World) : (Op.equalIn 10000 46 (.agg #[.int .i64 d, .int .i64 K, .string key, .string text, .int .i64 N]) (.agg #[.int .i64 d2, .int .i64 K2, .string key2, .string text2, .int .i64 N2])).run Tryd.prog w = .ok (sameB d K N d2 K2 N2 key text key2 text2) w := by
  have u3 := Tryd.underlying3
  have a3 := Tryd.isAgg3
  have z3 := Tryd.sizeOf3
  have u9 := Tryd.underlying9
  have a9 := Tryd.isAgg9
  have z9 := Tryd.sizeOf9
  have hS : Tryd.prog.underlying 46 = some (.struct (Tryd.prog.fieldsOf 46)) := by kernel_rfl
  have hp : Tryd.prog.stoodInHeld 46 = false := by kernel_rfl
  rw [show (10000 : Nat) = 9999 + 1 from rfl, run_equalIn_agg w 9999 46 _ _ hS hp]
  simp only [Program.fieldsOf, Tryd.underlying46]
  clear hS hp
  unfold sameB
  go_simp
  cases h1 : (d == d2) <;> cases h2 : (K == K2) <;> cases h3 : (key.toList == key2.toList) <;> cases h4 : (text.toList == text2.toList) <;> cases h5 : (N == N2) <;> simp_all
set_option maxRecDepth 100000 in
theorem eq_itemP (d K N d2 K2 N2 : Int) (key text key2 text2 : ByteArray) (w : World) : (Op.equalIn 10000 41 (.agg #[.int .i64 d, .int .i64 K, .string key, .string text, .int .i64 N]) (.agg #[.int .i64 d2, .int .i64 K2, .string key2, .string text2, .int .i64 N2])).run Tryd.prog w = .ok (sameB d K N d2 K2 N2 key text key2 text2) w := by
  have u3 := Tryd.underlying3
  have a3 := Tryd.isAgg3
  have z3 := Tryd.sizeOf3
  have u9 := Tryd.underlying9
  have a9 := Tryd.isAgg9
  have z9 := Tryd.sizeOf9
  have hS : Tryd.prog.underlying 41 = some (.struct (Tryd.prog.fieldsOf 41)) := by kernel_rfl
  have hp : Tryd.prog.stoodInHeld 41 = false := by kernel_rfl
  rw [show (10000 : Nat) = 9999 + 1 from rfl, run_equalIn_agg w 9999 41 _ _ hS hp]
  simp only [Program.fieldsOf, Tryd.underlying41]
  clear hS hp
  unfold sameB
  go_simp
  cases h1 : (d == d2) <;> cases h2 : (K == K2) <;> cases h3 : (key.toList == key2.toList) <;> cases h4 : (text.toList == text2.toList) <;> cases h5 : (N == N2) <;> simp_all
theorem neq_itemR (d K N d2 K2 N2 : Int) (key text key2 text2 : ByteArray) (b : Bool) (hb : sameB d K N d2 K2 N2 key text key2 text2 = b) (w : World) : (binOp .neq 46 (.agg #[.int .i64 d, .int .i64 K, .string key, .string text, .int .i64 N]) (.agg #[.int .i64 d2, .int .i64 K2, .string key2, .string text2, .int .i64 N2])).run Tryd.prog w = .ok (.bool (!b)) w := by
  rw [run_neq_struct, eq_itemR, hb]
  rfl
theorem eql_itemP (d K N d2 K2 N2 : Int) (key text key2 text2 : ByteArray) (b : Bool) (hb : sameB d K N d2 K2 N2 key text key2 text2 = b) (w : World) : (binOp .eql 41 (.agg #[.int .i64 d, .int .i64 K, .string key, .string text, .int .i64 N]) (.agg #[.int .i64 d2, .int .i64 K2, .string key2, .string text2, .int .i64 N2])).run Tryd.prog w = .ok (.bool b) w := by
  rw [run_eql_struct, eq_itemP, hb]
  rfl
theorem guardR : Tryd.prog.eqGuardType Tryd.prog.depth 46 = false := by kernel_rfl
theorem guardP : Tryd.prog.eqGuardType Tryd.prog.depth 41 = false := by kernel_rfl

def SameRAt (a b : List It) (w : World) (n : Nat) (v5 : Value) (wr : World) : Prop :=
  ∃ i : Nat, v5 = .int .i64 (i : Int) ∧ i + n = a.length ∧ (a.take i = b.take i) ∧ Below w.heap.size w wr

set_option maxRecDepth 100000 in
set_option maxHeartbeats 1600000 in
theorem same_some (a b : List It) (ad bd : Addr) (ca cb : Nat) (w : World) (ha : ∀ j u, (itsV a)[j]? = some u → w.cell? (ad.add j) = some u) (hb : ∀ j u, (itsV b)[j]? = some u → w.cell? (bd.add j) = some u) (hl : a.length = b.length) (hz : a.length ≤ 100000) (R : Bool) (hR : decide (a = b) = R) :
    Calls Tryd.prog 16 #[.slice (some ad) a.length ca, .slice (some bd) b.length cb] w fun e w' => e = .returned (.bool R) ∧ Below w.heap.size w w' := by
  obtain ⟨n, hn⟩ : ∃ n, a.length = n := ⟨_, rfl⟩
  have hnz : n ≤ 100000 := by rw [← hn]; exact hz
  have hnb : b.length = n := by rw [← hl]; exact hn
  rw [hnb, hn]
  have HST : Hid (SameRAt a b w n (.int .i64 0) w) := ⟨0, rfl, by omega, rfl, Below.refl _ _⟩
  have HA := Lib.hid ha
  have HB := Lib.hid hb
  have HN := Lib.hid hn
  have HNB := Lib.hid hnb
  have HR := Lib.hid hR
  clear ha hb hn hnb hl hz hR
  go_enter Tryd.func16, Tryd.ntmps16
  go_wp2
  go_loopg [5] n (fun n v5 wr => SameRAt a b w n v5 wr)
  case atStart => exact HST.out
  case round =>
    obtain ⟨i, rfl, hin, htk, hbe⟩ := hrel
    rw [HN.out] at hin
    clear HST
    by_cases hi : i < n
    · have hia : i < a.length := by rw [HN.out]; exact hi
      have hib : i < b.length := by rw [HNB.out]; exact hi
      obtain ⟨d, K, key, text, N, hx⟩ : ∃ (d K : Int) (key text : ByteArray) (N : Int), a[i] = ⟨d, K, key.data.toList, text.data.toList, N⟩ :=
        ⟨a[i].depth, a[i].kind, bytesOf a[i].key, bytesOf a[i].text, a[i].n, by rw [list_bytesOf, list_bytesOf]⟩
      obtain ⟨d2, K2, key2, text2, N2, hx2⟩ : ∃ (d K : Int) (key text : ByteArray) (N : Int), b[i] = ⟨d, K, key.data.toList, text.data.toList, N⟩ :=
        ⟨b[i].depth, b[i].kind, bytesOf b[i].key, bytesOf b[i].text, b[i].n, by rw [list_bytesOf, list_bytesOf]⟩
      have hcw : ∀ j u, (itsV a)[j]? = some u → wr.cell? (ad.add j) = some u := fun j u hj => by
        have h4 := HA.out j u hj
        rw [hbe.cell (World.block_lt_of_cell? w _ h4)]
        exact h4
      have hcw2 : ∀ j u, (itsV b)[j]? = some u → wr.cell? (bd.add j) = some u := fun j u hj => by
        have h4 := HB.out j u hj
        rw [hbe.cell (World.block_lt_of_cell? w _ h4)]
        exact h4
      have hcl := its_cells hcw i hia key text (by rw [hx, bytesOf_list]) (by rw [hx, bytesOf_list])
      have hcl2 := its_cells hcw2 i hib key2 text2 (by rw [hx2, bytesOf_list]) (by rw [hx2, bytesOf_list])
      rw [hx] at hcl
      rw [hx2] at hcl2
      obtain ⟨q0, q1, q2, q3, q4⟩ := hcl
      obtain ⟨r0, r1, r2, r3, r4⟩ := hcl2
      have q0 : wr.cell? (ad.add (i * 5)) = some (.int .i64 d) := q0
      have r0 : wr.cell? (bd.add (i * 5)) = some (.int .i64 d2) := r0
      clear hcw hcw2
      obtain ⟨sb, hsb⟩ : ∃ sb, sameB d K N d2 K2 N2 key text key2 text2 = sb := ⟨_, rfl⟩
      have hne := neq_itemR d K N d2 K2 N2 key text key2 text2 sb hsb
      have hgd := guardR
      rw [sameB_iff, ← hx, ← hx2] at hsb
      have HSB := Lib.hid hsb
      have HTK := Lib.hid htk
      clear hsb htk
      cases sb with
      | true =>
        have htk2 : a.take (i + 1) = b.take (i + 1) := by
          rw [List.take_succ_eq_append_getElem hia, List.take_succ_eq_append_getElem hib, HTK.out]
          congr 2
          simpa using HSB.out
        have HTK2 := Lib.hid htk2
        clear htk2 hx hx2
        go_wp2_with fail
        go_quiet (fail)
        obtain ⟨w4, hw4⟩ : ∃ w4, wr.drewN nq = w4 := ⟨_, rfl⟩
        rw [hw4]
        have hb4 : Below wr.heap.size wr w4 := by rw [← hw4]; exact ⟨rfl, rfl, rfl, Nat.le_refl _, fun _ _ => rfl⟩
        have HBE := Lib.hid (chain hbe hb4)
        clear hw4 hb4 hbe hne hgd q0 q1 q2 q3 q4 r0 r1 r2 r3 r4
        go_wp2
        go_roundg (gk - 1)
        case measure => omega
        case rel => exact ⟨i + 1, by go_num, by rw [HN.out]; omega, HTK2.out, HBE.out⟩
      | false =>
        have HR2 : Hid (R = false) := by
          show _ = _
          rw [← HR.out, decide_eq_false_iff_not]
          intro e
          have : a[i] = b[i] := by simp only [e]
          have h2 := HSB.out
          rw [decide_eq_false_iff_not] at h2
          exact h2 this
        clear hx hx2
        go_wp2_with fail
        go_quiet (fail)
        obtain ⟨w4, hw4⟩ : ∃ w4, wr.drewN nq = w4 := ⟨_, rfl⟩
        rw [hw4]
        have hb4 : Below wr.heap.size wr w4 := by rw [← hw4]; exact ⟨rfl, rfl, rfl, Nat.le_refl _, fun _ _ => rfl⟩
        have HBE := Lib.hid (chain hbe hb4)
        clear hw4 hb4 hbe hne hgd q0 q1 q2 q3 q4 r0 r1 r2 r3 r4
        go_wp2
        go_ret
        rw [HR2.out]
        exact ⟨rfl, HBE.out⟩
    · have HR2 : Hid (R = true) := by
        show _ = _
        rw [← HR.out, decide_eq_true_eq]
        rw [List.take_of_length_le (by rw [HN.out]; omega), List.take_of_length_le (by rw [HNB.out]; omega)] at htk
        exact htk
      clear htk
      go_wp2
      go_ret
      rw [HR2.out]
      exact ⟨rfl, hbe⟩

set_option maxRecDepth 100000 in
theorem same_lens (ao bo : Option Addr) (na nb ca cb : Nat) (w : World) (hz : na ≤ 100000) (hz2 : nb ≤ 100000) (h : na ≠ nb) :
    Calls Tryd.prog 16 #[.slice ao na ca, .slice bo nb cb] w fun e w' => e = .returned (.bool false) ∧ Below w.heap.size w w' := by
  have z1 : ((na : Int) == (nb : Int)) = false := by rw [beq_eq_false_iff_ne]; omega
  have z2 : ((na : Int) != (nb : Int)) = true := by simp; omega
  have z3 : ¬ (na : Int) = (nb : Int) := by omega
  go_enter Tryd.func16, Tryd.ntmps16
  go_wp2
  go_ret
  exact ⟨rfl, Below.refl _ _⟩
set_option maxRecDepth 100000 in
theorem same_none (ao bo : Option Addr) (ca cb : Nat) (w : World) :
    Calls Tryd.prog 16 #[.slice ao 0 ca, .slice bo 0 cb] w fun e w' => e = .returned (.bool true) ∧ Below w.heap.size w w' := by
  have HST : Hid (SameW w 0 (.int .i64 0) w) := ⟨rfl, rfl⟩
  go_enter Tryd.func16, Tryd.ntmps16
  go_wp2
  go_loopg [5] 0 (fun n v8 wr => SameW w n v8 wr)
  case atStart => exact HST.out
  case round =>
    obtain ⟨rfl, rfl⟩ := hrel
    clear HST
    go_wp2
    go_ret
    exact ⟨rfl, Below.refl _ _⟩

theorem ItsAt.shape {w : World} {v : Value} {l : List It} (h : ItsAt w v l) : ∃ ao cap, v = .slice ao l.length cap := by
  rcases h with ⟨rfl, rfl⟩ | ⟨ad, cap, rfl, _, _⟩
  · exact ⟨none, 0, rfl⟩
  · exact ⟨some ad, cap, rfl⟩
theorem rsame8_any (va vb : Value) (a b : List It) (w : World) (ha : ItsAt w va a) (hb : ItsAt w vb b) (hz : a.length ≤ 100000) (hz2 : b.length ≤ 100000) :
    Calls Tryd.prog 16 #[va, vb] w fun e w' => e = .returned (.bool (decide (a = b))) ∧ Below w.heap.size w w' := by
  by_cases hl : a.length = b.length
  · by_cases h0 : a = []
    · have h1 : b = [] := List.length_eq_zero_iff.1 (by rw [← hl, h0]; rfl)
      subst h0 h1
      obtain ⟨ao, ca, rfl⟩ := ha.shape
      obtain ⟨bo, cb, rfl⟩ := hb.shape
      exact same_none ao bo ca cb w
    · rcases ha with ⟨_, h⟩ | ⟨ad, ca, rfl, _, ha⟩
      · exact absurd h h0
      · rcases hb with ⟨_, h⟩ | ⟨bd, cb, rfl, _, hb⟩
        · rw [h] at hl
          exact absurd (List.length_eq_zero_iff.1 hl) h0
        · exact same_some a b ad bd ca cb w ha hb hl hz _ rfl
  · obtain ⟨ao, ca, rfl⟩ := ha.shape
    obtain ⟨bo, cb, rfl⟩ := hb.shape
    have e : decide (a = b) = false := by
      rw [decide_eq_false_iff_not]
      intro e
      exact hl (by rw [e])
    rw [e]
    exact same_lens ao bo _ _ ca cb w hz hz2 hl
end Go.Proofs.YtmnigdcgdebgoaaDoor
namespace Go.Proofs.YtmnigdcgdebgoaaDoor
open Go.RowKit
set_option linter.unusedVariables false

def aliveL : List It := [⟨0, 7, [], [], 0⟩, ⟨1, 6, [97], [], 0⟩, ⟨2, 4, [], [], 1⟩, ⟨2, 5, [], [98], 0⟩]
theorem alive1 : parseL readD (⟨#[32, 123, 34, 97, 34, 32, 58, 32, 91, 49, 44, 32, 34, 98, 34, 93, 125, 32]⟩ : ByteArray).data.toList = (0, aliveL) := by decide +kernel
theorem alive2 : parseL readD (⟨#[91, 49, 46, 53, 93]⟩ : ByteArray).data.toList = (83, []) := by decide +kernel
theorem alive3 : parseL readD (⟨#[123, 34, 97, 34, 58, 49, 44, 34, 97, 34, 58, 50, 125]⟩ : ByteArray).data.toList = (82, []) := by decide +kernel
theorem alive4 : parseL readD (⟨#[]⟩ : ByteArray).data.toList = (80, []) := by decide +kernel
theorem alive5 : rightU aliveL = true := by decide +kernel
theorem alive6 : rightU (aliveL.drop 1) = false := by decide +kernel
theorem alive7 : printU aliveL = [123, 34, 97, 34, 58, 91, 49, 44, 34, 98, 34, 93, 125] := by decide +kernel
theorem aliveS : Small aliveL := ⟨by decide, by
  intro x hx
  simp only [aliveL, List.mem_cons, List.not_mem_nil, or_false] at hx
  rcases hx with rfl | rfl | rfl | rfl <;> decide⟩
theorem aliveS1 : Small (aliveL.drop 1) := ⟨by decide, fun x hx => aliveS.2 x (List.mem_of_mem_drop hx)⟩

theorem drop_items {w : World} {ad : Addr} {cap : Nat} {l : List It} (h : ∀ j u, (itsV l)[j]? = some u → w.cell? (ad.add j) = some u) (hl : 1 ≤ l.length) (hcap : l.length ≤ cap) : ItsAt w (.slice (some (ad.add 5)) (l.length - 1) (cap - 1)) (l.drop 1) := by
  refine .inr ⟨ad.add 5, cap - 1, by rw [List.length_drop], by rw [List.length_drop]; omega, fun j u hj => ?_⟩
  rw [Go.Deep.add_add]
  refine h (5 + j) u ?_
  cases l with
  | nil => simp at hl
  | cons x t =>
    show (itV x ++ itsV t)[5 + j]? = some u
    rw [List.getElem?_append_right (by show 5 ≤ _; omega)]
    have e : 5 + j - (itV x).length = j := by show 5 + j - 5 = j; omega
    rw [e]
    exact hj

set_option maxRecDepth 100000 in
set_option maxHeartbeats 3200000 in
theorem alive8_any (w : World) (hT : Tabs w) : Calls Tryd.prog 12 #[] w fun e w' => e = .returned (.bool true) ∧ Below w.heap.size w w' := by
  have HT := Lib.hid hT
  clear hT
  go_enter Tryd.func12, Tryd.ntmps12
  go_wp2_with fail
  refine (jparse_any _ _ HT.out (by decide)).mono ?_
  rw [alive1]
  rintro _ w1 ⟨v, rfl, hI1, hb1⟩
  obtain ⟨ad, cap, rfl, hcap, hcl⟩ : ∃ ad cap, v = .slice (some ad) 4 cap ∧ 4 ≤ cap ∧ ∀ j u, (itsV aliveL)[j]? = some u → w1.cell? (ad.add j) = some u := by
    rcases hI1 with ⟨_, h⟩ | ⟨ad, cap, h1, h2, h3⟩
    · exact absurd h (by decide)
    · exact ⟨ad, cap, h1, h2, h3⟩
  have HC1 := Lib.hid hcl
  have HT1 := Lib.hid (HT.out.keep hb1)
  have HB1 := Lib.hid hb1
  clear hI1 hcl hb1
  go_wp2_with fail
  refine (jparse_any _ _ HT1.out (by decide)).mono ?_
  rw [alive2]
  rintro _ w2 ⟨v2, rfl, _, hb2⟩
  have HT2 := Lib.hid (HT1.out.keep hb2)
  have HB2 := Lib.hid (chain HB1.out hb2)
  have HC2 : Hid (∀ j u, (itsV aliveL)[j]? = some u → w2.cell? (ad.add j) = some u) := fun j u hj => by
    have h4 := HC1.out j u hj
    rw [hb2.cell (World.block_lt_of_cell? w1 _ h4)]
    exact h4
  clear hb2 HC1 HB1 HT1
  go_wp2_with fail
  refine (jparse_any _ _ HT2.out (by decide)).mono ?_
  rw [alive3]
  rintro _ w3 ⟨v3, rfl, _, hb3⟩
  have HT3 := Lib.hid (HT2.out.keep hb3)
  have HB3 := Lib.hid (chain HB2.out hb3)
  have HC3 : Hid (∀ j u, (itsV aliveL)[j]? = some u → w3.cell? (ad.add j) = some u) := fun j u hj => by
    have h4 := HC2.out j u hj
    rw [hb3.cell (World.block_lt_of_cell? w2 _ h4)]
    exact h4
  clear hb3 HC2 HB2 HT2
  go_wp2_with fail
  refine (jparse_any _ _ HT3.out (by decide)).mono ?_
  rw [alive4]
  rintro _ w4 ⟨v4, rfl, _, hb4⟩
  have HT4 := Lib.hid (HT3.out.keep hb4)
  have HB4 := Lib.hid (chain HB3.out hb4)
  have HC4 : Hid (∀ j u, (itsV aliveL)[j]? = some u → w4.cell? (ad.add j) = some u) := fun j u hj => by
    have h4 := HC3.out j u hj
    rw [hb4.cell (World.block_lt_of_cell? w3 _ h4)]
    exact h4
  clear hb4 HC3 HB3 HT3
  obtain ⟨q0, q1, q2, q3, q4⟩ := its_cells HC4.out 1 (by decide) ⟨#[97]⟩ ⟨#[]⟩ rfl rfl
  obtain ⟨r0, r1, r2, r3, r4⟩ := its_cells HC4.out 3 (by decide) ⟨#[]⟩ ⟨#[98]⟩ rfl rfl
  have q0 : w4.cell? ⟨ad.block, ad.off + 5, none⟩ = some (.int .i64 1) := q0
  have q1 : w4.cell? ⟨ad.block, ad.off + 5 + 1, none⟩ = some (.int .i64 6) := q1
  have q2 : w4.cell? ⟨ad.block, ad.off + 5 + 2, none⟩ = some (.string ⟨#[97]⟩) := q2
  have q3 : w4.cell? ⟨ad.block, ad.off + 5 + 3, none⟩ = some (.string ⟨#[]⟩) := q3
  have q4 : w4.cell? ⟨ad.block, ad.off + 5 + 4, none⟩ = some (.int .i64 0) := q4
  have r0 : w4.cell? ⟨ad.block, ad.off + 15, none⟩ = some (.int .i64 2) := r0
  have r1 : w4.cell? ⟨ad.block, ad.off + 15 + 1, none⟩ = some (.int .i64 5) := r1
  have r2 : w4.cell? ⟨ad.block, ad.off + 15 + 2, none⟩ = some (.string ⟨#[]⟩) := r2
  have r3 : w4.cell? ⟨ad.block, ad.off + 15 + 3, none⟩ = some (.string ⟨#[98]⟩) := r3
  have r4 : w4.cell? ⟨ad.block, ad.off + 15 + 4, none⟩ = some (.int .i64 0) := r4
  have e1 := eql_itemP 1 6 0 1 6 0 ⟨#[97]⟩ ⟨#[]⟩ ⟨#[97]⟩ ⟨#[]⟩ true (by decide +kernel)
  have e2 := eql_itemP 2 5 0 2 5 0 ⟨#[]⟩ ⟨#[98]⟩ ⟨#[]⟩ ⟨#[98]⟩ true (by decide +kernel)
  have hgd := guardP
  have hc1 : ¬ cap = 1 := by omega
  go_wp2_with fail
  have hr5 := jright_any (.slice (some ad) 4 cap) aliveL w4 HT4.out (.inr ⟨ad, cap, rfl, hcap, HC4.out⟩) aliveS
  rw [alive5] at hr5
  have HR5 := Lib.hid hr5
  clear hr5
  refine HR5.out.mono ?_
  rintro _ w5 ⟨rfl, hb5⟩
  have HT5 := Lib.hid (HT4.out.keep hb5)
  have HB5 := Lib.hid (chain HB4.out hb5)
  have HC5 : Hid (∀ j u, (itsV aliveL)[j]? = some u → w5.cell? (ad.add j) = some u) := fun j u hj => by
    have h4 := HC4.out j u hj
    rw [hb5.cell (World.block_lt_of_cell? w4 _ h4)]
    exact h4
  clear hb5 HC4 HB4 HT4 q0 q1 q2 q3 q4 r0 r1 r2 r3 r4 e1 e2 hgd HR5
  have hr6 := jright_any _ _ w5 HT5.out (drop_items HC5.out (by decide) hcap) aliveS1
  rw [alive6] at hr6
  have HR6 := Lib.hid hr6
  clear hr6
  have hcap1 : 1 ≤ cap := by omega
  go_wp2_with fail
  refine HR6.out.mono ?_
  rintro _ w6 ⟨rfl, hb6⟩
  have HT6 := Lib.hid (HT5.out.keep hb6)
  have HB6 := Lib.hid (chain HB5.out hb6)
  have HC6 : Hid (∀ j u, (itsV aliveL)[j]? = some u → w6.cell? (ad.add j) = some u) := fun j u hj => by
    have h4 := HC5.out j u hj
    rw [hb6.cell (World.block_lt_of_cell? w5 _ h4)]
    exact h4
  clear hb6 HC5 HB5 HT5 HR6
  have hp7 := jprint_any (.slice (some ad) 4 cap) aliveL w6 HT6.out (.inr ⟨ad, cap, rfl, hcap, HC6.out⟩) aliveS ⟨#[123, 34, 97, 34, 58, 91, 49, 44, 34, 98, 34, 93, 125]⟩ (by rw [alive7]; rfl) (by rw [alive7]; decide)
  have HP7 := Lib.hid hp7
  clear hp7
  go_wp2_with fail
  refine HP7.out.mono ?_
  rintro _ w7 ⟨rfl, hb7⟩
  have HB7 := Lib.hid (chain HB6.out hb7)
  clear hb7 HC6 HB6 HT6 HP7
  have hee : ((⟨#[123, 34, 97, 34, 58, 91, 49, 44, 34, 98, 34, 93, 125]⟩ : ByteArray).toList == (⟨#[123, 34, 97, 34, 58, 91, 49, 44, 34, 98, 34, 93, 125]⟩ : ByteArray).toList) = true := by simp
  go_wp2
  go_ret
  exact ⟨rfl, HB7.out⟩
end Go.Proofs.YtmnigdcgdebgoaaDoor
namespace Go.Proofs.YtmnigdcgdebgoaaDoor
set_option linter.unusedVariables false

def wtI (x : It) : Nat := 1 + x.key.length + x.text.length
def wt (l : List It) : Nat := (l.map wtI).sum
theorem wt_cons (x : It) (l : List It) : wt (x :: l) = wtI x + wt l := by simp [wt]
theorem wt_app (a b : List It) : wt (a ++ b) = wt a + wt b := by simp [wt]
theorem wt_len (l : List It) : l.length ≤ wt l := by
  induction l with
  | nil => exact Nat.zero_le _
  | cons x t ih =>
    rw [wt_cons, List.length_cons]
    unfold wtI
    omega
theorem wt_mem (l : List It) (x : It) (h : x ∈ l) : wtI x ≤ wt l := by
  induction l with
  | nil => cases h
  | cons y t ih =>
    rw [wt_cons]
    rcases List.mem_cons.1 h with rfl | h
    · omega
    · have := ih h
      omega

theorem readF_wt : ∀ (f : Nat) (l out : List UInt8) (k : Nat) (u : List UInt8) (n : Nat), readF f l out k = (0, u, n) → u.length + k + 1 ≤ n + out.length
  | 0, l, out, k, u, n, h => by
    rw [readF] at h
    cases h
  | f + 1, l, out, k, u, n, h => by
    rw [readF] at h
    split at h
    · cases h
      omega
    · split at h
      · rename_i hp
        have := readF_wt f _ _ _ u n h
        have h2 := pieceQ_long l hp
        rw [List.length_append] at this
        omega
      · rename_i hp
        exact absurd (congrArg Prod.fst h) hp
theorem quot_wt (l : List UInt8) (h0 : (quotF l).1 = 0) : (quotF l).2.1.length + (quotF l).2.2.length + 1 ≤ l.length := by
  have h' : (readQ l).1 = 0 := h0
  show (readQ l).2.1.length + (l.drop (readQ l).2.2).length + 1 ≤ l.length
  rw [List.length_drop]
  rcases readQ_cases l with ⟨e, he, hr⟩ | ⟨rs, n, hl, h1, h2, hr, h3⟩
  · rw [hr] at h'
    exact absurd h' he
  · have hn : (textU rs).length + 2 ≤ n := by
      have e := hr
      unfold readQ at e
      split at e
      · have := readF_wt _ _ _ _ _ _ e
        simp at this
        omega
      · cases e
    rw [hr]
    show (textU rs).length + (l.length - n) + 1 ≤ l.length
    omega
theorem key_wt (keys : List (List UInt8)) (l k r : List UInt8) (h : keyF keys l = (0, k, r)) : k.length + r.length + 1 ≤ l.length := by
  unfold keyF at h
  by_cases h1 : (skipL l).head? = some 34
  · rw [if_pos h1] at h
    by_cases h2 : (quotF (skipL l)).1 = 0
    · rw [if_pos h2] at h
      have hq := quot_wt _ h2
      split at h
      · cases h
      · split at h
        · cases h
          have e1 := skip_len l
          have e2 := skip_len (quotF (skipL l)).2.2
          rw [List.length_tail]
          omega
        · cases h
    · rw [if_neg h2] at h
      exact absurd (congrArg Prod.fst h) h2
  · rw [if_neg h1] at h
    cases h

/-- What is read weighs no more than its bytes. -/
theorem value_wt (R : List UInt8 → Option Int) : ∀ f : Nat,
    (∀ d key l x r, valueF R f d key l = (0, x, r) → wt x + r.length ≤ l.length + key.length) ∧
    (∀ d o keys l x r, listF R f d o keys l = (0, x, r) → wt x + r.length + 1 ≤ l.length) := by
  intro f
  induction f with
  | zero =>
    refine ⟨fun d key l x r h => ?_, fun d o keys l x r h => ?_⟩
    · rw [valueF] at h
      cases h
    · rw [listF] at h
      cases h
  | succ f ih =>
    refine ⟨fun d key l x r h => ?_, fun d o keys l x r h => ?_⟩
    · cases hs : skipL l with
      | nil =>
        rw [value_nil R f d key l hs] at h
        cases h
      | cons c t =>
        have hl := skip_cons_len l c t hs
        rw [value_cons R f d key l c t hs] at h
        split at h
        · split at h
          · cases h
          · split at h
            · cases h
              have e := skip_len t
              rw [List.length_tail]
              simp [wt, wtI]
              omega
            · obtain ⟨h1, _⟩ := okThen_yes h
              obtain ⟨m, r2, hm⟩ : ∃ m r2, listF R f (d + 1) (c.toNat == 123) [] t = (0, m, r2) := ⟨_, _, Prod.ext h1 rfl⟩
              have := ih.2 (d + 1) (c.toNat == 123) [] t _ _ hm
              rw [hm, okThen_ok] at h
              cases h
              rw [wt_cons]
              simp only [wtI, List.length_nil]
              omega
        · split at h
          · obtain ⟨h1, h2⟩ := okThen_yes h
            cases h2
            have := quot_wt _ h1
            simp only [List.length_cons] at this
            simp [wt, wtI]
            omega
          · split at h
            · rename_i hn
              cases hR : R ((c :: t).takeWhile numC) with
              | none =>
                rw [hR] at h
                cases h
              | some n =>
                rw [hR] at h
                cases h
                have e := dropWhile_len numC t
                rw [List.dropWhile_cons_of_pos (numH_numC c hn)]
                simp [wt, wtI]
                omega
            · have hw := word_len d key _ x r h
              obtain ⟨k, _, _, rfl⟩ := word_yes d key _ x r h
              simp only [List.length_cons] at hw
              simp [wt, wtI]
              omega
    · rw [list_mem] at h
      split at h
      · rename_i hm
        have hml : wt (memF R f d o keys l).2.2.1 + (memF R f d o keys l).2.2.2.length ≤ l.length := by
          cases o with
          | false =>
            rw [mem_arr] at hm ⊢
            have := ih.1 d [] l _ _ (Prod.ext hm rfl)
            exact this
          | true =>
            by_cases hk : (keyF keys l).1 = 0
            · obtain ⟨k, r2, hk2⟩ : ∃ k r2, keyF keys l = (0, k, r2) := ⟨_, _, Prod.ext hk rfl⟩
              rw [mem_obj R f d keys l k r2 hk2] at hm ⊢
              have e1 := key_wt keys l k r2 hk2
              obtain ⟨m, r3, hm3⟩ : ∃ m r3, valueF R f d k r2 = (0, m, r3) := ⟨_, _, Prod.ext hm rfl⟩
              have e2 := ih.1 d k r2 _ _ hm3
              rw [hm3]
              show wt m + r3.length ≤ l.length
              omega
            · rw [mem_obj_no R f d keys l hk] at hm
              exact absurd hm hk
        split at h
        · cases h
        · rename_i c r3 hs
          have hl := skip_cons_len _ c r3 hs
          split at h
          · cases h
            omega
          · split at h
            · obtain ⟨h1, _⟩ := okThen_yes h
              obtain ⟨m, r4, hm4⟩ : ∃ m r4, listF R f d o (keys ++ [(memF R f d o keys l).2.1]) r3 = (0, m, r4) := ⟨_, _, Prod.ext h1 rfl⟩
              have := ih.2 d o _ r3 _ _ hm4
              rw [hm4, okThen_ok] at h
              cases h
              rw [wt_app]
              omega
            · cases h
      · rename_i hm
        exact absurd (congrArg Prod.fst h) hm

theorem printL_len (n : Int) (h1 : -9223372036854775808 ≤ n) (h2 : n ≤ 9223372036854775807) : (printL n).length ≤ 20 := by
  have hb := int_bound n h1 h2
  unfold printL
  have e1 := nd_le n.natAbs 19 (by omega) hb.1 (by omega)
  have e2 := nd_le n.toNat 19 (by omega) hb.2 (by omega)
  split
  · rw [List.length_cons, padK_len]; omega
  · rw [padK_len]; omega
theorem quoteL_size (l : List UInt8) : (quoteL l).length ≤ 6 * l.length + 2 := by
  have := innerL_len l
  show (34 :: (innerL l ++ [34])).length ≤ _
  simp
  omega
theorem wordL_len (k : Nat) : (wordL k).length ≤ 5 := by
  unfold wordL
  split
  · decide
  · split <;> decide

mutual
theorem J.text_len : (j : J) → ∀ (d : Nat) (key : List UInt8), j.good d → (j.text printL).length + 6 * key.length + 4 ≤ 30 * wt (j.rows d key)
  | .word k => by
    intro d key hg
    have := wordL_len k
    rw [J.text, J.rows]
    simp [wt, wtI]
    omega
  | .num n => by
    intro d key hg
    rw [J.good] at hg
    have := printL_len n hg.1 hg.2
    rw [J.text, J.rows]
    simp [wt, wtI]
    omega
  | .str t => by
    intro d key hg
    have := quoteL_size t
    rw [J.text, J.rows]
    simp [wt, wtI]
    omega
  | .node o m => by
    intro d key hg
    rw [J.good] at hg
    have := Js.text_len m (d + 1) o true hg.2.2
    rw [J.text, J.rows, wt_cons]
    simp [wtI]
    omega
theorem Js.text_len : (m : Js) → ∀ (d : Nat) (o first : Bool), m.good d o → (Js.text printL o first m).length ≤ 30 * wt (m.rows d)
  | .nil => by
    intro d o first hg
    rw [Js.text]
    exact Nat.zero_le _
  | .cons k v m => by
    intro d o first hg
    rw [Js.good] at hg
    have e1 := J.text_len v d k hg.2.2.1
    have e2 := Js.text_len m d o false hg.2.2.2
    have e3 := quoteL_size k
    rw [Js.text, Js.rows, wt_app, List.length_append, List.length_append, List.length_append]
    have a1 : (if first = true then ([] : List UInt8) else [44]).length ≤ 1 := by split <;> simp
    have a2 : (if o = true then quoteL k ++ [58] else []).length ≤ 6 * k.length + 3 := by
      split
      · rw [List.length_append]; simp; omega
      · simp
    omega
end

mutual
theorem J.size_text : (j : J) → ∀ (d : Nat), j.good d → j.size ≤ (j.text printL).length
  | .word k => by
    intro d hg
    rw [J.good] at hg
    rw [J.size, J.text]
    have : k = 1 ∨ k = 2 ∨ k = 3 := by omega
    rcases this with rfl | rfl | rfl <;> decide
  | .num n => by
    intro d hg
    rw [J.good] at hg
    obtain ⟨c, t, e, _, _⟩ := numFair.bytes n hg.1 hg.2
    rw [J.size, J.text, e, List.length_cons]
    omega
  | .str t => by
    intro d hg
    have := quoteL_len t
    rw [J.size, J.text]
    omega
  | .node o m => by
    intro d hg
    rw [J.good] at hg
    have := Js.size_text m (d + 1) o true hg.2.2
    rw [J.size, J.text, List.length_cons, List.length_append]
    simp only [if_true] at this
    show 1 + m.size ≤ (Js.text printL o true m).length + 1 + 1
    omega
theorem Js.size_text : (m : Js) → ∀ (d : Nat) (o first : Bool), m.good d o → m.size ≤ (Js.text printL o first m).length + (if first = true then 1 else 0)
  | .nil => by
    intro d o first hg
    rw [Js.size]
    exact Nat.zero_le _
  | .cons k v m => by
    intro d o first hg
    rw [Js.good] at hg
    have e1 := J.size_text v d hg.2.2.1
    have e2 := Js.size_text m d o false hg.2.2.2
    simp only [Bool.false_eq_true, if_false] at e2
    rw [Js.size, Js.text, List.length_append, List.length_append, List.length_append]
    have a1 : (if first = true then ([] : List UInt8) else [44]).length + (if first = true then 1 else 0) = 1 := by cases first <;> rfl
    omega
end

mutual
theorem J.rows_n : (j : J) → ∀ (d e : Nat) (key : List UInt8), j.good e → ∀ x ∈ j.rows d key, -9223372036854775808 ≤ x.n ∧ x.n ≤ 9223372036854775807
  | .word k => by
    intro d e key hg x hx
    rw [J.rows, List.mem_singleton] at hx
    subst hx
    show (-9223372036854775808 : Int) ≤ 0 ∧ (0 : Int) ≤ 9223372036854775807
    omega
  | .num n => by
    intro d e key hg x hx
    rw [J.good] at hg
    rw [J.rows, List.mem_singleton] at hx
    subst hx
    exact hg
  | .str t => by
    intro d e key hg x hx
    rw [J.rows, List.mem_singleton] at hx
    subst hx
    show (-9223372036854775808 : Int) ≤ 0 ∧ (0 : Int) ≤ 9223372036854775807
    omega
  | .node o m => by
    intro d e key hg x hx
    rw [J.good] at hg
    rw [J.rows] at hx
    rcases List.mem_cons.1 hx with rfl | h
    · show (-9223372036854775808 : Int) ≤ 0 ∧ (0 : Int) ≤ 9223372036854775807
      omega
    · exact Js.rows_n m (d + 1) (e + 1) o hg.2.2 x h
theorem Js.rows_n : (m : Js) → ∀ (d e : Nat) (o : Bool), m.good e o → ∀ x ∈ m.rows d, -9223372036854775808 ≤ x.n ∧ x.n ≤ 9223372036854775807
  | .nil => by
    intro d e o hg x hx
    cases hx
  | .cons k v m => by
    intro d e o hg x hx
    rw [Js.good] at hg
    rw [Js.rows] at hx
    rcases List.mem_append.1 hx with h | h
    · exact J.rows_n v d e k hg.2.2.1 x h
    · exact Js.rows_n m d e o hg.2.2.2 x h
end

/-- What was parsed. -/
theorem parse_good (l : List UInt8) (x : List It) (h : parseL readD l = (0, x)) : ∃ j : J, j.good 0 ∧ x = j.rows 0 [] ∧ wt x ≤ l.length := by
  unfold parseL at h
  by_cases h1 : (valueF readD (2 * l.length + 2) 0 [] l).1 = 0
  · rw [if_pos h1] at h
    by_cases h2 : skipL (valueF readD (2 * l.length + 2) 0 [] l).2.2 = []
    · rw [if_pos h2] at h
      have hx : (valueF readD (2 * l.length + 2) 0 [] l).2.1 = x := congrArg Prod.snd h
      obtain ⟨j, hj, hr⟩ := (parse_tree numInt (2 * l.length + 2)).1 0 [] l x (valueF readD (2 * l.length + 2) 0 [] l).2.2 (Prod.ext h1 (Prod.ext hx rfl))
      have hw := (value_wt readD (2 * l.length + 2)).1 0 [] l x (valueF readD (2 * l.length + 2) 0 [] l).2.2 (Prod.ext h1 (Prod.ext hx rfl))
      refine ⟨j, hj, hr, ?_⟩
      have e : ([] : List UInt8).length = 0 := rfl
      omega
    · rw [if_neg h2] at h
      cases h
  · rw [if_neg h1] at h
    exact absurd (congrArg Prod.fst h) h1
theorem parse_err (l : List UInt8) (h : (parseL readD l).1 ≠ 0) : (parseL readD l).2 = [] := by
  unfold parseL at h ⊢
  by_cases h1 : (valueF readD (2 * l.length + 2) 0 [] l).1 = 0
  · rw [if_pos h1] at h ⊢
    by_cases h2 : skipL (valueF readD (2 * l.length + 2) 0 [] l).2.2 = []
    · rw [if_pos h2] at h
      exact absurd rfl h
    · rw [if_neg h2]
  · rw [if_neg h1]
/-- What was printed is parsed as it was. -/
theorem parse_text (j : J) (h : j.good 0) : parseL readD (j.text printL) = (0, j.rows 0 []) := by
  have hs := j.size_text 0 h
  have hb := J.back numFair j (2 * (j.text printL).length + 2) 0 [] [] (by omega) h (fun c t e => by cases e)
  rw [List.append_nil] at hb
  unfold parseL
  rw [hb]
  rfl
end Go.Proofs.YtmnigdcgdebgoaaDoor
namespace Go.Proofs.YtmnigdcgdebgoaaDoor
open Go.RowKit
set_option linter.unusedVariables false

theorem small_rows (j : J) (h : j.good 0) (n : Nat) (hw : wt (j.rows 0 []) ≤ n) (hn : n ≤ 100000) : Small (j.rows 0 []) := by
  refine ⟨Nat.le_trans (wt_len _) (by omega), fun x hx => ?_⟩
  have := wt_mem _ x hx
  unfold wtI at this
  exact ⟨by omega, by omega, j.rows_n 0 0 [] h x hx⟩

/-- Parse, by what it tells. -/
theorem at_parse (s : ByteArray) (E : Nat) (l : List It) (w : World) (hT : Tabs w) (hs : s.size ≤ 1000000) (h : parseL readD s.data.toList = (E, l)) :
    Calls Tryd.prog 20 #[.string s] w fun e w' => ∃ ao cap, e = .returned (.tuple #[.slice ao l.length cap, .int .i64 (E : Int)]) ∧ ItsAt w' (.slice ao l.length cap) l ∧ Below w.heap.size w w' := by
  refine (jparse_any s w hT hs).mono ?_
  rw [h]
  rintro e w' ⟨v, rfl, hI, hb⟩
  obtain ⟨ao, cap, rfl⟩ := hI.shape
  exact ⟨ao, cap, rfl, hI, hb⟩
theorem at_olds (v : Value) (l : List It) (w : World) (h : ItsAt w v l) (hlz : l.length ≤ 100000) : Calls Tryd.prog 17 #[v] w fun e w' => ∃ ao cap, e = .returned (.slice ao l.length cap) ∧ ItsAt w' (.slice ao l.length cap) l ∧ Below w.heap.size w w' := by
  refine (olds_any v l w h hlz).mono ?_
  rintro e w' ⟨v, rfl, hI, hb⟩
  obtain ⟨ao, cap, rfl⟩ := hI.shape
  exact ⟨ao, cap, rfl, hI, hb⟩
theorem at_news (v : Value) (l : List It) (w : World) (h : ItsAt w v l) (hlz : l.length ≤ 100000) : Calls Tryd.prog 13 #[v] w fun e w' => ∃ ao cap, e = .returned (.slice ao l.length cap) ∧ ItsAt w' (.slice ao l.length cap) l ∧ Below w.heap.size w w' := by
  refine (news_any v l w h hlz).mono ?_
  rintro e w' ⟨v, rfl, hI, hb⟩
  obtain ⟨ao, cap, rfl⟩ := hI.shape
  exact ⟨ao, cap, rfl, hI, hb⟩
theorem at_same (va vb : Value) (a b : List It) (r : Bool) (w : World) (ha : ItsAt w va a) (hb : ItsAt w vb b) (hz : a.length ≤ 100000) (hz2 : b.length ≤ 100000) (hr : decide (a = b) = r) :
    Calls Tryd.prog 16 #[va, vb] w fun e w' => e = .returned (.bool r) ∧ Below w.heap.size w w' := hr ▸ rsame8_any va vb a b w ha hb hz hz2
theorem at_right (v : Value) (l : List It) (r : Bool) (w : World) (hT : Tabs w) (h : ItsAt w v l) (hsm : Small l) (hr : rightU l = r) :
    Calls Tryd.prog 14 #[v] w fun e w' => e = .returned (.bool r) ∧ Below w.heap.size w w' := hr ▸ jright_any v l w hT h hsm
end Go.Proofs.YtmnigdcgdebgoaaDoor
