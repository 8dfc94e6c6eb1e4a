/-
  The document's own end, text and Print.
-/
import Derived.Test.YtmnigdcgdebgoaaDoorJsonRefR
import Derived.Test.YtmnigdcgdebgoaaDoorJsH
import Derived.Test.YtmnigdcgdebgoaaDoorJsF
import Derived.Test.YtmnigdcgdebgoaaDoorQuoM
import Derived.Test.YtmnigdcgdebgoaaDoorDecRef
namespace Go.Proofs.YtmnigdcgdebgoaaDoor
open Go.RowKit
set_option linter.unusedVariables false

/-- Where an item's members end. -/
def EndAt (l : List It) (at_ r : Nat) : Prop := at_ < r ∧ r ≤ l.length ∧ (∀ i, at_ < i → i < r → (itL l at_).depth < (itL l i).depth) ∧ (r < l.length → (itL l r).depth ≤ (itL l at_).depth)

def EndW (at_ r : Nat) (w : World) (n : Nat) (v5 : Value) (wr : World) : Prop :=
  ∃ k : Nat, v5 = .int .i64 (k : Int) ∧ at_ < k ∧ k ≤ r ∧ k + n = r ∧ Below w.heap.size w wr

set_option maxRecDepth 100000 in
set_option maxHeartbeats 1600000 in
theorem rend_any (l : List It) (ad : Addr) (cap n at_ r : Nat) (w : World) (hn : l.length = n) (hc : CellsR w ad l) (hz : n ≤ 100000) (hr : EndAt l at_ r) :
    Calls Tryd.prog 58 #[.slice (some ad) n cap, .int .i64 (at_ : Int)] w fun e w' => e = .returned (.int .i64 (r : Int)) ∧ Below w.heap.size w w' := by
  obtain ⟨d, K, key, text, N, hx⟩ := it_parts (itL l at_)
  obtain ⟨r1, r2, r3, r4⟩ := hr
  rw [hn] at r2 r4
  rw [hx] at r3 r4
  have hat : at_ < n := by omega
  have HST : Hid (EndW at_ r w (r - (at_ + 1)) (.int .i64 ((at_ : Int) + 1)) w) := ⟨at_ + 1, by go_num, by omega, by omega, by omega, Below.refl _ _⟩
  have HC := Lib.hid hc
  have HN := Lib.hid hn
  have HX := Lib.hid hx
  have H3 := Lib.hid r3
  have H4 := Lib.hid r4
  clear hc hn hx r3 r4
  go_enter Tryd.func58, Tryd.ntmps58
  go_wp2
  go_loopg [5] (r - (at_ + 1)) (fun n v5 wr => EndW at_ r w n v5 wr)
  case atStart => exact HST.out
  case round =>
    obtain ⟨k, rfl, hak, hkr, hkn, hbe⟩ := hrel
    have HBE := Lib.hid hbe
    clear HST hbe
    have hcw := HC.out.keep HBE.out
    obtain ⟨q0, q1, q2, q3, q4⟩ := hcw.at_ at_ (by rw [HN.out]; exact hat) d K key text N HX.out
    clear q1 q2 q3 q4
    by_cases hlt : k < n
    · have hd0 : decide (k < n) = true := by simpa using hlt
      have hdi : ((k : Int) < (n : Int)) := by omega
      obtain ⟨dk, Kk, kk, tk, Nk, hxk⟩ := it_parts (itL l k)
      obtain ⟨p0, p1, p2, p3, p4⟩ := hcw.at_ k (by rw [HN.out]; exact hlt) dk Kk kk tk Nk hxk
      have HXK := Lib.hid hxk
      clear hcw hxk p1 p2 p3 p4
      by_cases hkr2 : k < r
      · have hdd : d < dk := by
          have := H3.out k hak hkr2
          rw [HXK.out] at this
          exact this
        have hd1 : decide (d < dk) = true := by simpa using hdd
        go_wp2_with fail
        go_quiet (fail)
        obtain ⟨w4, hw4⟩ : ∃ w4, wr.drewN nq = w4 := ⟨_, rfl⟩
        rw [hw4]
        have hb4 : Below wr.heap.size wr w4 := by rw [← hw4]; exact ⟨rfl, rfl, rfl, Nat.le_refl _, fun _ _ => rfl⟩
        have HBE2 := Lib.hid (chain HBE.out hb4)
        clear hw4 hb4 p0 q0 hd1 hd0
        go_wp2
        go_roundg (gk - 1)
        case measure => omega
        case rel => exact ⟨k + 1, by go_num, by omega, by omega, by omega, HBE2.out⟩
      · obtain rfl : k = r := by omega
        have hdd : ¬ d < dk := by
          have := H4.out hlt
          rw [HXK.out] at this
          have h2 : dk ≤ d := this
          omega
        have hd1 : decide (d < dk) = false := by simpa using hdd
        go_wp2_with fail
        go_quiet (fail)
        obtain ⟨w4, hw4⟩ : ∃ w4, wr.drewN nq = w4 := ⟨_, rfl⟩
        rw [hw4]
        have hb4 : Below wr.heap.size wr w4 := by rw [← hw4]; exact ⟨rfl, rfl, rfl, Nat.le_refl _, fun _ _ => rfl⟩
        have HBE2 := Lib.hid (chain HBE.out hb4)
        clear hw4 hb4 p0 q0 hd1 hd0
        go_wp2
        go_ret
        exact ⟨rfl, HBE2.out⟩
    · obtain rfl : k = r := by omega
      have hd0 : decide (k < n) = false := by simpa using hlt
      have hdi : ¬ ((k : Int) < (n : Int)) := by omega
      have hd2 : decide ((k : Int) < (n : Int)) = false := by simpa using hlt
      clear hcw
      go_wp2_with fail
      go_quiet (fail)
      obtain ⟨w4, hw4⟩ : ∃ w4, wr.drewN nq = w4 := ⟨_, rfl⟩
      rw [hw4]
      have hb4 : Below wr.heap.size wr w4 := by rw [← hw4]; exact ⟨rfl, rfl, rfl, Nat.le_refl _, fun _ _ => rfl⟩
      have HBE2 := Lib.hid (chain HBE.out hb4)
      clear hw4 hb4 q0 hd0 hd2
      go_wp2
      go_ret
      exact ⟨rfl, HBE2.out⟩

theorem itL_drop (l : List It) (k : Nat) (x : It) (t : List It) (h : l.drop k = x :: t) : k < l.length ∧ itL l k = x ∧ l.drop (k + 1) = t := by
  have hk : k < l.length := by
    have := congrArg List.length h
    rw [List.length_drop, List.length_cons] at this
    omega
  rw [List.drop_eq_getElem_cons hk] at h
  obtain ⟨h1, h2⟩ := List.cons.inj h
  exact ⟨hk, by rw [itL_get l k hk]; exact h1, h2⟩
theorem itL_in (l : List It) : ∀ (a b : List It) (k : Nat), l.drop k = a ++ b → ∀ i, k ≤ i → i < k + a.length → itL l i ∈ a := by
  intro a
  induction a with
  | nil => intro b k _ i h1 h2; simp at h2; omega
  | cons x t ih =>
    intro b k h i h1 h2
    obtain ⟨hk, hx, ht⟩ := itL_drop l k x (t ++ b) h
    by_cases e : i = k
    · rw [e, hx]
      exact List.mem_cons_self
    · exact List.mem_cons_of_mem _ (ih b (k + 1) ht i (by omega) (by simp at h2; omega))

/-- A tree's row: the first item, and deeper ones. -/
theorem J.rows_parts (j : J) (d : Nat) (key : List UInt8) : ∃ x t, j.rows d key = x :: t ∧ x.depth = (d : Int) ∧ x.key = key ∧ ∀ y ∈ t, (d : Int) + 1 ≤ y.depth := by
  cases j with
  | word k => exact ⟨_, [], by rw [J.rows], rfl, rfl, fun y h => by cases h⟩
  | num n => exact ⟨_, [], by rw [J.rows], rfl, rfl, fun y h => by cases h⟩
  | str t => exact ⟨_, [], by rw [J.rows], rfl, rfl, fun y h => by cases h⟩
  | node o m => exact ⟨_, _, by rw [J.rows], rfl, rfl, fun y h => by have := Js.rows_deep (d + 1) m y h; omega⟩
theorem end_tree (l : List It) (at_ : Nat) (j : J) (d : Nat) (key : List UInt8) (rest : List It) (h : l.drop at_ = j.rows d key ++ rest) (hle : HeadLe rest d) : EndAt l at_ (at_ + (j.rows d key).length) ∧ l.drop (at_ + (j.rows d key).length) = rest := by
  obtain ⟨x, t, hx, hxd, hxk, hdeep⟩ := j.rows_parts d key
  have hdr : l.drop (at_ + (j.rows d key).length) = rest := by
    rw [← List.drop_drop, h, List.drop_left]
  have hlen := congrArg List.length h
  rw [List.length_drop, List.length_append] at hlen
  rw [hx] at h hlen hdr ⊢
  have hl1 : (x :: t).length = t.length + 1 := rfl
  obtain ⟨hk, hi, ht⟩ := itL_drop l at_ x (t ++ rest) h
  refine ⟨⟨by omega, by omega, fun i h1 h2 => ?_, fun h1 => ?_⟩, hdr⟩
  · have := hdeep _ (itL_in l t rest (at_ + 1) ht i (by omega) (by omega))
    rw [hi, hxd]
    omega
  · cases rest with
    | nil =>
      have := congrArg List.length hdr
      rw [List.length_drop] at this
      simp at this
      omega
    | cons y r =>
      obtain ⟨_, hy, _⟩ := itL_drop l _ y r hdr
      rw [hy, hi, hxd]
      exact hle y r rfl

def Js.num : Js → Nat
  | .nil => 0
  | .cons _ _ m => m.num + 1

/-- What the text of members has come to. -/
def TextW (l : List It) (o : Bool) (m : Js) (d at_ : Nat) (rest : List It) (W : World) (n : Nat) (v8 v9 : Value) (wr : World) : Prop :=
  ∃ (k : Nat) (m2 : Js) (out : ByteArray), v8 = .string out ∧ v9 = .int .i64 (k : Int) ∧ n = m2.num ∧ at_ + 1 ≤ k ∧ k ≤ l.length ∧ l.drop k = m2.rows (d + 1) ++ rest ∧ m2.good (d + 1) o ∧ m2.size ≤ m.size ∧ (out.data.toList ++ Js.text printL o (decide (k = at_ + 1)) m2 = Js.text printL o true m) ∧ Below W.heap.size W wr

/-- The contract of text, by how great the tree is. -/
def TextOk (l : List It) (ad : Addr) (cap n f : Nat) : Prop := ∀ (j : J) (d : Nat) (key : List UInt8) (at_ : Nat) (rest : List It) (w : World), j.size ≤ f → j.good d → l.drop at_ = j.rows d key ++ rest → HeadLe rest d → (j.text printL).length ≤ 100000000 → CellsR w ad l →
  Calls Tryd.prog 39 #[.slice (some ad) n cap, .int .i64 (at_ : Int)] w fun e w' => e = .returned (.string (bytesOf (j.text printL))) ∧ Below w.heap.size w w'

theorem word_bytes (k : Nat) (h1 : 1 ≤ k) (h3 : k ≤ 3) : bytesOf (wordL k) = if k = 1 then ⟨#[110, 117, 108, 108]⟩ else if k = 2 then ⟨#[102, 97, 108, 115, 101]⟩ else ⟨#[116, 114, 117, 101]⟩ := by
  have : k = 1 ∨ k = 2 ∨ k = 3 := by omega
  rcases this with rfl | rfl | rfl <;> rfl
theorem head_next (m : Js) (d : Nat) (rest : List It) (hle : HeadLe rest d) : HeadLe (m.rows (d + 1) ++ rest) (d + 1) := by
  cases m with
  | nil =>
    intro x r e
    rw [Js.rows, List.nil_append] at e
    have := hle x r e
    omega
  | cons k v m =>
    intro x r e
    obtain ⟨y, t, hy, hyd, _, _⟩ := v.rows_parts (d + 1) k
    rw [Js.rows, hy] at e
    have : y = x := (List.cons.inj e).1
    rw [← this, hyd]
    exact Int.le_refl _
-- WALKS

set_option maxRecDepth 100000 in
set_option maxHeartbeats 1600000 in
theorem rtext_word1 (l : List It) (ad : Addr) (cap n : Nat) (hn : l.length = n) (hz : n ≤ 100000) (hsm : Small l) (d : Nat) (key : ByteArray) (at_ : Nat) (w : World) (hat : at_ < n) (hx : itL l at_ = ⟨d, 1, key.data.toList, ByteArray.empty.data.toList, 0⟩) (hc : CellsR w ad l) :
    Calls Tryd.prog 39 #[.slice (some ad) n cap, .int .i64 (at_ : Int)] w fun e w' => e = .returned (.string (⟨#[110, 117, 108, 108]⟩)) ∧ Below w.heap.size w w' := by
  obtain ⟨q0, q1, q2, q3, q4⟩ := hc.at_ at_ (by rw [hn]; exact hat) d 1 key ByteArray.empty 0 hx
  have HB := Lib.hid ((Below.refl w.heap.size w).alloc (Nat.le_refl _) (.cells #[.int .i64 (d : Int), .int .i64 1, .string key, .string ByteArray.empty, .int .i64 0] 46))
  clear hn hsm hx hc
  go_enter Tryd.func39, Tryd.ntmps39
  go_wp2
  go_ret
  exact ⟨rfl, HB.out⟩

set_option maxRecDepth 100000 in
set_option maxHeartbeats 1600000 in
theorem rtext_word2 (l : List It) (ad : Addr) (cap n : Nat) (hn : l.length = n) (hz : n ≤ 100000) (hsm : Small l) (d : Nat) (key : ByteArray) (at_ : Nat) (w : World) (hat : at_ < n) (hx : itL l at_ = ⟨d, 2, key.data.toList, ByteArray.empty.data.toList, 0⟩) (hc : CellsR w ad l) :
    Calls Tryd.prog 39 #[.slice (some ad) n cap, .int .i64 (at_ : Int)] w fun e w' => e = .returned (.string (⟨#[102, 97, 108, 115, 101]⟩)) ∧ Below w.heap.size w w' := by
  obtain ⟨q0, q1, q2, q3, q4⟩ := hc.at_ at_ (by rw [hn]; exact hat) d 2 key ByteArray.empty 0 hx
  have HB := Lib.hid ((Below.refl w.heap.size w).alloc (Nat.le_refl _) (.cells #[.int .i64 (d : Int), .int .i64 2, .string key, .string ByteArray.empty, .int .i64 0] 46))
  clear hn hsm hx hc
  go_enter Tryd.func39, Tryd.ntmps39
  go_wp2
  go_ret
  exact ⟨rfl, HB.out⟩

set_option maxRecDepth 100000 in
set_option maxHeartbeats 1600000 in
theorem rtext_word3 (l : List It) (ad : Addr) (cap n : Nat) (hn : l.length = n) (hz : n ≤ 100000) (hsm : Small l) (d : Nat) (key : ByteArray) (at_ : Nat) (w : World) (hat : at_ < n) (hx : itL l at_ = ⟨d, 3, key.data.toList, ByteArray.empty.data.toList, 0⟩) (hc : CellsR w ad l) :
    Calls Tryd.prog 39 #[.slice (some ad) n cap, .int .i64 (at_ : Int)] w fun e w' => e = .returned (.string (⟨#[116, 114, 117, 101]⟩)) ∧ Below w.heap.size w w' := by
  obtain ⟨q0, q1, q2, q3, q4⟩ := hc.at_ at_ (by rw [hn]; exact hat) d 3 key ByteArray.empty 0 hx
  have HB := Lib.hid ((Below.refl w.heap.size w).alloc (Nat.le_refl _) (.cells #[.int .i64 (d : Int), .int .i64 3, .string key, .string ByteArray.empty, .int .i64 0] 46))
  clear hn hsm hx hc
  go_enter Tryd.func39, Tryd.ntmps39
  go_wp2
  go_ret
  exact ⟨rfl, HB.out⟩

set_option maxRecDepth 100000 in
set_option maxHeartbeats 1600000 in
theorem rtext_num (l : List It) (ad : Addr) (cap n : Nat) (hn : l.length = n) (hz : n ≤ 100000) (hsm : Small l) (d : Nat) (key : ByteArray) (N : Int) (h1 : -9223372036854775808 ≤ N) (h2 : N ≤ 9223372036854775807) (at_ : Nat) (w : World) (hat : at_ < n) (hx : itL l at_ = ⟨d, 4, key.data.toList, ByteArray.empty.data.toList, N⟩) (hc : CellsR w ad l) :
    Calls Tryd.prog 39 #[.slice (some ad) n cap, .int .i64 (at_ : Int)] w fun e w' => e = .returned (.string (printB N)) ∧ Below w.heap.size w w' := by
  obtain ⟨q0, q1, q2, q3, q4⟩ := hc.at_ at_ (by rw [hn]; exact hat) d 4 key ByteArray.empty N hx
  have HB := Lib.hid ((Below.refl w.heap.size w).alloc (Nat.le_refl _) (.cells #[.int .i64 (d : Int), .int .i64 4, .string key, .string ByteArray.empty, .int .i64 N] 46))
  clear hn hsm hx hc
  go_enter Tryd.func39, Tryd.ntmps39
  go_wp2_with fail
  refine (rprint_any N _ h1 h2).mono ?_
  rintro _ w1 ⟨rfl, hb1⟩
  have hb := chain HB.out hb1
  go_wp2
  go_ret
  exact ⟨rfl, hb⟩

set_option maxRecDepth 100000 in
set_option maxHeartbeats 1600000 in
theorem rtext_str (l : List It) (ad : Addr) (cap n : Nat) (hn : l.length = n) (hz : n ≤ 100000) (hsm : Small l) (d : Nat) (key text : ByteArray) (ht : validB text = true) (htz : text.size ≤ 1000000) (at_ : Nat) (w : World) (hat : at_ < n) (hx : itL l at_ = ⟨d, 5, key.data.toList, text.data.toList, 0⟩) (hc : CellsR w ad l) :
    Calls Tryd.prog 39 #[.slice (some ad) n cap, .int .i64 (at_ : Int)] w fun e w' => e = .returned (.string (⟨(quoteL text.data.toList).toArray⟩)) ∧ Below w.heap.size w w' := by
  obtain ⟨q0, q1, q2, q3, q4⟩ := hc.at_ at_ (by rw [hn]; exact hat) d 5 key text 0 hx
  have HB := Lib.hid ((Below.refl w.heap.size w).alloc (Nat.le_refl _) (.cells #[.int .i64 (d : Int), .int .i64 5, .string key, .string text, .int .i64 0] 46))
  have HV := Lib.hid ht
  obtain ⟨Q, hQ⟩ : ∃ Q, (⟨(quoteL text.data.toList).toArray⟩ : ByteArray) = Q := ⟨_, rfl⟩
  rw [hQ]
  have HQ := Lib.hid hQ
  clear hn hsm hx hc ht hQ
  go_enter Tryd.func39, Tryd.ntmps39
  go_wp2_with fail
  refine (rwrite_any text _ (by omega)).mono ?_
  unfold quoteV
  rw [if_pos HV.out, HQ.out]
  rintro _ w1 ⟨rfl, hb1⟩
  have hb := chain HB.out hb1
  go_wp2
  go_ret
  exact ⟨rfl, hb⟩

set_option maxRecDepth 100000 in
set_option maxHeartbeats 3200000 in
theorem rtext_node_true (l : List It) (ad : Addr) (cap n : Nat) (hn : l.length = n) (hz : n ≤ 100000) (hsm : Small l) (f : Nat) (IH : TextOk l ad cap n f) (m : Js) (hms : m.size ≤ f) (d : Nat) (key : ByteArray) (at_ : Nat) (rest : List It) (w : World) (hat : at_ < n) (hx : itL l at_ = ⟨d, 7, key.data.toList, ByteArray.empty.data.toList, 0⟩) (hg : m.good (d + 1) true) (hdr : l.drop (at_ + 1) = m.rows (d + 1) ++ rest) (E : Nat) (hE : EndAt l at_ E) (hdE : l.drop E = rest) (hle : HeadLe rest d) (hml : (Js.text printL true true m).length ≤ 100000000) (hc : CellsR w ad l) :
    Calls Tryd.prog 39 #[.slice (some ad) n cap, .int .i64 (at_ : Int)] w fun e w' => e = .returned (.string (bytesOf (123 :: (Js.text printL true true m ++ [125])))) ∧ Below w.heap.size w w' := by
  obtain ⟨q0, q1, q2, q3, q4⟩ := hc.at_ at_ (by rw [hn]; exact hat) d 7 key ByteArray.empty 0 hx
  have hba := (Below.refl w.heap.size w).alloc (Nat.le_refl _) (.cells #[.int .i64 (d : Int), .int .i64 7, .string key, .string ByteArray.empty, .int .i64 0] 46)
  have hbx := BoxR.new w (.int .i64 (d : Int)) (.int .i64 7) (.string key) (.string ByteArray.empty) (.int .i64 0)
  obtain ⟨W, hW⟩ : ∃ W, w.alloc (.cells #[.int .i64 (d : Int), .int .i64 7, .string key, .string ByteArray.empty, .int .i64 0] 46) = W := ⟨_, rfl⟩
  rw [hW] at hba hbx
  have HC := Lib.hid (hc.keep hba)
  have HBX := Lib.hid hbx
  have HBA := Lib.hid hba
  have HWW := Lib.hid hW
  have HN := Lib.hid hn
  have HSM := Lib.hid hsm
  have HE := Lib.hid hE
  have HDE := Lib.hid hdE
  have HLE := Lib.hid hle
  have hEn : E ≤ n := by rw [← hn]; exact hE.2.1
  have hEa : at_ < E := hE.1
  have IH := Lib.hid IH
  have HST : Hid (TextW l true m d at_ rest W m.num (.string ByteArray.empty) (.int .i64 ((at_ : Int) + 1)) W) := ⟨at_ + 1, m, ByteArray.empty, rfl, by go_num, rfl, Nat.le_refl _, by rw [hn]; exact hat, hdr, hg, Nat.le_refl _, by rw [decide_eq_true (rfl : at_ + 1 = at_ + 1)]; rfl, Below.refl _ _⟩
  have hel : rest.length = n - E := by rw [← hdE, List.length_drop, hn]
  have HEL := Lib.hid hel
  clear hn hsm hx hc hba hbx hW hE hdE hle hg hdr hel
  go_enter Tryd.func39, Tryd.ntmps39
  go_wp2
  rw [HWW.out]
  go_loopg [8, 9] m.num (fun n v8 v9 wr => TextW l true m d at_ rest W n v8 v9 wr)
  case atStart => exact HST.out
  case round =>
    obtain ⟨k, m2, out, rfl, rfl, hmn, hka, hkle, hdr, hg, hm2s, heq, hbe⟩ := hrel
    rw [HN.out] at hkle
    have HBE := Lib.hid hbe
    have HCW := Lib.hid (HC.out.keep hbe)
    have HXW := Lib.hid (HBX.out.keep hbe)
    clear HST hbe q0 q1 q2 q3 q4
    have hkn := congrArg List.length hdr
    rw [List.length_drop, List.length_append, HN.out, HEL.out] at hkn
    cases m2 with
    | nil =>
      have hkE : k = E := by
        rw [Js.rows] at hkn
        simp at hkn
        omega
      subst hkE
      have hout : out.data.toList = Js.text printL true true m := by
        rw [← heq, Js.text, List.append_nil]
      have hoz : out.size ≤ 100000000 := by rw [← list_len, hout]; exact hml
      have HOUT := Lib.hid hout
      clear heq hout hdr hmn hkn hg
      go_wp2_with fail
      refine (rend_any l ad cap n at_ k _ HN.out HCW.out hz HE.out).mono ?_
      rintro _ w1 ⟨rfl, hb1⟩
      have HB1 := Lib.hid (chain HBE.out hb1)
      obtain ⟨x0, x1, x2, x3, x4⟩ := (HXW.out.keep hb1).cells
      clear hb1
      have hs1 : 1 + out.size ≤ 9223372036854775807 := by omega
      have hs2 : 1 + out.size + 1 ≤ 9223372036854775807 := by omega
      go_wp2
      go_ret
      refine ⟨ret_str (ba_ext ?_), chain HBA.out HB1.out⟩
      rw [list_bytesOf, app_list, app_list, HOUT.out]
      rfl
    | cons kk v m3 =>
      rw [Js.good] at hg
      obtain ⟨g1, g2, g3, g4⟩ := hg
      rw [Js.size] at hm2s
      rw [Js.rows, List.append_assoc] at hdr
      have hnx := head_next m3 d rest HLE.out
      obtain ⟨he2, hd3⟩ := end_tree l k v (d + 1) kk (m3.rows (d + 1) ++ rest) hdr hnx
      obtain ⟨x, t, hxt, hxd, hxk, _⟩ := v.rows_parts (d + 1) kk
      have hlp : 1 ≤ (v.rows (d + 1) kk).length := by rw [hxt]; simp
      have hkE : k < E := by
        rw [Js.rows, List.length_append] at hkn
        omega
      have hdr2 := hdr
      rw [hxt] at hdr
      obtain ⟨hkl, hik, _⟩ := itL_drop l k x _ hdr
      obtain ⟨dk, Kk, KB, tk, Nk, hxx⟩ := it_parts (itL l k)
      have hdk : dk = ((d + 1 : Nat) : Int) := by
        have e := congrArg It.depth hxx
        rw [hik, hxd] at e
        exact e.symm
      subst hdk
      have hKl : KB.data.toList = kk := by
        have e := congrArg It.key hxx
        rw [hik, hxk] at e
        exact e.symm
      obtain ⟨hKz, _⟩ := small_it HSM.out k hkl _ Kk KB tk Nk hxx
      have HXK := Lib.hid hxx
      have HE2 := Lib.hid he2
      have HDR3 := Lib.hid hd3
      have HNX := Lib.hid hnx
      have hmnum : Js.num (.cons kk v m3) = m3.num + 1 := rfl
      rw [hmnum] at hmn
      have HV : Hid (validB KB = true) := by show (runesU KB.data.toList).isSome = true; rw [hKl]; exact (valid_iff kk).2 (g1 rfl)
      clear hdr hxt hik hxx he2 hd3 hnx hkn hmnum hxd hxk g1 g2
      by_cases hfst : k = at_ + 1
      · have hf : decide (k = at_ + 1) = true := by simpa using hfst
        have z1 : ¬ ((at_ : Int) + 1 < (k : Int)) := by omega
        rw [hf, Js.text] at heq
        simp only [if_true, List.nil_append] at heq
        obtain ⟨X, hX⟩ : ∃ X, bytesOf (v.text printL) = X := ⟨_, rfl⟩
        have hXl : X.data.toList = v.text printL := by rw [← hX, list_bytesOf]
        rw [← hXl] at heq
        have hXz : X.size ≤ (Js.text printL true true m).length := by
          rw [← heq, ← list_len X]
          simp only [List.length_append, List.length_cons]
          omega
        have hOz : out.size ≤ (Js.text printL true true m).length := by
          rw [← heq, ← list_len out]
          simp only [List.length_append, List.length_cons]
          omega
        obtain ⟨QK, hQK⟩ : ∃ Q, (⟨(quoteL KB.data.toList).toArray⟩ : ByteArray) = Q := ⟨_, rfl⟩
        have hQl : QK.data.toList = quoteL KB.data.toList := by rw [← hQK]
        have hQz : QK.size ≤ 10000000 := by
          rw [← list_len QK, hQl]
          have := quoteL_size KB.data.toList
          rw [list_len] at this
          omega
        have HQK := Lib.hid hQK
        have heq2 : (out ++ QK ++ (⟨#[58]⟩ : ByteArray) ++ X).data.toList ++ Js.text printL true (decide (k + (v.rows (d + 1) kk).length = at_ + 1)) m3 = Js.text printL true true m := by
          have e : decide (k + (v.rows (d + 1) kk).length = at_ + 1) = false := by rw [decide_eq_false_iff_not]; omega
          rw [e, ← heq]
          simp only [app_list, hQl, hKl]
          simp
        have HEQ := Lib.hid heq2
        have HIH : Hid (∀ W2 : World, CellsR W2 ad l → Calls Tryd.prog 39 #[.slice (some ad) n cap, .int .i64 (k : Int)] W2 fun e w' => e = .returned (.string X) ∧ Below W2.heap.size W2 w') := fun W2 hc2 => by
          rw [← hX]
          exact IH.out v (d + 1) kk k (m3.rows (d + 1) ++ rest) W2 (by omega) g3 hdr2 HNX.out (by have := hXz; rw [← list_len X, hXl] at this; exact Nat.le_trans this hml) hc2
        clear heq heq2 hX hXl hf hfst hQK hQl
        have hs1 : out.size + 1 ≤ 9223372036854775807 := by omega
        go_wp2_with fail
        refine (rend_any l ad cap n at_ E _ HN.out HCW.out hz HE.out).mono ?_
        rintro _ w1 ⟨rfl, hb1⟩
        have HC1 := Lib.hid (HCW.out.keep hb1)
        have HX1 := Lib.hid (HXW.out.keep hb1)
        have HB1 := Lib.hid (chain HBE.out hb1)
        obtain ⟨x0, x1, x2, x3, x4⟩ := HX1.out.cells
        clear hb1 x0 x2 x3 x4
        obtain ⟨q0, q1, q2, q3, q4⟩ := HC1.out.at_ k hkl ((d + 1 : Nat) : Int) Kk KB tk Nk HXK.out
        clear q0 q1 q3 q4
        go_wp2_with fail
        refine (rwrite_any KB _ (by omega)).mono ?_
        unfold quoteV
        rw [if_pos HV.out, HQK.out]
        rintro _ w2 ⟨rfl, hb2⟩
        have HC2 := Lib.hid (HC1.out.keep hb2)
        have HX2 := Lib.hid (HX1.out.keep hb2)
        have HB2 := Lib.hid (chain HB1.out hb2)
        clear hb2 q2 x1 HC1 HX1 HB1
        have hs2 : out.size + 1 + QK.size ≤ 9223372036854775807 := by omega
        have hs3 : out.size + 1 + QK.size + 1 ≤ 9223372036854775807 := by omega
        have hs4 : out.size + QK.size ≤ 9223372036854775807 := by omega
        have hs5 : out.size + QK.size + 1 ≤ 9223372036854775807 := by omega
        go_wp2_with fail
        refine (HIH.out _ HC2.out).mono ?_
        rintro _ w3 ⟨rfl, hb3⟩
        have HC3 := Lib.hid (HC2.out.keep hb3)
        have HX3 := Lib.hid (HX2.out.keep hb3)
        have HB3 := Lib.hid (chain HB2.out hb3)
        clear hb3 HC2 HX2 HB2 HIH
        have ht1 : out.size + X.size ≤ 9223372036854775807 := by omega
        have ht2 : out.size + 1 + X.size ≤ 9223372036854775807 := by omega
        have ht3 : out.size + 1 + QK.size + 1 + X.size ≤ 9223372036854775807 := by omega
        have ht4 : out.size + QK.size + 1 + X.size ≤ 9223372036854775807 := by omega
        go_wp2_with fail
        refine (rend_any l ad cap n k (k + (v.rows (d + 1) kk).length) _ HN.out HC3.out hz HE2.out).mono ?_
        rintro _ w4 ⟨rfl, hb4⟩
        have HB4 := Lib.hid (chain HB3.out hb4)
        clear hb4 HC3 HX3 HB3
        go_wp2
        go_roundg m3.num
        case measure => omega
        case rel => exact ⟨_, m3, _, rfl, rfl, rfl, by omega, HE2.out.2.1, HDR3.out, g4, by omega, HEQ.out, HB4.out⟩
      · have hf : decide (k = at_ + 1) = false := by simpa using hfst
        have z1 : ((at_ : Int) + 1 < (k : Int)) := by omega
        rw [hf, Js.text] at heq
        simp only [Bool.false_eq_true, if_false, if_true, List.nil_append] at heq
        obtain ⟨X, hX⟩ : ∃ X, bytesOf (v.text printL) = X := ⟨_, rfl⟩
        have hXl : X.data.toList = v.text printL := by rw [← hX, list_bytesOf]
        rw [← hXl] at heq
        have hXz : X.size ≤ (Js.text printL true true m).length := by
          rw [← heq, ← list_len X]
          simp only [List.length_append, List.length_cons]
          omega
        have hOz : out.size ≤ (Js.text printL true true m).length := by
          rw [← heq, ← list_len out]
          simp only [List.length_append, List.length_cons]
          omega
        obtain ⟨QK, hQK⟩ : ∃ Q, (⟨(quoteL KB.data.toList).toArray⟩ : ByteArray) = Q := ⟨_, rfl⟩
        have hQl : QK.data.toList = quoteL KB.data.toList := by rw [← hQK]
        have hQz : QK.size ≤ 10000000 := by
          rw [← list_len QK, hQl]
          have := quoteL_size KB.data.toList
          rw [list_len] at this
          omega
        have HQK := Lib.hid hQK
        have heq2 : (out ++ (⟨#[44]⟩ : ByteArray) ++ QK ++ (⟨#[58]⟩ : ByteArray) ++ X).data.toList ++ Js.text printL true (decide (k + (v.rows (d + 1) kk).length = at_ + 1)) m3 = Js.text printL true true m := by
          have e : decide (k + (v.rows (d + 1) kk).length = at_ + 1) = false := by rw [decide_eq_false_iff_not]; omega
          rw [e, ← heq]
          simp only [app_list, hQl, hKl]
          simp
        have HEQ := Lib.hid heq2
        have HIH : Hid (∀ W2 : World, CellsR W2 ad l → Calls Tryd.prog 39 #[.slice (some ad) n cap, .int .i64 (k : Int)] W2 fun e w' => e = .returned (.string X) ∧ Below W2.heap.size W2 w') := fun W2 hc2 => by
          rw [← hX]
          exact IH.out v (d + 1) kk k (m3.rows (d + 1) ++ rest) W2 (by omega) g3 hdr2 HNX.out (by have := hXz; rw [← list_len X, hXl] at this; exact Nat.le_trans this hml) hc2
        clear heq heq2 hX hXl hf hfst hQK hQl
        have hs1 : out.size + 1 ≤ 9223372036854775807 := by omega
        go_wp2_with fail
        refine (rend_any l ad cap n at_ E _ HN.out HCW.out hz HE.out).mono ?_
        rintro _ w1 ⟨rfl, hb1⟩
        have HC1 := Lib.hid (HCW.out.keep hb1)
        have HX1 := Lib.hid (HXW.out.keep hb1)
        have HB1 := Lib.hid (chain HBE.out hb1)
        obtain ⟨x0, x1, x2, x3, x4⟩ := HX1.out.cells
        clear hb1 x0 x2 x3 x4
        obtain ⟨q0, q1, q2, q3, q4⟩ := HC1.out.at_ k hkl ((d + 1 : Nat) : Int) Kk KB tk Nk HXK.out
        clear q0 q1 q3 q4
        go_wp2_with fail
        refine (rwrite_any KB _ (by omega)).mono ?_
        unfold quoteV
        rw [if_pos HV.out, HQK.out]
        rintro _ w2 ⟨rfl, hb2⟩
        have HC2 := Lib.hid (HC1.out.keep hb2)
        have HX2 := Lib.hid (HX1.out.keep hb2)
        have HB2 := Lib.hid (chain HB1.out hb2)
        clear hb2 q2 x1 HC1 HX1 HB1
        have hs2 : out.size + 1 + QK.size ≤ 9223372036854775807 := by omega
        have hs3 : out.size + 1 + QK.size + 1 ≤ 9223372036854775807 := by omega
        have hs4 : out.size + QK.size ≤ 9223372036854775807 := by omega
        have hs5 : out.size + QK.size + 1 ≤ 9223372036854775807 := by omega
        go_wp2_with fail
        refine (HIH.out _ HC2.out).mono ?_
        rintro _ w3 ⟨rfl, hb3⟩
        have HC3 := Lib.hid (HC2.out.keep hb3)
        have HX3 := Lib.hid (HX2.out.keep hb3)
        have HB3 := Lib.hid (chain HB2.out hb3)
        clear hb3 HC2 HX2 HB2 HIH
        have ht1 : out.size + X.size ≤ 9223372036854775807 := by omega
        have ht2 : out.size + 1 + X.size ≤ 9223372036854775807 := by omega
        have ht3 : out.size + 1 + QK.size + 1 + X.size ≤ 9223372036854775807 := by omega
        have ht4 : out.size + QK.size + 1 + X.size ≤ 9223372036854775807 := by omega
        go_wp2_with fail
        refine (rend_any l ad cap n k (k + (v.rows (d + 1) kk).length) _ HN.out HC3.out hz HE2.out).mono ?_
        rintro _ w4 ⟨rfl, hb4⟩
        have HB4 := Lib.hid (chain HB3.out hb4)
        clear hb4 HC3 HX3 HB3
        go_wp2
        go_roundg m3.num
        case measure => omega
        case rel => exact ⟨_, m3, _, rfl, rfl, rfl, by omega, HE2.out.2.1, HDR3.out, g4, by omega, HEQ.out, HB4.out⟩

set_option maxRecDepth 100000 in
set_option maxHeartbeats 3200000 in
theorem rtext_node_false (l : List It) (ad : Addr) (cap n : Nat) (hn : l.length = n) (hz : n ≤ 100000) (hsm : Small l) (f : Nat) (IH : TextOk l ad cap n f) (m : Js) (hms : m.size ≤ f) (d : Nat) (key : ByteArray) (at_ : Nat) (rest : List It) (w : World) (hat : at_ < n) (hx : itL l at_ = ⟨d, 6, key.data.toList, ByteArray.empty.data.toList, 0⟩) (hg : m.good (d + 1) false) (hdr : l.drop (at_ + 1) = m.rows (d + 1) ++ rest) (E : Nat) (hE : EndAt l at_ E) (hdE : l.drop E = rest) (hle : HeadLe rest d) (hml : (Js.text printL false true m).length ≤ 100000000) (hc : CellsR w ad l) :
    Calls Tryd.prog 39 #[.slice (some ad) n cap, .int .i64 (at_ : Int)] w fun e w' => e = .returned (.string (bytesOf (91 :: (Js.text printL false true m ++ [93])))) ∧ Below w.heap.size w w' := by
  obtain ⟨q0, q1, q2, q3, q4⟩ := hc.at_ at_ (by rw [hn]; exact hat) d 6 key ByteArray.empty 0 hx
  have hba := (Below.refl w.heap.size w).alloc (Nat.le_refl _) (.cells #[.int .i64 (d : Int), .int .i64 6, .string key, .string ByteArray.empty, .int .i64 0] 46)
  have hbx := BoxR.new w (.int .i64 (d : Int)) (.int .i64 6) (.string key) (.string ByteArray.empty) (.int .i64 0)
  obtain ⟨W, hW⟩ : ∃ W, w.alloc (.cells #[.int .i64 (d : Int), .int .i64 6, .string key, .string ByteArray.empty, .int .i64 0] 46) = W := ⟨_, rfl⟩
  rw [hW] at hba hbx
  have HC := Lib.hid (hc.keep hba)
  have HBX := Lib.hid hbx
  have HBA := Lib.hid hba
  have HWW := Lib.hid hW
  have HN := Lib.hid hn
  have HSM := Lib.hid hsm
  have HE := Lib.hid hE
  have HDE := Lib.hid hdE
  have HLE := Lib.hid hle
  have hEn : E ≤ n := by rw [← hn]; exact hE.2.1
  have hEa : at_ < E := hE.1
  have IH := Lib.hid IH
  have HST : Hid (TextW l false m d at_ rest W m.num (.string ByteArray.empty) (.int .i64 ((at_ : Int) + 1)) W) := ⟨at_ + 1, m, ByteArray.empty, rfl, by go_num, rfl, Nat.le_refl _, by rw [hn]; exact hat, hdr, hg, Nat.le_refl _, by rw [decide_eq_true (rfl : at_ + 1 = at_ + 1)]; rfl, Below.refl _ _⟩
  have hel : rest.length = n - E := by rw [← hdE, List.length_drop, hn]
  have HEL := Lib.hid hel
  clear hn hsm hx hc hba hbx hW hE hdE hle hg hdr hel
  go_enter Tryd.func39, Tryd.ntmps39
  go_wp2
  rw [HWW.out]
  go_loopg [8, 9] m.num (fun n v8 v9 wr => TextW l false m d at_ rest W n v8 v9 wr)
  case atStart => exact HST.out
  case round =>
    obtain ⟨k, m2, out, rfl, rfl, hmn, hka, hkle, hdr, hg, hm2s, heq, hbe⟩ := hrel
    rw [HN.out] at hkle
    have HBE := Lib.hid hbe
    have HCW := Lib.hid (HC.out.keep hbe)
    have HXW := Lib.hid (HBX.out.keep hbe)
    clear HST hbe q0 q1 q2 q3 q4
    have hkn := congrArg List.length hdr
    rw [List.length_drop, List.length_append, HN.out, HEL.out] at hkn
    cases m2 with
    | nil =>
      have hkE : k = E := by
        rw [Js.rows] at hkn
        simp at hkn
        omega
      subst hkE
      have hout : out.data.toList = Js.text printL false true m := by
        rw [← heq, Js.text, List.append_nil]
      have hoz : out.size ≤ 100000000 := by rw [← list_len, hout]; exact hml
      have HOUT := Lib.hid hout
      clear heq hout hdr hmn hkn hg
      go_wp2_with fail
      refine (rend_any l ad cap n at_ k _ HN.out HCW.out hz HE.out).mono ?_
      rintro _ w1 ⟨rfl, hb1⟩
      have HB1 := Lib.hid (chain HBE.out hb1)
      obtain ⟨x0, x1, x2, x3, x4⟩ := (HXW.out.keep hb1).cells
      clear hb1
      have hs1 : 1 + out.size ≤ 9223372036854775807 := by omega
      have hs2 : 1 + out.size + 1 ≤ 9223372036854775807 := by omega
      go_wp2
      go_ret
      refine ⟨ret_str (ba_ext ?_), chain HBA.out HB1.out⟩
      rw [list_bytesOf, app_list, app_list, HOUT.out]
      rfl
    | cons kk v m3 =>
      rw [Js.good] at hg
      obtain ⟨g1, g2, g3, g4⟩ := hg
      rw [Js.size] at hm2s
      rw [Js.rows, List.append_assoc] at hdr
      have hnx := head_next m3 d rest HLE.out
      obtain ⟨he2, hd3⟩ := end_tree l k v (d + 1) kk (m3.rows (d + 1) ++ rest) hdr hnx
      obtain ⟨x, t, hxt, hxd, hxk, _⟩ := v.rows_parts (d + 1) kk
      have hlp : 1 ≤ (v.rows (d + 1) kk).length := by rw [hxt]; simp
      have hkE : k < E := by
        rw [Js.rows, List.length_append] at hkn
        omega
      have hdr2 := hdr
      rw [hxt] at hdr
      obtain ⟨hkl, hik, _⟩ := itL_drop l k x _ hdr
      obtain ⟨dk, Kk, KB, tk, Nk, hxx⟩ := it_parts (itL l k)
      have hdk : dk = ((d + 1 : Nat) : Int) := by
        have e := congrArg It.depth hxx
        rw [hik, hxd] at e
        exact e.symm
      subst hdk
      have hKl : KB.data.toList = kk := by
        have e := congrArg It.key hxx
        rw [hik, hxk] at e
        exact e.symm
      obtain ⟨hKz, _⟩ := small_it HSM.out k hkl _ Kk KB tk Nk hxx
      have HXK := Lib.hid hxx
      have HE2 := Lib.hid he2
      have HDR3 := Lib.hid hd3
      have HNX := Lib.hid hnx
      have hmnum : Js.num (.cons kk v m3) = m3.num + 1 := rfl
      rw [hmnum] at hmn
      skip
      clear hdr hxt hik hxx he2 hd3 hnx hkn hmnum hxd hxk g1 g2
      by_cases hfst : k = at_ + 1
      · have hf : decide (k = at_ + 1) = true := by simpa using hfst
        have z1 : ¬ ((at_ : Int) + 1 < (k : Int)) := by omega
        rw [hf, Js.text] at heq
        simp only [if_true, Bool.false_eq_true, if_false, List.nil_append] at heq
        obtain ⟨X, hX⟩ : ∃ X, bytesOf (v.text printL) = X := ⟨_, rfl⟩
        have hXl : X.data.toList = v.text printL := by rw [← hX, list_bytesOf]
        rw [← hXl] at heq
        have hXz : X.size ≤ (Js.text printL false true m).length := by
          rw [← heq, ← list_len X]
          simp only [List.length_append, List.length_cons]
          omega
        have hOz : out.size ≤ (Js.text printL false true m).length := by
          rw [← heq, ← list_len out]
          simp only [List.length_append, List.length_cons]
          omega
        have heq2 : (out ++ X).data.toList ++ Js.text printL false (decide (k + (v.rows (d + 1) kk).length = at_ + 1)) m3 = Js.text printL false true m := by
          have e : decide (k + (v.rows (d + 1) kk).length = at_ + 1) = false := by rw [decide_eq_false_iff_not]; omega
          rw [e, ← heq]
          simp only [app_list]
          simp
        have HEQ := Lib.hid heq2
        have HIH : Hid (∀ W2 : World, CellsR W2 ad l → Calls Tryd.prog 39 #[.slice (some ad) n cap, .int .i64 (k : Int)] W2 fun e w' => e = .returned (.string X) ∧ Below W2.heap.size W2 w') := fun W2 hc2 => by
          rw [← hX]
          exact IH.out v (d + 1) kk k (m3.rows (d + 1) ++ rest) W2 (by omega) g3 hdr2 HNX.out (by have := hXz; rw [← list_len X, hXl] at this; exact Nat.le_trans this hml) hc2
        clear heq heq2 hX hXl hf hfst
        have hs1 : out.size + 1 ≤ 9223372036854775807 := by omega
        go_wp2_with fail
        refine (rend_any l ad cap n at_ E _ HN.out HCW.out hz HE.out).mono ?_
        rintro _ w1 ⟨rfl, hb1⟩
        have HC1 := Lib.hid (HCW.out.keep hb1)
        have HX1 := Lib.hid (HXW.out.keep hb1)
        have HB1 := Lib.hid (chain HBE.out hb1)
        obtain ⟨x0, x1, x2, x3, x4⟩ := HX1.out.cells
        clear hb1 x0 x2 x3 x4
        go_wp2_with fail
        refine (HIH.out _ HC1.out).mono ?_
        rintro _ w3 ⟨rfl, hb3⟩
        have HC3 := Lib.hid (HC1.out.keep hb3)
        have HX3 := Lib.hid (HX1.out.keep hb3)
        have HB3 := Lib.hid (chain HB1.out hb3)
        clear hb3 HC1 HX1 HB1 HIH
        have ht1 : out.size + X.size ≤ 9223372036854775807 := by omega
        have ht2 : out.size + 1 + X.size ≤ 9223372036854775807 := by omega
        skip
        skip
        go_wp2_with fail
        refine (rend_any l ad cap n k (k + (v.rows (d + 1) kk).length) _ HN.out HC3.out hz HE2.out).mono ?_
        rintro _ w4 ⟨rfl, hb4⟩
        have HB4 := Lib.hid (chain HB3.out hb4)
        clear hb4 HC3 HX3 HB3
        go_wp2
        go_roundg m3.num
        case measure => omega
        case rel => exact ⟨_, m3, _, rfl, rfl, rfl, by omega, HE2.out.2.1, HDR3.out, g4, by omega, HEQ.out, HB4.out⟩
      · have hf : decide (k = at_ + 1) = false := by simpa using hfst
        have z1 : ((at_ : Int) + 1 < (k : Int)) := by omega
        rw [hf, Js.text] at heq
        simp only [Bool.false_eq_true, if_false, List.nil_append] at heq
        obtain ⟨X, hX⟩ : ∃ X, bytesOf (v.text printL) = X := ⟨_, rfl⟩
        have hXl : X.data.toList = v.text printL := by rw [← hX, list_bytesOf]
        rw [← hXl] at heq
        have hXz : X.size ≤ (Js.text printL false true m).length := by
          rw [← heq, ← list_len X]
          simp only [List.length_append, List.length_cons]
          omega
        have hOz : out.size ≤ (Js.text printL false true m).length := by
          rw [← heq, ← list_len out]
          simp only [List.length_append, List.length_cons]
          omega
        have heq2 : (out ++ (⟨#[44]⟩ : ByteArray) ++ X).data.toList ++ Js.text printL false (decide (k + (v.rows (d + 1) kk).length = at_ + 1)) m3 = Js.text printL false true m := by
          have e : decide (k + (v.rows (d + 1) kk).length = at_ + 1) = false := by rw [decide_eq_false_iff_not]; omega
          rw [e, ← heq]
          simp only [app_list]
          simp
        have HEQ := Lib.hid heq2
        have HIH : Hid (∀ W2 : World, CellsR W2 ad l → Calls Tryd.prog 39 #[.slice (some ad) n cap, .int .i64 (k : Int)] W2 fun e w' => e = .returned (.string X) ∧ Below W2.heap.size W2 w') := fun W2 hc2 => by
          rw [← hX]
          exact IH.out v (d + 1) kk k (m3.rows (d + 1) ++ rest) W2 (by omega) g3 hdr2 HNX.out (by have := hXz; rw [← list_len X, hXl] at this; exact Nat.le_trans this hml) hc2
        clear heq heq2 hX hXl hf hfst
        have hs1 : out.size + 1 ≤ 9223372036854775807 := by omega
        go_wp2_with fail
        refine (rend_any l ad cap n at_ E _ HN.out HCW.out hz HE.out).mono ?_
        rintro _ w1 ⟨rfl, hb1⟩
        have HC1 := Lib.hid (HCW.out.keep hb1)
        have HX1 := Lib.hid (HXW.out.keep hb1)
        have HB1 := Lib.hid (chain HBE.out hb1)
        obtain ⟨x0, x1, x2, x3, x4⟩ := HX1.out.cells
        clear hb1 x0 x2 x3 x4
        go_wp2_with fail
        refine (HIH.out _ HC1.out).mono ?_
        rintro _ w3 ⟨rfl, hb3⟩
        have HC3 := Lib.hid (HC1.out.keep hb3)
        have HX3 := Lib.hid (HX1.out.keep hb3)
        have HB3 := Lib.hid (chain HB1.out hb3)
        clear hb3 HC1 HX1 HB1 HIH
        have ht1 : out.size + X.size ≤ 9223372036854775807 := by omega
        have ht2 : out.size + 1 + X.size ≤ 9223372036854775807 := by omega
        skip
        skip
        go_wp2_with fail
        refine (rend_any l ad cap n k (k + (v.rows (d + 1) kk).length) _ HN.out HC3.out hz HE2.out).mono ?_
        rintro _ w4 ⟨rfl, hb4⟩
        have HB4 := Lib.hid (chain HB3.out hb4)
        clear hb4 HC3 HX3 HB3
        go_wp2
        go_roundg m3.num
        case measure => omega
        case rel => exact ⟨_, m3, _, rfl, rfl, rfl, by omega, HE2.out.2.1, HDR3.out, g4, by omega, HEQ.out, HB4.out⟩

theorem rtext_any (l : List It) (ad : Addr) (cap n : Nat) (hn : l.length = n) (hz : n ≤ 100000) (hsm : Small l) : ∀ f : Nat, TextOk l ad cap n f := by
  intro f
  induction f with
  | zero =>
    intro j d key at_ rest w hf
    cases j <;> (rw [J.size] at hf; omega)
  | succ f ih =>
    intro j d key at_ rest w hf hg hdr hle hml hc
    obtain ⟨he, hdE⟩ := end_tree l at_ j d key rest hdr hle
    have hkey : (bytesOf key).data.toList = key := list_bytesOf key
    cases j with
    | word k =>
      rw [J.rows] at hdr
      rw [J.good] at hg
      obtain ⟨hat, hx, _⟩ := itL_drop l at_ _ _ hdr
      rw [hn] at hat
      rw [J.text, word_bytes k hg.1 hg.2]
      rw [← hkey] at hx
      have : k = 1 ∨ k = 2 ∨ k = 3 := by omega
      rcases this with rfl | rfl | rfl
      · exact rtext_word1 l ad cap n hn hz hsm d (bytesOf key) at_ w hat hx hc
      · exact rtext_word2 l ad cap n hn hz hsm d (bytesOf key) at_ w hat hx hc
      · exact rtext_word3 l ad cap n hn hz hsm d (bytesOf key) at_ w hat hx hc
    | num N =>
      rw [J.rows] at hdr
      rw [J.good] at hg
      obtain ⟨hat, hx, _⟩ := itL_drop l at_ _ _ hdr
      rw [hn] at hat
      rw [← hkey] at hx
      have e : bytesOf (J.text printL (.num N)) = printB N := by
        rw [J.text]
        exact ba_ext (by rw [list_bytesOf, printB_list])
      rw [e]
      exact rtext_num l ad cap n hn hz hsm d (bytesOf key) N hg.1 hg.2 at_ w hat hx hc
    | str t =>
      rw [J.rows] at hdr
      rw [J.good] at hg
      obtain ⟨hat, hx, _⟩ := itL_drop l at_ _ _ hdr
      have htz := (hsm.2 _ (List.getElem_mem hat)).2.1
      rw [← itL_get l at_ hat, hx] at htz
      rw [hn] at hat
      have hx2 : itL l at_ = ⟨d, 5, (bytesOf key).data.toList, (bytesOf t).data.toList, 0⟩ := by rw [hx, hkey, list_bytesOf]
      have e : bytesOf (J.text printL (.str t)) = ⟨(quoteL (bytesOf t).data.toList).toArray⟩ := by
        rw [J.text, list_bytesOf]
        rfl
      rw [e]
      exact rtext_str l ad cap n hn hz hsm d (bytesOf key) (bytesOf t) (by show (runesU (bytesOf t).data.toList).isSome = true; rw [list_bytesOf]; exact (valid_iff t).2 hg) (by rw [← list_len, list_bytesOf]; exact htz) at_ w hat hx2 hc
    | node o m =>
      rw [J.rows, List.cons_append] at hdr
      rw [J.good] at hg
      obtain ⟨hat, hx, hdr2⟩ := itL_drop l at_ _ _ hdr
      rw [hn] at hat
      rw [← hkey] at hx
      rw [J.size] at hf
      rw [J.text] at hml ⊢
      have hml2 : (Js.text printL o true m).length ≤ 100000000 := by
        simp only [List.length_cons, List.length_append] at hml
        omega
      cases o with
      | true => exact rtext_node_true l ad cap n hn hz hsm f ih m (by omega) d (bytesOf key) at_ rest w hat hx hg.2.2 hdr2 _ he hdE hle hml2 hc
      | false => exact rtext_node_false l ad cap n hn hz hsm f ih m (by omega) d (bytesOf key) at_ rest w hat hx hg.2.2 hdr2 _ he hdE hle hml2 hc
end Go.Proofs.YtmnigdcgdebgoaaDoor
