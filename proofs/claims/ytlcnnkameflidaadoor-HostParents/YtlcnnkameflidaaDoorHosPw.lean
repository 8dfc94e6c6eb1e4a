/-
  Package host: ends: the walk.
-/
import Derived.Test.YtlcnnkameflidaaDoorHosPd
namespace Go.Proofs.YtlcnnkameflidaaDoor
open Go.RowKit
set_option linter.unusedVariables false

theorem begs_len (l : List UInt8) : (begL l).length = (dotsL l).length := by
  obtain ⟨n, hn⟩ : ∃ n, l.length ≤ n := ⟨_, Nat.le_refl _⟩
  induction n generalizing l with
  | zero =>
    have : l = [] := List.eq_nil_of_length_eq_zero (by omega)
    subst this
    rfl
  | succ n ih =>
    cases h : dotsL l with
    | nil => exact absurd h (dotG_ne l [])
    | cons p r =>
      obtain ⟨h1, h2, h3⟩ := begs_step l p r h
      cases r with
      | nil => rw [h2 rfl]; rfl
      | cons q r =>
        obtain ⟨h4, h5, h6⟩ := h3 (by simp)
        rw [h6, List.length_cons, ih _ (by rw [List.length_drop]; omega), h5]
        rfl

/-- How far ends has come: k parts, the next one begins at f. -/
def EndsOk (L : List UInt8) (ps : List (List UInt8)) (k f : Nat) : Prop :=
  k < ps.length → f ≤ L.length ∧ dotsL (L.drop f) = ps.drop k ∧ (begL L).drop k = begL (L.drop f)

theorem ends_first (L : List UInt8) : EndsOk L (dotsL L) 0 0 := fun _ => ⟨Nat.zero_le _, rfl, rfl⟩

theorem ends_next (L : List UInt8) (k f : Nat) (hk : k < (dotsL L).length) (h : EndsOk L (dotsL L) k f) :
    f + (dotsL L)[k].length ≤ L.length ∧ (begL L)[k]? = some (L.drop f) ∧ EndsOk L (dotsL L) (k + 1) (f + ((dotsL L)[k].length + 1)) := by
  obtain ⟨h1, h2, h3⟩ := h hk
  rw [List.drop_eq_getElem_cons hk] at h2
  obtain ⟨s1, s2, s3⟩ := begs_step _ _ _ h2
  rw [List.length_drop] at s1
  refine ⟨by omega, ?_, fun hk2 => ?_⟩
  · have : ((begL L).drop k)[0]? = some (L.drop f) := by rw [h3]; rfl
    rw [List.getElem?_drop] at this
    simpa using this
  · have hr : (dotsL L).drop (k + 1) ≠ [] := by
      intro e
      have := congrArg List.length e
      rw [List.length_drop] at this
      simp at this
      omega
    obtain ⟨s4, s5, s6⟩ := s3 hr
    rw [List.length_drop] at s4
    rw [List.drop_drop] at s5 s6
    refine ⟨by omega, s5, ?_⟩
    have : (begL L).drop (k + 1) = ((begL L).drop k).drop 1 := by rw [List.drop_drop]
    rw [this, h3, s6]
    rfl

theorem ext_tail (s : ByteArray) (f : Nat) : s.extract f s.size = ofL (s.data.toList.drop f) := by
  apply ba_ext
  rw [extract_list, List.take_of_length_le (by rw [List.length_drop, list_len]; omega)]
  rfl

/-- The row's texts so far. -/
def rowK (B : List (List UInt8)) (k : Nat) : List ByteArray := ofLs (B.take k) ++ List.replicate (B.length - k) .empty

theorem rowK_len (B : List (List UInt8)) (k : Nat) (h : k ≤ B.length) : (rowK B k).length = B.length := by
  simp [rowK, ofLs]
  omega
theorem rowK_set (B : List (List UInt8)) (k : Nat) (x : List UInt8) (h : k < B.length) (hx : B[k]? = some x) : (rowK B k).set k (ofL x) = rowK B (k + 1) := by
  have e : B[k] = x := by rw [List.getElem?_eq_getElem h] at hx; injection hx
  unfold rowK
  rw [set_mix _ _ k _ (by simp [ofLs]; omega) (by simp; omega), List.take_succ_eq_append_getElem h, e]
  unfold ofLs
  rw [List.map_append, List.append_assoc, List.tail_replicate]
  rfl
theorem rowK_zero (B : List (List UInt8)) : rowK B 0 = List.replicate B.length .empty := by simp [rowK, ofLs]
theorem rowK_all (B : List (List UInt8)) : rowK B B.length = ofLs B := by simp [rowK]

def EndsAt (s : ByteArray) (g : Nat) (w0 : World) (at_ i : Value) (wr : World) : Prop :=
  ∃ k f : Nat, at_ = .int .i64 (f : Int) ∧ i = .int .i64 (k : Int) ∧ k ≤ (dotsL s.data.toList).length ∧ f ≤ s.size + 1 ∧ EndsOk s.data.toList (dotsL s.data.toList) k f ∧ TextsAt wr g (rowK (begL s.data.toList) k) ∧ Below w0.heap.size w0 wr

set_option maxRecDepth 100000 in
set_option maxHeartbeats 1600000 in
theorem ends_any (s : ByteArray) (n : Nat) (ao : Option Addr) (cap : Nat) (w : World) (hs : s.size ≤ 100000) (hn : (dotsL s.data.toList).length = n)
    (hc : ∀ j (hj : j < (dotsL s.data.toList).length), ∃ ad, ao = some ad ∧ w.cell? (ad.add j) = some (.string (ofL (dotsL s.data.toList)[j]))) :
    Calls Tryd.prog 29 #[.string s, .slice ao n cap] w fun e w' => (∃ v, e = .returned v ∧ StrsAt w' v (ofLs (begL s.data.toList))) ∧ Below w.heap.size w w' := by
  have HC := Lib.hid hc
  have HB := Lib.hid (begs_len s.data.toList)
  have hpl : n ≤ 100001 := by rw [← hn]; have := dots_len s.data.toList []; rw [list_len] at this; show (dotG [] s.data.toList).length ≤ 100001; omega
  have HN := Lib.hid hn
  clear hc hn
  obtain ⟨i0, hi, hz0, hz1, hz2⟩ := info_parts Tryd.infoStr
  go_enter Tryd.func29, Tryd.ntmps29
  go_wp2_with (at_make; refine wpList_make_full _ rfl _ _ 28 rfl w.heap.size 9 i0 (.string .empty) 1 Tryd.underlying28 hi hz0 hz1 .i64 .i64 n n n rfl rfl rfl rfl (by rw [hz2]; omega) (by unfold maxLen; omega) (Nat.le_refl _) ?_; intro w1 hown hgrow)
  have hb1 := TextsAt.of_owned hown
  have hB1 : Below w.heap.size w w1 := (Below.refl _ _).grown hgrow (Nat.le_refl _) (fun j hj => by cases hj)
  clear hown hgrow hi hz0 hz1 hz2
  rw [← HN.out, ← HB.out, ← rowK_zero] at hb1
  go_loopw [6, 13] (fun f i wr => EndsAt s w.heap.size w f i wr) (fun _ i _ => n - (intOf i).toNat)
  case atStart => exact ⟨0, 0, rfl, rfl, Nat.zero_le _, by omega, ends_first _, hb1, hB1⟩
  case round =>
    clear hb1 hB1
    obtain ⟨k, f, rfl, rfl, hk, hf, hok, htx, hbe⟩ := hrel
    rw [HN.out] at hk
    by_cases hlt : k < n
    · have hkl : k < (dotsL s.data.toList).length := by rw [HN.out]; exact hlt
      obtain ⟨n1, n2, n3⟩ := ends_next _ k f hkl hok
      rw [list_len] at n1
      obtain ⟨ad, rfl, hcl⟩ := HC.out k hkl
      have hadl := World.block_lt_of_cell? _ _ hcl
      have hkb : k < (begL s.data.toList).length := by rw [HB.out]; exact hkl
      have hkr : k < (rowK (begL s.data.toList) k).length := by rw [rowK_len _ _ (by omega)]; exact hkb
      obtain ⟨x0, c0⟩ : ∃ x, wr.cell? ⟨w.heap.size, k, none⟩ = some (.string x) := ⟨_, htx.1 k hkr⟩
      have f0 := htx.2 k hkr
      have hset := htx.set k hkr (s.extract f s.size)
      rw [ext_tail, rowK_set _ k _ hkb n2, ← ext_tail] at hset
      have hbe2 := hbe.setCell (p := ⟨w.heap.size, k, none⟩) (Nat.le_refl _) (Value.string (s.extract f s.size))
      have hcl2 : (wr.setCell ⟨w.heap.size, k, none⟩ (.string (s.extract f s.size))).cell? (ad.add k) = some (.string (ofL (dotsL s.data.toList)[k])) := by
        rw [hbe2.cell hadl]; exact hcl
      have HS := Lib.hid hset
      have HO := Lib.hid n3
      have hpz : (ofL (dotsL s.data.toList)[k]).size = (dotsL s.data.toList)[k].length := by show Array.size _ = _; simp
      generalize ofL (dotsL s.data.toList)[k] = P at hcl hcl2 hpz
      rw [← hpz] at n1 HO
      have hki : (k : Int) < (n : Int) := by omega
      have hfi : (f : Int) ≤ (s.size : Int) := by omega
      clear hset n3 n2 htx hok hcl hkl hkb hkr hadl hpz
      go_wp2
      go_roundw
      case rel => exact ⟨k + 1, f + (P.size + 1), by go_num, by go_num, by rw [HN.out]; omega, by omega, HO.out, HS.out, hbe2⟩
      case measure => simp [intOf]; omega
    · have e : k = n := by omega
      subst e
      have hki : ¬ (k : Int) < (k : Int) := by omega
      have hlen : (rowK (begL s.data.toList) k).length = k := by rw [rowK_len _ _ (by rw [HB.out, HN.out]; exact Nat.le_refl _), HB.out]; exact HN.out
      have hst : StrsAt wr (.slice (some ⟨w.heap.size, 0, none⟩) k k) (ofLs (begL s.data.toList)) := by
        have h := htx.strs k (by omega)
        rw [hlen] at h
        have e2 : rowK (begL s.data.toList) k = ofLs (begL s.data.toList) := by rw [← HN.out, ← HB.out, rowK_all]
        rw [← e2]
        exact h
      have HS := Lib.hid hst
      clear hst htx hok hlen
      go_wp2
      go_ret
      exact ⟨⟨_, rfl, HS.out⟩, hbe⟩
end Go.Proofs.YtlcnnkameflidaaDoor
