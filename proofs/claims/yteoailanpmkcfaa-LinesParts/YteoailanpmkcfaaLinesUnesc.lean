/-
  The document's own Unescape (package cracknelref06): a contract.
-/
import Derived.Test.YteoailanpmkcfaaLinesRef
namespace Go.Proofs.Yteoailanpmkcfaa
open Go.RowKit
set_option linter.unusedVariables false

/-- The answer of a reading: the text, or none. -/
def readV (o : Option (List UInt8)) : Value := match o with
  | some a => .tuple #[.string ⟨a.toArray⟩, .bool true]
  | none => .tuple #[.string ByteArray.empty, .bool false]

/-- What Unescape holds: a is had, rest is left. -/
def UnescAt (s : ByteArray) (g : Nat) (w0 : World) (gk : Nat) (str out : Value) (wr : World) : Prop :=
  ∃ (a : List UInt8) (rest : ByteArray), str = .string rest ∧ rest.size = gk ∧ a.length + gk ≤ s.size ∧ s.data.toList = escL a ++ rest.data.toList ∧ RowB wr g out a ∧ Below g w0 wr ∧ g ≤ wr.heap.size

theorem escL_append (a b : List UInt8) : escL (a ++ b) = escL a ++ escL b := by
  unfold escL
  rw [List.flatMap_append]

theorem unescL_append (a b : List UInt8) : unescL (escL a ++ b) = (unescL b).map (a ++ ·) := by
  cases h : unescL b with
  | some c =>
    refine (unescL_iff _ _).2 ?_
    rw [escL_append, (unescL_iff _ _).1 h]
  | none =>
    cases h2 : unescL (escL a ++ b) with
    | none => rfl
    | some c =>
      have hc := (unescL_iff _ _).1 h2
      have key : ∀ (a c : List UInt8), escL c = escL a ++ b → ∃ d, c = a ++ d ∧ escL d = b := by
        intro a
        induction a with
        | nil => intro c hc; exact ⟨c, rfl, hc⟩
        | cons x t ih =>
          intro c hc
          have e : escL c = esc x ++ (escL t ++ b) := by rw [hc]; show (esc x ++ escL t) ++ b = _; rw [List.append_assoc]
          cases c with
          | nil =>
            have := (esc_len x).1
            have hl := congrArg List.length e
            rw [List.length_append] at hl
            have h0 : (escL []).length = 0 := rfl
            omega
          | cons y r =>
            have e2 : esc y ++ escL r = esc x ++ (escL t ++ b) := e
            have p1 : peek (esc y ++ escL r) = y := peek_esc y _
            rw [e2, peek_esc] at p1
            subst p1
            have e3 : escL r = escL t ++ b := List.append_cancel_left e2
            obtain ⟨d, rfl, hd⟩ := ih r e3
            exact ⟨d, rfl, hd⟩
      obtain ⟨d, _, hd⟩ := key a c hc
      rw [(unescL_iff _ _).2 hd] at h
      cases h

theorem unesc_end (s rest : ByteArray) (a : List UInt8) (h : s.data.toList = escL a ++ rest.data.toList) (hz : rest.size = 0) : unescL s.data.toList = some a := by
  have e : rest.data.toList = [] := List.length_eq_zero_iff.1 (by rw [list_len]; exact hz)
  rw [e, List.append_nil] at h
  exact (unescL_iff _ _).2 h.symm

theorem list_ne (rest : ByteArray) (hz : 0 < rest.size) : rest.data.toList ≠ [] := fun e => by
  have := list_len rest
  rw [e] at this
  simp at this
  omega

theorem unesc_stop (s rest : ByteArray) (a : List UInt8) (h : s.data.toList = escL a ++ rest.data.toList) (hz : 0 < rest.size) (hn : ¬ esc (peek rest.data.toList) = rest.data.toList.take (esc (peek rest.data.toList)).length) : unescL s.data.toList = none := by
  rw [h, unescL_append, unescL_step _ (list_ne rest hz), if_neg hn]
  rfl

theorem unesc_step (s rest : ByteArray) (a : List UInt8) (h : s.data.toList = escL a ++ rest.data.toList) (hy : esc (peek rest.data.toList) = rest.data.toList.take (esc (peek rest.data.toList)).length) :
    s.data.toList = escL (a ++ [peek rest.data.toList]) ++ (rest.extract (escB (peek rest.data.toList)).size rest.size).data.toList ∧ (escB (peek rest.data.toList)).size ≤ rest.size ∧ escB (peek rest.data.toList) = rest.extract 0 (escB (peek rest.data.toList)).size := by
  have hz : (escB (peek rest.data.toList)).size = (esc (peek rest.data.toList)).length := List.size_toArray
  rw [hz]
  have hl := list_len rest
  have hle : (esc (peek rest.data.toList)).length ≤ rest.size := by
    have h2 := congrArg List.length hy
    rw [List.length_take] at h2
    omega
  refine ⟨?_, hle, ?_⟩
  · have e : escL [peek rest.data.toList] = esc (peek rest.data.toList) := by simp [escL]
    rw [escL_append, e, List.append_assoc, extract_list, List.take_of_length_le (by rw [List.length_drop]; omega)]
    conv => rhs; rw [hy]
    generalize (esc (peek rest.data.toList)).length = n
    rw [List.length_take]
    by_cases hn : n ≤ rest.data.toList.length
    · rw [Nat.min_eq_left hn, List.take_append_drop]
      exact h
    · rw [Nat.min_eq_right (by omega), List.take_of_length_le (by omega), List.drop_of_length_le (by omega), List.append_nil]
      exact h
  · apply ba_ext
    rw [extract_list, List.drop_zero, Nat.sub_zero, ← hy]
    simp [escB]
theorem peek_one (s : ByteArray) (h : s.size = 1) : peek s.data.toList = s[0] := by
  have e := drop_cons s 0 (by omega)
  rw [List.drop_zero, List.drop_of_length_le (l := s.data.toList) (i := 0 + 1) (by rw [list_len]; omega)] at e
  rw [e]
  rfl

theorem peek_two (s : ByteArray) (h : 1 < s.size) : peek s.data.toList = if s[0] = 92 then (if s[1] = 116 then (9 : UInt8) else if s[1] = 110 then (10 : UInt8) else if s[1] = 114 then (13 : UInt8) else s[0]) else s[0] := by
  have e := drop_cons s 0 (by omega)
  have e1 := drop_cons s 1 h
  rw [List.drop_zero, Nat.zero_add, e1] at e
  rw [e]
  rfl

theorem peek_other (s : ByteArray) (h : 0 < s.size) (hne : s[0] ≠ 92) : peek s.data.toList = s[0] := by
  by_cases h1 : 1 < s.size
  · rw [peek_two s h1, if_neg hne]
  · exact peek_one s (by omega)

theorem u8_of_nat (c : UInt8) (n : Nat) (h : c.toNat = n) (hn : n < 256) : c = UInt8.ofNat n := by
  apply UInt8.toNat.inj
  rw [u8p n hn]
  exact h

set_option maxRecDepth 100000 in
set_option maxHeartbeats 3200000 in
theorem runescape_any (s : ByteArray) (w : World) (hs : s.size ≤ 140737488351232) :
    Calls Try.prog 24 #[.string s] w fun e w' => e = .returned (readV (unescL s.data.toList)) ∧ Below w.heap.size w w' := by
  go_enter Try.func24, Try.ntmps24
  go_wp2
  go_loopg [0, 4] s.size (fun gk str out wr => UnescAt s w.heap.size w gk str out wr)
  case atStart => exact ⟨[], s, rfl, rfl, by simp, rfl, RowB.nil _ _, Below.refl _ _, Nat.le_refl _⟩
  case round =>
    obtain ⟨a, rest, rfl, hgk, hlen, hsp, hrow, hbe, hsz⟩ := hrel
    have HSP := Lib.hid hsp
    have HRW := Lib.hid hrow
    have z1 : rest.size ≤ gk := by omega
    have z2 : gk ≤ rest.size := by omega
    clear hsp hrow hgk
    by_cases h0 : 0 < rest.size
    · have HST := Lib.hid (unesc_step s rest a HSP.out)
      have HNO := Lib.hid (unesc_stop s rest a HSP.out h0)
      have hcl : rest[0].toNat < 256 := rest[0].toNat_lt
      by_cases h92 : rest[0].toNat = 92
      · have hc0 : rest[0] = 92 := u8_of_nat _ 92 h92 (by decide)
        by_cases h1 : 1 < rest.size
        · have hcl1 : rest[1].toNat < 256 := rest[1].toNat_lt
          have hpk := peek_two rest h1
          rw [if_pos hc0] at hpk
          rcases (show rest[1].toNat = 116 ∨ rest[1].toNat = 110 ∨ rest[1].toNat = 114 ∨ (rest[1].toNat ≠ 116 ∧ rest[1].toNat ≠ 110 ∧ rest[1].toNat ≠ 114) from by omega) with k | k | k | ⟨k1, k2, k3⟩
          · have HP : Hid ((9 : Int) = ((peek rest.data.toList).toNat : Int)) := by show _ = _; rw [hpk, if_pos (show rest[1] = 116 from u8_of_nat _ 116 k (by decide))]; rfl
            clear hpk hc0
            go_wp2_with fail
            refine (rescaped_any (peek rest.data.toList) _ _ HP.out).mono ?_
            rintro _ w1 ⟨rfl, hb⟩
            have hb1 := hbe.trans (hb.mono hbe.size)
            have hs1 : w.heap.size ≤ w1.heap.size := Nat.le_trans hsz hb.size
            have HR1 := Lib.hid (HRW.out.keep hb)
            clear hb hbe HRW
            generalize hpk : peek rest.data.toList = c at *
            clear hpk
            by_cases hy : esc c = rest.data.toList.take (esc c).length
            · obtain ⟨q1, q2, q3⟩ := HST.out hy
              have Q1 := Lib.hid q1
              have HEQ := Lib.hid q3
              have e1 := (escB_size c).1
              have q5 : (rest.extract (escB c).size rest.size).size = rest.size - (escB c).size := by rw [ByteArray.size_extract]; omega
              have Q5 := Lib.hid q5
              have heq : ((rest.extract 0 (escB c).size).toList == (escB c).toList) = true := by rw [← q3]; simp
              have heq2 : (rest.extract 0 (escB c).size).toList = (escB c).toList := by rw [← q3]
              clear q1 q3 q5 HSP HST HNO hy
              go_wp2_with (at_builtin; refine wpList_push rfl _ _ rfl HR1.out HP.out rfl rfl (by omega) hs1 ?_; intro v' w2 hrow' hB' hsz')
              have hbe2 := hB' _ _ hb1 (Nat.le_refl _)
              have HR2 := Lib.hid hrow'
              clear hB' hrow' HR1 heq heq2
              go_wp2
              go_roundg (gk - (escB c).size)
              case measure => omega
              case rel => exact ⟨a ++ [c], rest.extract (escB c).size rest.size, rfl, by rw [Q5.out]; omega, by rw [List.length_append]; simp; omega, Q1.out, HR2.out, hbe2, hsz'⟩
            · have HE := Lib.hid (HNO.out hy)
              have hsl : rest.size < (escB c).size ∨ ((escB c).size ≤ rest.size ∧ rest.extract 0 (escB c).size ≠ escB c) := by
                by_cases h : (escB c).size ≤ rest.size
                · refine .inr ⟨h, fun e => hy ?_⟩
                  have hz : (escB c).size = (esc c).length := List.size_toArray
                  have h2 := congrArg (·.data.toList) e
                  simp only [extract_list, List.drop_zero, Nat.sub_zero] at h2
                  rw [hz] at h2
                  rw [h2]
                  simp [escB]
                · exact .inl (by omega)
              clear hy HST HNO HSP HR1
              rcases hsl with hlt | ⟨hle, hne⟩
              · go_wp2
                go_ret2
                rw [HE.out]
                exact ⟨rfl, hb1⟩
              · have heq : ((rest.extract 0 (escB c).size).toList == (escB c).toList) = false := by rw [eq_toList]; simpa using hne
                have heq2 : (rest.extract 0 (escB c).size).toList ≠ (escB c).toList := fun h => by rw [h] at heq; simp at heq
                clear hne
                go_wp2
                go_ret2
                rw [HE.out]
                exact ⟨rfl, hb1⟩
          · have HP : Hid ((10 : Int) = ((peek rest.data.toList).toNat : Int)) := by show _ = _; rw [hpk, if_neg (fun e => by rw [e] at k; revert k; decide), if_pos (show rest[1] = 110 from u8_of_nat _ 110 k (by decide))]; rfl
            clear hpk hc0
            go_wp2_with fail
            refine (rescaped_any (peek rest.data.toList) _ _ HP.out).mono ?_
            rintro _ w1 ⟨rfl, hb⟩
            have hb1 := hbe.trans (hb.mono hbe.size)
            have hs1 : w.heap.size ≤ w1.heap.size := Nat.le_trans hsz hb.size
            have HR1 := Lib.hid (HRW.out.keep hb)
            clear hb hbe HRW
            generalize hpk : peek rest.data.toList = c at *
            clear hpk
            by_cases hy : esc c = rest.data.toList.take (esc c).length
            · obtain ⟨q1, q2, q3⟩ := HST.out hy
              have Q1 := Lib.hid q1
              have HEQ := Lib.hid q3
              have e1 := (escB_size c).1
              have q5 : (rest.extract (escB c).size rest.size).size = rest.size - (escB c).size := by rw [ByteArray.size_extract]; omega
              have Q5 := Lib.hid q5
              have heq : ((rest.extract 0 (escB c).size).toList == (escB c).toList) = true := by rw [← q3]; simp
              have heq2 : (rest.extract 0 (escB c).size).toList = (escB c).toList := by rw [← q3]
              clear q1 q3 q5 HSP HST HNO hy
              go_wp2_with (at_builtin; refine wpList_push rfl _ _ rfl HR1.out HP.out rfl rfl (by omega) hs1 ?_; intro v' w2 hrow' hB' hsz')
              have hbe2 := hB' _ _ hb1 (Nat.le_refl _)
              have HR2 := Lib.hid hrow'
              clear hB' hrow' HR1 heq heq2
              go_wp2
              go_roundg (gk - (escB c).size)
              case measure => omega
              case rel => exact ⟨a ++ [c], rest.extract (escB c).size rest.size, rfl, by rw [Q5.out]; omega, by rw [List.length_append]; simp; omega, Q1.out, HR2.out, hbe2, hsz'⟩
            · have HE := Lib.hid (HNO.out hy)
              have hsl : rest.size < (escB c).size ∨ ((escB c).size ≤ rest.size ∧ rest.extract 0 (escB c).size ≠ escB c) := by
                by_cases h : (escB c).size ≤ rest.size
                · refine .inr ⟨h, fun e => hy ?_⟩
                  have hz : (escB c).size = (esc c).length := List.size_toArray
                  have h2 := congrArg (·.data.toList) e
                  simp only [extract_list, List.drop_zero, Nat.sub_zero] at h2
                  rw [hz] at h2
                  rw [h2]
                  simp [escB]
                · exact .inl (by omega)
              clear hy HST HNO HSP HR1
              rcases hsl with hlt | ⟨hle, hne⟩
              · go_wp2
                go_ret2
                rw [HE.out]
                exact ⟨rfl, hb1⟩
              · have heq : ((rest.extract 0 (escB c).size).toList == (escB c).toList) = false := by rw [eq_toList]; simpa using hne
                have heq2 : (rest.extract 0 (escB c).size).toList ≠ (escB c).toList := fun h => by rw [h] at heq; simp at heq
                clear hne
                go_wp2
                go_ret2
                rw [HE.out]
                exact ⟨rfl, hb1⟩
          · have HP : Hid ((13 : Int) = ((peek rest.data.toList).toNat : Int)) := by show _ = _; rw [hpk, if_neg (fun e => by rw [e] at k; revert k; decide), if_neg (fun e => by rw [e] at k; revert k; decide), if_pos (show rest[1] = 114 from u8_of_nat _ 114 k (by decide))]; rfl
            clear hpk hc0
            go_wp2_with fail
            refine (rescaped_any (peek rest.data.toList) _ _ HP.out).mono ?_
            rintro _ w1 ⟨rfl, hb⟩
            have hb1 := hbe.trans (hb.mono hbe.size)
            have hs1 : w.heap.size ≤ w1.heap.size := Nat.le_trans hsz hb.size
            have HR1 := Lib.hid (HRW.out.keep hb)
            clear hb hbe HRW
            generalize hpk : peek rest.data.toList = c at *
            clear hpk
            by_cases hy : esc c = rest.data.toList.take (esc c).length
            · obtain ⟨q1, q2, q3⟩ := HST.out hy
              have Q1 := Lib.hid q1
              have HEQ := Lib.hid q3
              have e1 := (escB_size c).1
              have q5 : (rest.extract (escB c).size rest.size).size = rest.size - (escB c).size := by rw [ByteArray.size_extract]; omega
              have Q5 := Lib.hid q5
              have heq : ((rest.extract 0 (escB c).size).toList == (escB c).toList) = true := by rw [← q3]; simp
              have heq2 : (rest.extract 0 (escB c).size).toList = (escB c).toList := by rw [← q3]
              clear q1 q3 q5 HSP HST HNO hy
              go_wp2_with (at_builtin; refine wpList_push rfl _ _ rfl HR1.out HP.out rfl rfl (by omega) hs1 ?_; intro v' w2 hrow' hB' hsz')
              have hbe2 := hB' _ _ hb1 (Nat.le_refl _)
              have HR2 := Lib.hid hrow'
              clear hB' hrow' HR1 heq heq2
              go_wp2
              go_roundg (gk - (escB c).size)
              case measure => omega
              case rel => exact ⟨a ++ [c], rest.extract (escB c).size rest.size, rfl, by rw [Q5.out]; omega, by rw [List.length_append]; simp; omega, Q1.out, HR2.out, hbe2, hsz'⟩
            · have HE := Lib.hid (HNO.out hy)
              have hsl : rest.size < (escB c).size ∨ ((escB c).size ≤ rest.size ∧ rest.extract 0 (escB c).size ≠ escB c) := by
                by_cases h : (escB c).size ≤ rest.size
                · refine .inr ⟨h, fun e => hy ?_⟩
                  have hz : (escB c).size = (esc c).length := List.size_toArray
                  have h2 := congrArg (·.data.toList) e
                  simp only [extract_list, List.drop_zero, Nat.sub_zero] at h2
                  rw [hz] at h2
                  rw [h2]
                  simp [escB]
                · exact .inl (by omega)
              clear hy HST HNO HSP HR1
              rcases hsl with hlt | ⟨hle, hne⟩
              · go_wp2
                go_ret2
                rw [HE.out]
                exact ⟨rfl, hb1⟩
              · have heq : ((rest.extract 0 (escB c).size).toList == (escB c).toList) = false := by rw [eq_toList]; simpa using hne
                have heq2 : (rest.extract 0 (escB c).size).toList ≠ (escB c).toList := fun h => by rw [h] at heq; simp at heq
                clear hne
                go_wp2
                go_ret2
                rw [HE.out]
                exact ⟨rfl, hb1⟩
          · have HP : Hid ((92 : Int) = ((peek rest.data.toList).toNat : Int)) := by show _ = _; rw [hpk, if_neg (fun e => by rw [e] at k1; exact k1 rfl), if_neg (fun e => by rw [e] at k2; exact k2 rfl), if_neg (fun e => by rw [e] at k3; exact k3 rfl), h92]; rfl
            clear hpk hc0
            go_wp2_with fail
            refine (rescaped_any (peek rest.data.toList) _ _ HP.out).mono ?_
            rintro _ w1 ⟨rfl, hb⟩
            have hb1 := hbe.trans (hb.mono hbe.size)
            have hs1 : w.heap.size ≤ w1.heap.size := Nat.le_trans hsz hb.size
            have HR1 := Lib.hid (HRW.out.keep hb)
            clear hb hbe HRW
            generalize hpk : peek rest.data.toList = c at *
            clear hpk
            by_cases hy : esc c = rest.data.toList.take (esc c).length
            · obtain ⟨q1, q2, q3⟩ := HST.out hy
              have Q1 := Lib.hid q1
              have HEQ := Lib.hid q3
              have e1 := (escB_size c).1
              have q5 : (rest.extract (escB c).size rest.size).size = rest.size - (escB c).size := by rw [ByteArray.size_extract]; omega
              have Q5 := Lib.hid q5
              have heq : ((rest.extract 0 (escB c).size).toList == (escB c).toList) = true := by rw [← q3]; simp
              have heq2 : (rest.extract 0 (escB c).size).toList = (escB c).toList := by rw [← q3]
              clear q1 q3 q5 HSP HST HNO hy
              go_wp2_with (at_builtin; refine wpList_push rfl _ _ rfl HR1.out HP.out rfl rfl (by omega) hs1 ?_; intro v' w2 hrow' hB' hsz')
              have hbe2 := hB' _ _ hb1 (Nat.le_refl _)
              have HR2 := Lib.hid hrow'
              clear hB' hrow' HR1 heq heq2
              go_wp2
              go_roundg (gk - (escB c).size)
              case measure => omega
              case rel => exact ⟨a ++ [c], rest.extract (escB c).size rest.size, rfl, by rw [Q5.out]; omega, by rw [List.length_append]; simp; omega, Q1.out, HR2.out, hbe2, hsz'⟩
            · have HE := Lib.hid (HNO.out hy)
              have hsl : rest.size < (escB c).size ∨ ((escB c).size ≤ rest.size ∧ rest.extract 0 (escB c).size ≠ escB c) := by
                by_cases h : (escB c).size ≤ rest.size
                · refine .inr ⟨h, fun e => hy ?_⟩
                  have hz : (escB c).size = (esc c).length := List.size_toArray
                  have h2 := congrArg (·.data.toList) e
                  simp only [extract_list, List.drop_zero, Nat.sub_zero] at h2
                  rw [hz] at h2
                  rw [h2]
                  simp [escB]
                · exact .inl (by omega)
              clear hy HST HNO HSP HR1
              rcases hsl with hlt | ⟨hle, hne⟩
              · go_wp2
                go_ret2
                rw [HE.out]
                exact ⟨rfl, hb1⟩
              · have heq : ((rest.extract 0 (escB c).size).toList == (escB c).toList) = false := by rw [eq_toList]; simpa using hne
                have heq2 : (rest.extract 0 (escB c).size).toList ≠ (escB c).toList := fun h => by rw [h] at heq; simp at heq
                clear hne
                go_wp2
                go_ret2
                rw [HE.out]
                exact ⟨rfl, hb1⟩
        · have HP : Hid ((92 : Int) = ((peek rest.data.toList).toNat : Int)) := by show _ = _; rw [peek_one rest (by omega), h92]; rfl
          clear hc0
          go_wp2_with fail
          refine (rescaped_any (peek rest.data.toList) _ _ HP.out).mono ?_
          rintro _ w1 ⟨rfl, hb⟩
          have hb1 := hbe.trans (hb.mono hbe.size)
          have hs1 : w.heap.size ≤ w1.heap.size := Nat.le_trans hsz hb.size
          have HR1 := Lib.hid (HRW.out.keep hb)
          clear hb hbe HRW
          generalize hpk : peek rest.data.toList = c at *
          clear hpk
          by_cases hy : esc c = rest.data.toList.take (esc c).length
          · obtain ⟨q1, q2, q3⟩ := HST.out hy
            have Q1 := Lib.hid q1
            have HEQ := Lib.hid q3
            have e1 := (escB_size c).1
            have q5 : (rest.extract (escB c).size rest.size).size = rest.size - (escB c).size := by rw [ByteArray.size_extract]; omega
            have Q5 := Lib.hid q5
            have heq : ((rest.extract 0 (escB c).size).toList == (escB c).toList) = true := by rw [← q3]; simp
            have heq2 : (rest.extract 0 (escB c).size).toList = (escB c).toList := by rw [← q3]
            clear q1 q3 q5 HSP HST HNO hy
            go_wp2_with (at_builtin; refine wpList_push rfl _ _ rfl HR1.out HP.out rfl rfl (by omega) hs1 ?_; intro v' w2 hrow' hB' hsz')
            have hbe2 := hB' _ _ hb1 (Nat.le_refl _)
            have HR2 := Lib.hid hrow'
            clear hB' hrow' HR1 heq heq2
            go_wp2
            go_roundg (gk - (escB c).size)
            case measure => omega
            case rel => exact ⟨a ++ [c], rest.extract (escB c).size rest.size, rfl, by rw [Q5.out]; omega, by rw [List.length_append]; simp; omega, Q1.out, HR2.out, hbe2, hsz'⟩
          · have HE := Lib.hid (HNO.out hy)
            have hsl : rest.size < (escB c).size ∨ ((escB c).size ≤ rest.size ∧ rest.extract 0 (escB c).size ≠ escB c) := by
              by_cases h : (escB c).size ≤ rest.size
              · refine .inr ⟨h, fun e => hy ?_⟩
                have hz : (escB c).size = (esc c).length := List.size_toArray
                have h2 := congrArg (·.data.toList) e
                simp only [extract_list, List.drop_zero, Nat.sub_zero] at h2
                rw [hz] at h2
                rw [h2]
                simp [escB]
              · exact .inl (by omega)
            clear hy HST HNO HSP HR1
            rcases hsl with hlt | ⟨hle, hne⟩
            · go_wp2
              go_ret2
              rw [HE.out]
              exact ⟨rfl, hb1⟩
            · have heq : ((rest.extract 0 (escB c).size).toList == (escB c).toList) = false := by rw [eq_toList]; simpa using hne
              have heq2 : (rest.extract 0 (escB c).size).toList ≠ (escB c).toList := fun h => by rw [h] at heq; simp at heq
              clear hne
              go_wp2
              go_ret2
              rw [HE.out]
              exact ⟨rfl, hb1⟩
      · have HP : Hid ((rest[0].toNat : Int) = ((peek rest.data.toList).toNat : Int)) := by
          show _ = _
          rw [peek_other rest h0 (fun e => h92 (by rw [e]; rfl))]
        go_wp2_with fail
        refine (rescaped_any (peek rest.data.toList) _ _ HP.out).mono ?_
        rintro _ w1 ⟨rfl, hb⟩
        have hb1 := hbe.trans (hb.mono hbe.size)
        have hs1 : w.heap.size ≤ w1.heap.size := Nat.le_trans hsz hb.size
        have HR1 := Lib.hid (HRW.out.keep hb)
        clear hb hbe HRW
        generalize hpk : peek rest.data.toList = c at *
        clear hpk
        by_cases hy : esc c = rest.data.toList.take (esc c).length
        · obtain ⟨q1, q2, q3⟩ := HST.out hy
          have Q1 := Lib.hid q1
          have HEQ := Lib.hid q3
          have e1 := (escB_size c).1
          have q5 : (rest.extract (escB c).size rest.size).size = rest.size - (escB c).size := by rw [ByteArray.size_extract]; omega
          have Q5 := Lib.hid q5
          have heq : ((rest.extract 0 (escB c).size).toList == (escB c).toList) = true := by rw [← q3]; simp
          have heq2 : (rest.extract 0 (escB c).size).toList = (escB c).toList := by rw [← q3]
          clear q1 q3 q5 HSP HST HNO hy
          go_wp2_with (at_builtin; refine wpList_push rfl _ _ rfl HR1.out HP.out rfl rfl (by omega) hs1 ?_; intro v' w2 hrow' hB' hsz')
          have hbe2 := hB' _ _ hb1 (Nat.le_refl _)
          have HR2 := Lib.hid hrow'
          clear hB' hrow' HR1 heq heq2
          go_wp2
          go_roundg (gk - (escB c).size)
          case measure => omega
          case rel => exact ⟨a ++ [c], rest.extract (escB c).size rest.size, rfl, by rw [Q5.out]; omega, by rw [List.length_append]; simp; omega, Q1.out, HR2.out, hbe2, hsz'⟩
        · have HE := Lib.hid (HNO.out hy)
          have hsl : rest.size < (escB c).size ∨ ((escB c).size ≤ rest.size ∧ rest.extract 0 (escB c).size ≠ escB c) := by
            by_cases h : (escB c).size ≤ rest.size
            · refine .inr ⟨h, fun e => hy ?_⟩
              have hz : (escB c).size = (esc c).length := List.size_toArray
              have h2 := congrArg (·.data.toList) e
              simp only [extract_list, List.drop_zero, Nat.sub_zero] at h2
              rw [hz] at h2
              rw [h2]
              simp [escB]
            · exact .inl (by omega)
          clear hy HST HNO HSP HR1
          rcases hsl with hlt | ⟨hle, hne⟩
          · go_wp2
            go_ret2
            rw [HE.out]
            exact ⟨rfl, hb1⟩
          · have heq : ((rest.extract 0 (escB c).size).toList == (escB c).toList) = false := by rw [eq_toList]; simpa using hne
            have heq2 : (rest.extract 0 (escB c).size).toList ≠ (escB c).toList := fun h => by rw [h] at heq; simp at heq
            clear hne
            go_wp2
            go_ret2
            rw [HE.out]
            exact ⟨rfl, hb1⟩
    · have HE := Lib.hid (unesc_end s rest a HSP.out (by omega))
      have hcv := HRW.out.back
      clear HSP HRW
      go_wp2
      go_ret2
      rw [HE.out]
      exact ⟨rfl, hbe⟩
end Go.Proofs.Yteoailanpmkcfaa
