/-
  The document's own answers (package cracknelref11): Parents: a contract.
-/
import Derived.Test.YtlcnnkameflidaaDoorHosRefM
namespace Go.Proofs.YtlcnnkameflidaaDoor
open Go.RowKit
set_option linter.unusedVariables false

theorem rowS_one (w : World) (base : Nat) (hb : base ≤ w.heap.size) (s : ByteArray) : RowS (w.alloc (.cells #[.string s] 9)) base (.slice (some ⟨w.heap.size, 0, none⟩) 1 1) [s] :=
  ⟨rfl, .inr ⟨w.heap.size, 1, #[.string s], rfl, hb, heap_alloc_new w _, Nat.le_refl _, by decide, rfl, rfl⟩⟩

theorem tails_here (s : ByteArray) (had : List (List UInt8)) (k : Nat) (hk : k < s.size) (h9 : s[k] = 46) (h : tailsL s.data.toList = had ++ tailsL (s.data.toList.drop k)) :
    tailsL s.data.toList = (had ++ [(s.extract (k + 1) s.size).data.toList]) ++ tailsL (s.data.toList.drop (k + 1)) := by
  rw [h, drop_cons s k hk, h9, tail_list]
  show had ++ (if (46 : UInt8) = 46 then s.data.toList.drop (k + 1) :: tailsL (s.data.toList.drop (k + 1)) else _) = _
  rw [if_pos rfl, List.append_assoc]
  rfl
theorem tails_else (s : ByteArray) (had : List (List UInt8)) (k : Nat) (hk : k < s.size) (h9 : s[k] ≠ 46) (h : tailsL s.data.toList = had ++ tailsL (s.data.toList.drop k)) :
    tailsL s.data.toList = had ++ tailsL (s.data.toList.drop (k + 1)) := by
  rw [h, drop_cons s k hk]
  show had ++ (if s[k] = 46 then _ else _) = _
  rw [if_neg h9]
theorem tails_last (s : ByteArray) (had : List (List UInt8)) (k : Nat) (hk : s.size ≤ k) (h : tailsL s.data.toList = had ++ tailsL (s.data.toList.drop k)) : tailsL s.data.toList = had := by
  rw [h, List.drop_eq_nil_of_le (by rw [list_len]; exact hk)]
  show had ++ [] = had
  rw [List.append_nil]

theorem parents_ip (s : ByteArray) (h : ipB s.data.toList = true) : ofLs (parentsL s.data.toList) = [s] := by
  unfold parentsL
  rw [if_pos h]
  show [ofL s.data.toList] = [s]
  rw [ofL_list]
theorem parents_not (s : ByteArray) (h : ipB s.data.toList = false) : ofLs (parentsL s.data.toList) = s :: ofLs (tailsL s.data.toList) := by
  unfold parentsL
  rw [if_neg (by rw [h]; decide)]
  show ofL s.data.toList :: _ = _
  rw [ofL_list]
  rfl

def ParAt (s : ByteArray) (g : Nat) (w0 : World) (gk : Nat) (out i : Value) (wr : World) : Prop :=
  ∃ (had : List (List UInt8)) (k : Nat), i = .int .i64 (k : Int) ∧ k + gk = s.size + 1 ∧ 1 ≤ gk ∧ had.length ≤ k ∧ tailsL s.data.toList = had ++ tailsL (s.data.toList.drop k) ∧ RowS wr g out (s :: ofLs had) ∧ Below g w0 wr ∧ g ≤ wr.heap.size

set_option maxRecDepth 100000 in
set_option maxHeartbeats 1600000 in
theorem rparents_any (s : ByteArray) (w : World) (hs : s.size ≤ 100000) :
    Calls Tryd.prog 19 #[.string s] w fun e w' => (∃ v, e = .returned v ∧ StrsAt w' v (ofLs (parentsL s.data.toList))) ∧ Below w.heap.size w w' := by
  have HI := Lib.hid (rip_any s · hs)
  obtain ⟨p, hp⟩ : ∃ p, p = ipB s.data.toList := ⟨_, rfl⟩
  rw [← hp] at HI
  have HP := Lib.hid hp
  have hb0 := (Below.refl w.heap.size w).alloc (Nat.le_refl _) (.cells #[.string s] 9)
  have hr0 := rowS_one w w.heap.size (Nat.le_refl _) s
  clear hp
  go_enter Tryd.func19, Tryd.ntmps19
  go_wp2_with fail
  refine (HI.out _).mono ?_
  rintro _ w1 ⟨rfl, hb⟩
  have hb1 := chain hb0 hb
  have hr1 := hr0.keep hb
  have HR := Lib.hid hr1
  clear hb hb0 hr0 hr1
  cases p
  · have HQ := Lib.hid (parents_not s HP.out.symm)
    go_wp2_with fail
    go_loopg [3, 4] (s.size + 1) (fun gk out i wr => ParAt s w.heap.size w gk out i wr)
    case atStart => exact ⟨[], 0, rfl, by omega, by omega, Nat.le_refl _, by simp, HR.out, hb1, hb1.size⟩
    case round =>
      clear HR hb1
      obtain ⟨had, k, rfl, hk, hg, hhl, hinv, hrow, hbe, hsz⟩ := hrel
      have HIN := Lib.hid hinv
      have HR := Lib.hid hrow
      have hol : (s :: ofLs had).length = had.length + 1 := by simp [ofLs]
      clear hinv hrow
      by_cases hlt : k < s.size
      · by_cases h9 : s[k] = 46
        · have HN := Lib.hid (tails_here s had k hlt h9 HIN.out)
          have hi := u8_is h9 46 rfl
          clear HIN h9
          go_wp2_with (at_builtin; refine wpList_pushS rfl _ _ rfl HR.out rfl rfl (by omega) hsz ?_; intro v' w2 hrow' hB' hsz')
          have hbe2 := hB' _ _ hbe (Nat.le_refl _)
          rw [List.cons_append, ← ofLs_snoc] at hrow'
          have HR2 := Lib.hid hrow'
          clear hB' hrow' HR
          go_wp2
          go_roundg (gk - 1)
          case measure => omega
          case rel => exact ⟨_, k + 1, by go_num, by omega, by omega, by rw [List.length_append]; simp; omega, HN.out, HR2.out, hbe2, hsz'⟩
        · have HN := Lib.hid (tails_else s had k hlt h9 HIN.out)
          have hi := u8_isnt h9 46 rfl
          clear HIN h9
          go_wp2
          go_roundg (gk - 1)
          case measure => omega
          case rel => exact ⟨had, k + 1, by go_num, by omega, by omega, by omega, HN.out, HR.out, hbe, hsz⟩
      · have HN := Lib.hid (tails_last s had k (by omega) HIN.out)
        have HS := Lib.hid HR.out.strs
        clear HIN
        go_wp2
        go_ret
        exact ⟨⟨_, rfl, by rw [HQ.out, HN.out]; exact HS.out⟩, hbe⟩
  · have HQ := Lib.hid (parents_ip s HP.out.symm)
    have HS := Lib.hid HR.out.strs
    clear HR
    go_wp2
    go_ret
    exact ⟨⟨_, rfl, by rw [HQ.out]; exact HS.out⟩, hb1⟩
end Go.Proofs.YtlcnnkameflidaaDoor
