/-
  Package path: the closure that tells which bytes end a part, and the part ahead of such a byte: contracts.
-/
import Derived.Test.YthempdglmhmfeaaDoorPatUrl
import Derived.BigQuiet
namespace Go.Proofs.YthempdglmhmfeaaDoor
open Go.RowKit
set_option linter.unusedVariables false

/-- The bytes lie in block r. -/
def EndsIn (w : World) (r : Nat) (L : List UInt8) : Prop := ∀ i (h : i < L.length), w.cell? ⟨r, i, none⟩ = some (.int .u8 (L[i].toNat : Int))

theorem EndsIn.keep {w w' : World} {r : Nat} {L : List UInt8} (h : EndsIn w r L) (hb : Below w.heap.size w w') : EndsIn w' r L := fun i hi => by
  rw [hb.cell (World.block_lt_of_cell? w _ (h i hi))]
  exact h i hi

set_option maxHeartbeats 400000 in
theorem ends1_any (c : UInt8) (b r : Nat) (L : List UInt8) (w : World) (hc : w.cell? ⟨b, 0, none⟩ = some (.slice (some ⟨r, 0, none⟩) L.length L.length))
    (hL : EndsIn w r L) (hl : L.length ≤ 100) :
    Calls Tryd.prog 40 #[.int .u8 (c.toNat : Int), .pointer (some ⟨b, 0, none⟩)] w fun e w' => e = .returned (.bool (L.contains c)) ∧ w = w' := by
  go_enter Tryd.func40, Tryd.ntmps40
  go_wp2
  go_loop [8] (fun i => ∃ k : Nat, k ≤ L.length ∧ i = .int .i64 k ∧ (L.take k).contains c = false) (fun i => L.length - (intOf i).toNat)
  case atStart => exact ⟨0, Nat.zero_le _, rfl, by simp⟩
  case round =>
    obtain ⟨k, hk, rfl, hno⟩ := hrel
    have Hno := Lib.hid hno
    clear hno
    by_cases hlt : k < L.length
    · have c1 := hL k hlt
      obtain ⟨d, hd⟩ : ∃ d, L[k] = d := ⟨_, rfl⟩
      rw [hd] at c1
      by_cases hcd : c = d
      · have HV : Hid (L.contains c = true) := by
          show _ = _
          rw [hcd, ← hd]
          simp
        subst hcd
        clear hd
        go_wp2
        go_ret
        exact ⟨ret_bool (by rw [← List.contains_eq_mem]; exact HV.out.symm), rfl⟩
      · have hn : ¬ ((c.toNat : Int) = (d.toNat : Int)) := fun e => hcd (UInt8.toNat_inj.1 (by omega))
        have hq : ((c.toNat : Int) == (d.toNat : Int)) = false := beq_eq_false_iff_ne.2 hn
        have HS : Hid ((L.take (k + 1)).contains c = false) := by
          show _ = _
          rw [List.take_succ_eq_append_getElem hlt, hd]
          have := Hno.out
          simp only [List.contains_eq_mem, decide_eq_false_iff_not] at this ⊢
          simp only [List.mem_append, List.mem_singleton, not_or]
          exact ⟨this, hcd⟩
        clear hd hcd
        go_wp2
        go_round
        case rel => exact ⟨k + 1, by omega, by go_num, HS.out⟩
        case measure => simp [intOf]; omega
    · have e : k = L.length := by omega
      subst e
      have HV : Hid (L.contains c = false) := by
        show _ = _
        have := Hno.out
        rw [List.take_length] at this
        exact this
      go_wp2
      go_ret
      exact ⟨ret_bool (by rw [← List.contains_eq_mem]; exact HV.out.symm), rfl⟩

theorem oneof_any (w : World) (a : Option Addr) (n m : Nat) :
    Calls Tryd.prog 28 #[.slice a n m] w fun e w' => e = .returned (.func (.func 40) #[] #[.pointer (some ⟨w.heap.size, 0, none⟩)]) ∧ w' = w.alloc (.cells #[.slice a n m] 53) := by
  go_enter Tryd.func28, Tryd.ntmps28
  go_wp2
  go_ret
  exact ⟨rfl, rfl⟩

theorem ends_list (c : UInt8) : ([47, 63, 35] : List UInt8).contains c = endsC c := by
  unfold endsC asksC
  rw [Bool.eq_iff_iff]
  simp
theorem asks_list (c : UInt8) : ([63, 35] : List UInt8).contains c = asksC c := by
  unfold asksC
  rw [Bool.eq_iff_iff]
  simp

theorem call40 (args : Array Value) (w : World) : Sem.run Tryd.prog (callFunc 40 args) w = .ok (.enter 40 args) w := by go_simp

/-- What part answers. -/
def partV (p : UInt8 → Bool) (s : ByteArray) : Value := .tuple #[.string ⟨(untilL p s.data.toList).toArray⟩, .string ⟨(s.data.toList.drop (untilL p s.data.toList).length).toArray⟩]

theorem partV_at (p : UInt8 → Bool) (s : ByteArray) (k : Nat) (hk : k ≤ s.size) (h : untilL p s.data.toList = (s.extract 0 k).data.toList) : partV p s = .tuple #[.string (s.extract 0 k), .string (s.extract k s.size)] := by
  have e1 : (⟨(untilL p s.data.toList).toArray⟩ : ByteArray) = s.extract 0 k := ba_ext (by rw [h])
  have e2 : (⟨(s.data.toList.drop (untilL p s.data.toList).length).toArray⟩ : ByteArray) = s.extract k s.size := by
    apply ba_ext
    show s.data.toList.drop _ = _
    rw [h, extract_list, extract_list, List.drop_zero, List.length_take, list_len, List.take_of_length_le (by rw [List.length_drop, list_len]; omega)]
    congr 1
    omega
  unfold partV
  rw [e1, e2]

theorem part_all (p : UInt8 → Bool) (s : ByteArray) (h : untilL p s.data.toList = (s.extract 0 s.size).data.toList) : partV p s = .tuple #[.string s, .string ByteArray.empty] := by
  rw [partV_at p s s.size (Nat.le_refl _) h]
  have e1 : s.extract 0 s.size = s := ba_ext (by rw [extract_list, List.drop_zero, Nat.sub_zero]; exact List.take_of_length_le (by rw [list_len]; exact Nat.le_refl _))
  have e2 : s.extract s.size s.size = ByteArray.empty := ba_ext (by rw [extract_list, Nat.sub_self, List.take_zero]; rfl)
  rw [e1, e2]

set_option maxRecDepth 100000 in
set_option maxHeartbeats 1600000 in
theorem part_any (b : Nat) (p : UInt8 → Bool) (s : ByteArray) (w : World) (hs : s.size ≤ 1000000000000)
    (hp : ∀ c : UInt8, Calls Tryd.prog 40 #[.int .u8 (c.toNat : Int), .pointer (some ⟨b, 0, none⟩)] w fun e w' => e = .returned (.bool (p c)) ∧ w = w') :
    Calls Tryd.prog 27 #[.string s, .func (.func 40) #[] #[.pointer (some ⟨b, 0, none⟩)]] w fun e w' => e = .returned (partV p s) ∧ Below w.heap.size w w' := by
  have HP := Lib.hid hp
  clear hp
  go_enter Tryd.func27, Tryd.ntmps27
  go_wp2
  go_loopg [9] (s.size + 1) (fun gk i wr => FarAt p s 0 w gk i wr)
  case atStart => exact ⟨0, rfl, by omega, by omega, Nat.le_refl _, by simp, rfl⟩
  case round =>
    obtain ⟨k, rfl, hk, hg1, hf, hno, rfl⟩ := hrel
    have HNO := Lib.hid hno
    clear hno
    by_cases hlt : k < s.size
    · have hki : (k : Int) < (s.size : Int) := by omega
      have HK := Lib.hid (HP.out s[k])
      obtain ⟨q, hq⟩ : ∃ q, p s[k] = q := ⟨_, rfl⟩
      rw [hq] at HK
      cases q
      · have HS := Lib.hid (far_step p s 0 k hf hlt HNO.out hq)
        clear hq
        go_wp2_with fail
        refine (HK.out).mono ?_
        rintro _ wz ⟨rfl, rfl⟩
        go_wp2
        go_roundg (gk - 1)
        case measure => omega
        case rel => exact ⟨k + 1, by go_num, by omega, by omega, by omega, HS.out, rfl⟩
      · have HS := Lib.hid (far_done p s 0 k hf HNO.out (.inr ⟨hlt, hq⟩))
        have HV := Lib.hid (partV_at p s k (by omega) (by have := HS.out; rw [List.drop_zero] at this; exact this))
        clear hq
        go_wp2_with fail
        refine (HK.out).mono ?_
        rintro _ wz ⟨rfl, rfl⟩
        go_wp2
        go_quiet (fail)
        go_wp2
        go_ret2
        exact ⟨congrArg Ending.returned HV.out.symm, below_drewN (Below.refl _ _) _⟩
    · have hki : ¬ (k : Int) < (s.size : Int) := by omega
      have e : k = s.size := by omega
      have HS := Lib.hid (far_done p s 0 k hf HNO.out (.inl (by omega)))
      have HV := Lib.hid (part_all p s (by have := HS.out; rw [List.drop_zero, e] at this; exact this))
      go_wp2
      go_ret2
      exact ⟨congrArg Ending.returned HV.out.symm, Below.refl _ _⟩
end Go.Proofs.YthempdglmhmfeaaDoor
