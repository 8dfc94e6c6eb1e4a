/-
  The document's own answers (package cracknelref11): Parts: a contract.
-/
import Derived.Test.YthempdglmhmfeaaDoorHosMath
import Derived.Test.YthempdglmhmfeaaDoorBaseOfL
namespace Go.Proofs.YthempdglmhmfeaaDoor
open Go.RowKit
set_option linter.unusedVariables false

def DotsAt (s : ByteArray) (g : Nat) (w0 : World) (out fr i : Value) (wr : World) : Prop :=
  ∃ (had : List (List UInt8)) (f k : Nat), f ≤ k ∧ k ≤ s.size ∧ fr = .int .i64 (f : Int) ∧ i = .int .i64 (k : Int) ∧ had.length ≤ f ∧ dotsL s.data.toList = had ++ dotG (s.extract f k).data.toList (s.data.toList.drop k) ∧ RowS wr g out (ofLs had) ∧ Below g w0 wr ∧ g ≤ wr.heap.size

theorem dots_here (s : ByteArray) (had : List (List UInt8)) (f k : Nat) (hf : f ≤ k) (hk : k < s.size) (h9 : s[k] = 46) (h : dotsL s.data.toList = had ++ dotG (s.extract f k).data.toList (s.data.toList.drop k)) :
    dotsL s.data.toList = (had ++ [(s.extract f k).data.toList]) ++ dotG (s.extract (k + 1) (k + 1)).data.toList (s.data.toList.drop (k + 1)) := by
  rw [h, drop_cons s k hk, h9, dotG_dot, ext_none, List.append_assoc]
  rfl
theorem dots_else (s : ByteArray) (had : List (List UInt8)) (f k : Nat) (hf : f ≤ k) (hk : k < s.size) (h9 : s[k] ≠ 46) (h : dotsL s.data.toList = had ++ dotG (s.extract f k).data.toList (s.data.toList.drop k)) :
    dotsL s.data.toList = had ++ dotG (s.extract f (k + 1)).data.toList (s.data.toList.drop (k + 1)) := by
  rw [h, drop_cons s k hk, dotG_else _ _ _ h9, ext_snoc s f k hf hk]
theorem dots_last (s : ByteArray) (had : List (List UInt8)) (f k : Nat) (hk : s.size ≤ k) (h : dotsL s.data.toList = had ++ dotG (s.extract f k).data.toList (s.data.toList.drop k)) :
    dotsL s.data.toList = had ++ [(s.extract f k).data.toList] := by
  rw [h, List.drop_eq_nil_of_le (by rw [list_len]; exact hk)]
  rfl

set_option maxRecDepth 100000 in
set_option maxHeartbeats 800000 in
theorem rdots_any (s : ByteArray) (w : World) (hs : s.size ≤ 1000000000000) :
    Calls Tryd.prog 46 #[.string s] w fun e w' => (∃ v, e = .returned v ∧ StrsAt w' v (ofLs (dotsL s.data.toList))) ∧ Below w.heap.size w w' := by
  go_enter Tryd.func46, Tryd.ntmps46
  go_wp2
  go_loopw [3, 4, 5] (fun out fr i wr => DotsAt s w.heap.size w out fr i wr) (fun _ _ i _ => s.size - (intOf i).toNat)
  case atStart => exact ⟨[], 0, 0, by omega, by omega, rfl, rfl, by simp, by rw [ext_none]; rfl, RowS.nil _ _, Below.refl _ _, Nat.le_refl _⟩
  case round =>
    obtain ⟨had, f, k, hf, hk, rfl, rfl, hhl, hinv, hrow, hbe, hsz⟩ := hrel
    have HI := Lib.hid hinv
    have HR := Lib.hid hrow
    have hol : (ofLs had).length = had.length := List.length_map _
    clear hinv hrow
    by_cases hlt : k < s.size
    · by_cases h9 : s[k] = 46
      · have HN := Lib.hid (dots_here s had f k hf hlt h9 HI.out)
        have hi := u8_is h9 46 rfl
        clear HI h9
        go_wp2_with (at_builtin; refine wpList_pushS rfl _ _ rfl HR.out rfl rfl (by omega) hsz ?_; intro v' w2 hrow' hB' hsz')
        have hbe2 := hB' _ _ hbe (Nat.le_refl _)
        rw [← ofLs_snoc] at hrow'
        have HR2 := Lib.hid hrow'
        clear hB' hrow' HR
        go_wp2
        go_roundw
        case rel => exact ⟨_, k + 1, k + 1, by omega, by omega, by go_num, by go_num, by rw [List.length_append]; simp; omega, HN.out, HR2.out, hbe2, hsz'⟩
        case measure => simp [intOf]; omega
      · have HN := Lib.hid (dots_else s had f k hf hlt h9 HI.out)
        have hi := u8_isnt h9 46 rfl
        clear HI h9
        go_wp2
        go_roundw
        case rel => exact ⟨had, f, k + 1, by omega, by omega, rfl, by go_num, hhl, HN.out, HR.out, hbe, hsz⟩
        case measure => simp [intOf]; omega
    · have e : k = s.size := by omega
      subst e
      have HN := Lib.hid (dots_last s had f _ (Nat.le_refl _) HI.out)
      clear HI
      go_wp2_with (at_builtin; refine wpList_pushS rfl _ _ rfl HR.out rfl rfl (by omega) hsz ?_; intro v' w2 hrow' hB' hsz')
      have hbe2 := hB' _ _ hbe (Nat.le_refl _)
      rw [← ofLs_snoc, ← HN.out] at hrow'
      have HS := Lib.hid hrow'.strs
      clear hB' hrow' HR HN
      go_wp2
      go_ret
      exact ⟨⟨_, rfl, HS.out⟩, hbe2⟩
end Go.Proofs.YthempdglmhmfeaaDoor
