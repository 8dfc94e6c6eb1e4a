/-
  The document's own answers (package cracknelref12): Default: a contract.
-/
import Derived.Test.YthempdglmhmfeaaDoorPatMath
import Derived.Test.YthempdglmhmfeaaDoorPatByte
namespace Go.Proofs.YthempdglmhmfeaaDoor
open Go.RowKit
set_option linter.unusedVariables false

/-- The path of a cookie that has none. -/
def defB (s : ByteArray) : ByteArray := ⟨(defL s.data.toList).toArray⟩

def DefAt (s : ByteArray) (w0 : World) (gk : Nat) (i : Value) (wr : World) : Prop :=
  ∃ k : Nat, i = .int .i64 (k : Int) ∧ k + 1 = gk ∧ k < s.size ∧ lastAt s.data.toList (s.data.toList.length - 1) = lastAt s.data.toList k ∧ wr = w0

theorem defB_no (s : ByteArray) (h : s.data.toList.getD 0 0 ≠ 47) : defB s = ⟨#[47]⟩ := by
  unfold defB defL
  rw [if_neg h]

theorem lastAt_here (l : List UInt8) (k : Nat) (h : l.getD k 0 = 47) : lastAt l k = k := by
  cases k with
  | zero => rfl
  | succ k => unfold lastAt; rw [if_pos h]
theorem lastAt_not (l : List UInt8) (k : Nat) (h : l.getD k 0 ≠ 47) (hk : 0 < k) : lastAt l k = lastAt l (k - 1) := by
  cases k with
  | zero => omega
  | succ k => show (if l.getD (k + 1) 0 = 47 then k + 1 else lastAt l k) = lastAt l k; rw [if_neg h]

set_option maxRecDepth 100000 in
set_option maxHeartbeats 1600000 in
theorem rdef_any (s : ByteArray) (w : World) (hs : s.size ≤ 1000000000000) :
    Calls Tryd.prog 13 #[.string s] w fun e w' => e = .returned (.string (defB s)) ∧ w' = w := by
  by_cases h0 : s.size = 0
  · have HV : Hid (defB s = ⟨#[47]⟩) := defB_no s (by
      rw [List.getD_eq_getElem?_getD, List.getElem?_eq_none (by rw [list_len]; omega)]
      decide)
    go_enter Tryd.func13, Tryd.ntmps13
    go_wp2
    go_ret
    exact ⟨congrArg (fun x => Ending.returned (.string x)) HV.out.symm, rfl⟩
  have hp : 0 < s.size := by omega
  have hne : ((s.size : Int) == 0) = false := beq_eq_false_iff_ne.2 (by omega)
  by_cases h47 : s[0] = 47
  · have hi : ((s[0].toNat : Int) == 47) = true := beq_iff_eq.2 (u8_is h47 47 rfl)
    have hi2 := u8_is h47 47 rfl
    have H47 : Hid (s.data.toList.getD 0 0 = 47) := by show _ = _; rw [getD_b s 0 hp]; exact h47
    clear h47
    go_enter Tryd.func13, Tryd.ntmps13
    go_wp2
    go_loopg [3] s.size (fun gk i wr => DefAt s w gk i wr)
    case atStart => exact ⟨s.size - 1, by first | rfl | go_num, by omega, by omega, by rw [list_len], rfl⟩
    case round =>
      clear hi hi2 hne
      obtain ⟨k, rfl, hk, hks, hla, rfl⟩ := hrel
      have HLA := Lib.hid hla
      clear hla
      by_cases h9 : s[k] = 47
      · have hj := u8_is h9 47 rfl
        have HK : Hid (lastAt s.data.toList (s.data.toList.length - 1) = k) := by
          show _ = _
          rw [HLA.out]
          exact lastAt_here _ k (by rw [getD_b s k hks]; exact h9)
        clear h9
        by_cases hz : k = 0
        · have HV : Hid (defB s = ⟨#[47]⟩) := by
            show _ = _
            unfold defB defL
            rw [if_pos H47.out, HK.out, if_pos hz]
          subst hz
          go_wp2
          go_ret
          exact ⟨congrArg (fun x => Ending.returned (.string x)) HV.out.symm, rfl⟩
        · have HV : Hid (defB s = s.extract 0 k) := by
            show _ = _
            apply ba_ext
            rw [extract_list, List.drop_zero, Nat.sub_zero]
            unfold defB defL
            rw [if_pos H47.out, HK.out, if_neg hz]
          have hzk : ((k : Int) == 0) = false := beq_eq_false_iff_ne.2 (by omega)
          go_wp2
          go_ret
          exact ⟨congrArg (fun x => Ending.returned (.string x)) HV.out.symm, rfl⟩
      · have hj := u8_isnt h9 47 rfl
        have hk0 : 0 < k := by
          rcases Nat.eq_zero_or_pos k with e | e
          · subst e
            have := H47.out
            rw [getD_b s 0 hp] at this
            exact absurd this h9
          · exact e
        have HK : Hid (lastAt s.data.toList (s.data.toList.length - 1) = lastAt s.data.toList (k - 1)) := by
          show _ = _
          rw [HLA.out]
          exact lastAt_not _ k (by rw [getD_b s k hks]; exact h9) hk0
        clear h9
        go_wp2
        go_roundg (gk - 1)
        case measure => omega
        case rel => exact ⟨k - 1, by go_num, by omega, by omega, HK.out, rfl⟩
  · have hi := u8_isnt h47 47 rfl
    have HV : Hid (defB s = ⟨#[47]⟩) := defB_no s (by rw [getD_b s 0 hp]; exact h47)
    clear h47
    go_enter Tryd.func13, Tryd.ntmps13
    go_wp2
    go_ret
    exact ⟨congrArg (fun x => Ending.returned (.string x)) HV.out.symm, rfl⟩
end Go.Proofs.YthempdglmhmfeaaDoor
