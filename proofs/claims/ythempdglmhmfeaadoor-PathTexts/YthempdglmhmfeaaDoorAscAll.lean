/-
  all of package ascii: a contract.
-/
import Derived.Test.YthempdglmhmfeaaDoorAscFirst
import Derived.Test.YthempdglmhmfeaaDoorAscSpan
namespace Go.Proofs.YthempdglmhmfeaaDoor
open Go.RowKit
set_option linter.unusedVariables false

/-- all$1: not what the closure says. -/
theorem all1_any (c : Int) (b x : Nat) (p : Int → Bool) (w : World) (hc : w.cell? ⟨b, 0, none⟩ = some (.func (.func 51) #[] #[.pointer (some ⟨x, 0, none⟩)]))
    (hp : Hid (∀ c, Calls Tryd.prog 51 #[.int .u8 c, .pointer (some ⟨x, 0, none⟩)] w fun e w' => e = .returned (.bool (p c)) ∧ w = w')) :
    Calls Tryd.prog 50 #[.int .u8 c, .pointer (some ⟨b, 0, none⟩)] w fun e w' => e = .returned (.bool (!p c)) ∧ w = w' := by
  go_enter Tryd.func50, Tryd.ntmps50
  go_wp2_with fail
  refine (hp.out c).mono ?_
  rintro e w' ⟨rfl, rfl⟩
  go_wp2
  go_ret
  exact ⟨rfl, rfl⟩

theorem call31 (args : Array Value) (w : World) : Sem.run Tryd.prog (callFunc 50 args) w = .ok (.enter 50 args) w := by go_simp

set_option maxHeartbeats 400000 in
/-- all: is every byte so? -/
theorem all_any (s : ByteArray) (x : Nat) (p : Int → Bool) (w : World) (hs : s.size ≤ maxLen) (_hx : x < w.heap.size)
    (hp : Hid (∀ w1 c, Below w.heap.size w w1 → Calls Tryd.prog 51 #[.int .u8 c, .pointer (some ⟨x, 0, none⟩)] w1 fun e w' => e = .returned (.bool (p c)) ∧ w1 = w')) :
    Calls Tryd.prog 36 #[.string s, .func (.func 51) #[] #[.pointer (some ⟨x, 0, none⟩)]] w fun e w' =>
      e = .returned (.bool (allB p s)) ∧ Below w.heap.size w w' := by
  have hfa := Lib.hid (firstAt_all p s.data.toList)
  have hn : s.data.toList.length = s.size := by simp
  have Hn := Lib.hid hn
  clear hn
  go_enter Tryd.func36, Tryd.ntmps36
  go_wp2_with fail
  refine (first_any 50 _ (fun c => !p c) s _ hs call31 (Lib.hid fun c => all1_any c _ x p _ (by go_simp) (Lib.hid fun c => hp.out _ c ((Below.refl _ _).alloc (Nat.le_refl _) _)))).mono ?_
  rintro e w' ⟨rfl, rfl⟩
  go_wp2
  go_ret
  refine ⟨ret_bool ?_, (Below.refl _ _).alloc (Nat.le_refl _) _⟩
  unfold allB
  rw [← hfa.out, Hn.out]
end Go.Proofs.YthempdglmhmfeaaDoor
