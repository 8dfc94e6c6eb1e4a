/-
  Package host: each: a contract, for any function that tells of a part.
-/
import Derived.Test.YtkpdejnhjbojpaaDoorHosRq
namespace Go.Proofs.YtkpdejnhjbojpaaDoor
open Go.RowKit
set_option linter.unusedVariables false

def EachAt (ps : List (List UInt8)) (q : List UInt8 → Bool) (ao : Option Addr) (w0 : World) (gk : Nat) (i : Value) (wr : World) : Prop :=
  ∃ k : Nat, i = .int .i64 (k : Int) ∧ k + gk = ps.length + 1 ∧ 1 ≤ gk ∧ (ps.take k).all q = true ∧ (∀ j (hj : j < ps.length), ∃ ad, ao = some ad ∧ wr.cell? (ad.add j) = some (.string (ofL ps[j]))) ∧ Below w0.heap.size w0 wr

set_option maxRecDepth 100000 in
set_option maxHeartbeats 1600000 in
theorem each_any (fn : Nat) (ps : List (List UInt8)) (q : List UInt8 → Bool) (ao : Option Addr) (cap : Nat) (w : World) (hpl : ps.length ≤ 1000000)
    (hc : ∀ j (hj : j < ps.length), ∃ ad, ao = some ad ∧ w.cell? (ad.add j) = some (.string (ofL ps[j])))
    (hen : ∀ args w, (Go.callFunc fn args).run Tryd.prog w = .ok (.enter fn args) w)
    (hq : ∀ x ∈ ps, ∀ w, Calls Tryd.prog fn #[.string (ofL x)] w fun e w' => e = .returned (.bool (q x)) ∧ Below w.heap.size w w') :
    Calls Tryd.prog 71 #[.func (.func fn) #[] #[], .slice ao ps.length cap] w fun e w' => e = .returned (.bool (ps.all q)) ∧ Below w.heap.size w w' := by
  have HQ := Lib.hid hq
  have HC := Lib.hid hc
  clear hq hc
  go_enter Tryd.func71, Tryd.ntmps71
  go_wp2
  go_loopg [8] (ps.length + 1) (fun gk i wr => EachAt ps q ao w gk i wr)
  case atStart => exact ⟨0, rfl, by omega, by omega, rfl, HC.out, Below.refl _ _⟩
  case round =>
    clear HC
    obtain ⟨k, rfl, hk, hg, hall, hcc, hbe⟩ := hrel
    have HA := Lib.hid hall
    have HC := Lib.hid hcc
    clear hall hcc
    by_cases hlt : k < ps.length
    · obtain ⟨ad, rfl, hcl⟩ := HC.out k hlt
      have hki : (k : Int) < (ps.length : Int) := by omega
      have HP := Lib.hid (HQ.out ps[k] (List.getElem_mem hlt))
      generalize hx : ofL ps[k] = P at hcl HP
      obtain ⟨b, hb⟩ : ∃ b, q ps[k] = b := ⟨_, rfl⟩
      rw [hb] at HP
      have hold : ∀ w3, Below wr.heap.size wr w3 → ∀ j (hj : j < ps.length), ∃ ad', some ad = some ad' ∧ w3.cell? (ad'.add j) = some (.string (ofL ps[j])) := by
        intro w3 hb3 j hj
        obtain ⟨ad', h1, h2⟩ := HC.out j hj
        exact ⟨ad', h1, by rw [hb3.cell (World.block_lt_of_cell? _ _ h2)]; exact h2⟩
      have HH := Lib.hid hold
      clear hold
      cases b with
      | true =>
        have HS := Lib.hid (allp_step ps q k hlt HA.out hb)
        clear hb hx
        go_wp2_with fail
        refine (HP.out _).mono ?_
        rintro _ w3 ⟨rfl, hb3⟩
        have HC3 := Lib.hid (HH.out w3 hb3)
        have hbe3 := chain hbe hb3
        clear HC HH hb3 hbe hen
        go_wp2
        go_roundg (gk - 1)
        case measure => omega
        case rel => exact ⟨k + 1, by go_num, by omega, by omega, HS.out, HC3.out, hbe3⟩
      | false =>
        have HS := Lib.hid (allp_not ps q k hlt hb)
        clear hb hx
        go_wp2_with fail
        refine (HP.out _).mono ?_
        rintro _ w3 ⟨rfl, hb3⟩
        have hbe3 := chain hbe hb3
        clear HC HH hb3 hbe hen
        go_wp2
        go_ret
        exact ⟨ret_bool HS.out.symm, hbe3⟩
    · have HS : Hid (ps.all q = true) := by
        show _ = _
        rw [← List.take_of_length_le (l := ps) (i := k) (by omega)]
        exact HA.out
      have hki : ¬ (k : Int) < (ps.length : Int) := by omega
      go_wp2
      go_ret
      exact ⟨ret_bool HS.out.symm, hbe⟩
end Go.Proofs.YtkpdejnhjbojpaaDoor
