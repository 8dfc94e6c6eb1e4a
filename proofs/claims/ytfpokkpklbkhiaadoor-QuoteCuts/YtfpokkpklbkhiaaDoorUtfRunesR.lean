/-
  The document's own Runes (package cracknelref05): a contract.
-/
import Derived.Test.YtfpokkpklbkhiaaDoorUtfTake
import Derived.Test.YtfpokkpklbkhiaaDoorBaseInts
import Derived.Deep.QuietTactic
namespace Go.Proofs.YtfpokkpklbkhiaaDoor
open Go.RowKit
set_option linter.unusedVariables false

def natsI (l : List Int) : List Nat := l.map Int.toNat
def intsN (l : List Nat) : List Int := l.map (fun (n : Nat) => (n : Int))

/-- What Runes holds: rs are had, rest is left. -/
def RunesAt (s : ByteArray) (g : Nat) (w0 : World) (gk : Nat) (str out : Value) (wr : World) : Prop :=
  ∃ (rs : List Nat) (rest : ByteArray), str = .string rest ∧ rest.size = gk ∧ rs.length + gk ≤ s.size ∧ s.data.toList = textU rs ++ rest.data.toList ∧ letters rs ∧ RowI wr g out (intsN rs) ∧ Below g w0 wr ∧ g ≤ wr.heap.size

theorem runes_end (s rest : ByteArray) (rs : List Nat) (h : s.data.toList = textU rs ++ rest.data.toList) (hl : letters rs) (hz : rest.size = 0) : runesU s.data.toList = some rs := by
  have e : rest.data.toList = [] := List.length_eq_zero_iff.1 (by rw [list_len]; exact hz)
  rw [e, List.append_nil] at h
  exact (runesU_iff _ _).2 ⟨hl, h⟩

theorem runes_stop (s rest : ByteArray) (rs : List Nat) (r n : Nat) (h : s.data.toList = textU rs ++ rest.data.toList) (hl : letters rs) (hz : 0 < rest.size) (ht : takeU rest.data.toList = (r, n, false)) : runesU s.data.toList = none := by
  have hne : rest.data.toList ≠ [] := fun e => by
    have := list_len rest
    rw [e] at this
    simp at this
    omega
  rw [h, runesU_append rs _ hl, runesU_step _ hne, ht]
  rfl

theorem runes_step (s rest : ByteArray) (rs : List Nat) (r n : Nat) (h : s.data.toList = textU rs ++ rest.data.toList) (hl : letters rs) (ht : takeU rest.data.toList = (r, n, true)) :
    s.data.toList = textU (rs ++ [r]) ++ (rest.extract n rest.size).data.toList ∧ letters (rs ++ [r]) ∧ 1 ≤ n ∧ n ≤ rest.size ∧ (rest.extract n rest.size).size = rest.size - n ∧ r ≤ 1114111 := by
  have hy := takeU_yes _ _ _ ht
  have hs := takeU_split _ _ _ ht
  have hlen := list_len rest
  have hn : n ≤ rest.size := by omega
  refine ⟨?_, ?_, hy.2.2.2.1, hn, by rw [ByteArray.size_extract]; omega, hy.1.1⟩
  · have e : textU [r] = putU r := by simp [textU]
    rw [textU_append, e, List.append_assoc, extract_list, List.take_of_length_le (by rw [List.length_drop]; omega), ← hs]
    exact h
  · intro x hx
    rcases List.mem_append.1 hx with hx | hx
    · exact hl x hx
    · rw [List.mem_singleton.1 hx]
      exact hy.1

/-- What Runes answers, in the world w. -/
def RunesV (s : ByteArray) (w : World) (e : Ending) : Prop :=
  (∃ rs v, runesU s.data.toList = some rs ∧ e = .returned (.tuple #[v, .bool true]) ∧ IntsAt w v (intsN rs)) ∨ (runesU s.data.toList = none ∧ e = .returned (.tuple #[.slice none 0 0, .bool false]))

set_option maxRecDepth 100000 in
set_option maxHeartbeats 1600000 in
theorem rrunes_any (s : ByteArray) (w : World) (hs : s.size ≤ 1000000000000) :
    Calls Tryd.prog 28 #[.string s] w fun e w' => RunesV s w' e ∧ Below w.heap.size w w' := by
  go_enter Tryd.func28, Tryd.ntmps28
  go_wp2
  go_loopg [0, 4] s.size (fun gk str out wr => RunesAt s w.heap.size w gk str out wr)
  case atStart => exact ⟨[], s, rfl, rfl, by simp, rfl, fun r hr => absurd hr List.not_mem_nil, RowI.nil _ _, Below.refl _ _, Nat.le_refl _⟩
  case round =>
    obtain ⟨rs, rest, rfl, hgk, hlen, hsp, hlet, hrow, hbe, hsz⟩ := hrel
    have HSP := Lib.hid hsp
    have HLE := Lib.hid hlet
    have HRW := Lib.hid hrow
    clear hsp hlet hrow
    have z1 : rest.size ≤ gk := by omega
    have z2 : gk ≤ rest.size := by omega
    clear hgk
    by_cases h0 : 0 < rest.size
    · obtain ⟨r, n, b, ht⟩ : ∃ r n b, takeU rest.data.toList = (r, n, b) := ⟨_, _, _, rfl⟩
      have HT := Lib.hid ht
      cases b with
      | false =>
        have HE := Lib.hid (runes_stop s rest rs r n HSP.out HLE.out h0 ht)
        clear ht HSP HLE HRW
        go_wp2_with fail
        refine (rtakeu_any rest r n false _ (by unfold maxLen; omega) HT.out).mono ?_
        rintro _ w1 ⟨rfl, hb⟩
        have hb1 := hbe.trans (hb.mono hbe.size)
        clear hb HT
        go_wp2
        go_ret2
        exact ⟨.inr ⟨HE.out, rfl⟩, hb1⟩
      | true =>
        obtain ⟨q1, q2, q3, q4, q5, q6⟩ := runes_step s rest rs r n HSP.out HLE.out ht
        have Q1 := Lib.hid q1
        have Q2 := Lib.hid q2
        have Q5 := Lib.hid q5
        clear ht q1 q2 q5 HSP HLE
        go_wp2_with fail
        refine (rtakeu_any rest r n true _ (by unfold maxLen; omega) HT.out).mono ?_
        rintro _ w1 ⟨rfl, hb⟩
        have hb1 := hbe.trans (hb.mono hbe.size)
        have hrow1 := HRW.out.keep hb
        have hs1 : w.heap.size ≤ w1.heap.size := Nat.le_trans hsz hb.size
        have HR1 := Lib.hid hrow1
        have hrl : (intsN rs).length = rs.length := List.length_map _
        clear hb HT HRW hrow1 hbe
        go_wp2_with (at_builtin; refine wpList_pushI rfl _ _ rfl HR1.out rfl rfl (by omega) hs1 ?_; intro v' w2 hrow' hB' hsz')
        have hbe2 := hB' _ _ hb1 (Nat.le_refl _)
        have e : intsN rs ++ [(r : Int)] = intsN (rs ++ [r]) := by simp [intsN]
        rw [e] at hrow'
        have HR2 := Lib.hid hrow'
        clear hB' hrow' HR1 e
        go_wp2
        go_roundg (gk - n)
        case measure => omega
        case rel =>
          refine ⟨rs ++ [r], rest.extract n rest.size, rfl, by rw [Q5.out]; omega, by rw [List.length_append]; simp; omega, Q1.out, Q2.out, HR2.out, hbe2, hsz'⟩
    · have HE := Lib.hid (runes_end s rest rs HSP.out HLE.out (by omega))
      have hints := HRW.out.ints
      clear HSP HLE HRW
      go_wp2
      go_ret2
      exact ⟨.inl ⟨rs, _, HE.out, rfl, hints⟩, hbe⟩
def validB (s : ByteArray) : Bool := (runesU s.data.toList).isSome
end Go.Proofs.YtfpokkpklbkhiaaDoor
