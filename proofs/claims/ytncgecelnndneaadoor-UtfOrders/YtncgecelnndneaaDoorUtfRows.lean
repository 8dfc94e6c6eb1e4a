/-
  The document's own Text, Runes, Valid and Same (package cracknelref05): contracts.
-/
import Derived.Test.YtncgecelnndneaaDoorUtfTake
import Derived.Deep.QuietTactic
namespace Go.Proofs.YtncgecelnndneaaDoor
open Go.RowKit
set_option linter.unusedVariables false

def natsI (l : List Int) : List Nat := l.map Int.toNat
def intsN (l : List Nat) : List Int := l.map (fun (n : Nat) => (n : Int))
def allL (l : List Int) : Bool := l.all letB
def textB (l : List Int) : ByteArray := ⟨(textU (natsI l)).toArray⟩

theorem textB_list (l : List Int) : (textB l).data.toList = textU (natsI l) := by simp [textB]

theorem textU_le : ∀ rs : List Nat, (textU rs).length ≤ 4 * rs.length
  | [] => by simp [textU]
  | r :: t => by
    have h1 := (putU_len r).2
    have h2 := textU_le t
    rw [textU_cons, List.length_append, List.length_cons]
    omega

theorem textB_size (l : List Int) : (textB l).size ≤ 4 * l.length := by
  have h := textU_le (natsI l)
  rw [← textB_list, list_len] at h
  unfold natsI at h
  rw [List.length_map] at h
  exact h

theorem textB_snoc (l : List Int) (r : Int) : textB (l ++ [r]) = textB l ++ putUB r.toNat := by
  apply ba_ext
  rw [app_list, textB_list, textB_list]
  unfold natsI
  rw [List.map_append, textU_append]
  simp [textU, putUB]

/-- What Text holds at place k. -/
def TextAt (l : List Int) (g : Nat) (w0 : World) (out i : Value) (wr : World) : Prop :=
  ∃ k : Nat, k ≤ l.length ∧ out = .string (textB (l.take k)) ∧ i = .int .i64 (k : Int) ∧ allL (l.take k) = true ∧ Below g w0 wr

theorem text_step (l : List Int) (k : Nat) (r : Int) (hk : k < l.length) (hr : r = l[k]) (hl : letB r = true) (ha : allL (l.take k) = true) :
    textB (l.take (k + 1)) = textB (l.take k) ++ putUB r.toNat ∧ allL (l.take (k + 1)) = true := by
  rw [List.take_succ_eq_append_getElem hk, ← hr]
  refine ⟨textB_snoc _ _, ?_⟩
  unfold allL at *
  rw [List.all_append, ha]
  simp [hl]

theorem allL_at (l : List Int) (h : allL l = true) (k : Nat) (hk : k < l.length) : letB l[k] = true := by
  unfold allL at h
  rw [List.all_eq_true] at h
  exact h _ (List.getElem_mem hk)

theorem allL_not (l : List Int) (k : Nat) (hk : k < l.length) (h : letB l[k] = false) : allL l = false := by
  rw [← Bool.not_eq_true]
  intro ha
  rw [allL_at l ha k hk] at h
  cases h

theorem letB_letter (r : Int) (h : letB r = true) : r = (r.toNat : Int) ∧ letter r.toNat := by
  have h1 := (letB_iff r).1 h
  refine ⟨by omega, ?_⟩
  unfold letter
  omega

/-- The answer of Text. -/
def textV (l : List Int) : Value := if allL l then .tuple #[.string (textB l), .bool true] else .tuple #[.string ByteArray.empty, .bool false]

set_option maxRecDepth 100000 in
set_option maxHeartbeats 1600000 in
theorem rtext_any (v : Value) (l : List Int) (w : World) (hv : IntsAt w v l) (hl : l.length ≤ 1000000000000) :
    Calls Tryd.prog 15 #[v] w fun e w' => e = .returned (textV l) ∧ Below w.heap.size w w' := by
  have HV := Lib.hid hv
  obtain ⟨ao, n, cap, rfl, hn, hcell⟩ := hv.shape
  have HC := Lib.hid hcell
  have n1 : n ≤ l.length := by omega
  have n2 : l.length ≤ n := by omega
  clear hcell hv hn
  go_enter Tryd.func15, Tryd.ntmps15
  go_wp2
  go_loopw [4, 5] (fun out i wr => TextAt l w.heap.size w out i wr) (fun _ i _ => n - (intOf i).toNat)
  case atStart => exact ⟨0, by omega, rfl, rfl, rfl, Below.refl _ _⟩
  case round =>
    obtain ⟨k, hk, rfl, rfl, ha, hbe⟩ := hrel
    have HA := Lib.hid ha
    clear ha
    by_cases hlt : k < l.length
    · obtain ⟨ad, rfl, hcl0⟩ := HC.out k hlt
      have hcl : wr.cell? (ad.add k) = some (.int .i64 l[k]) := by
        rw [hbe.cell (World.block_lt_of_cell? w _ hcl0)]
        exact hcl0
      obtain ⟨r, hr⟩ : ∃ r, r = l[k] := ⟨_, rfl⟩
      rw [← hr] at hcl
      have HR := Lib.hid hr
      clear hr HC hcl0
      by_cases hlet : letB r = true
      · obtain ⟨e1, e2⟩ := letB_letter r hlet
        have HS := Lib.hid (text_step l k r hlt HR.out hlet HA.out)
        have hz := textB_size (l.take k)
        have hz2 : (putUB r.toNat).size ≤ 4 := by
          have := (putU_len r.toNat).2
          show (putU r.toNat).toArray.size ≤ 4
          rw [List.size_toArray]
          exact this
        have hss : (textB (l.take k)).size + (putUB r.toNat).size ≤ 9223372036854775807 := by
          rw [List.length_take] at hz
          omega
        have E1 := Lib.hid e1
        have E2 := Lib.hid e2
        clear hlet e1 e2 hz hz2
        go_wp2_with fail
        refine (at_rputu r.toNat r _ E1.out E2.out).mono ?_
        rintro _ w1 ⟨rfl, hb⟩
        have hb1 := hbe.trans (hb.mono hbe.size)
        clear hb hbe hcl
        go_wp2
        go_roundw
        case rel => exact ⟨k + 1, by omega, by rw [HS.out.1], by go_num, HS.out.2, hb1⟩
        case measure => simp [intOf]; omega
      · have hno : letB r = false := by simpa using hlet
        have HE : Hid (textV l = .tuple #[.string ByteArray.empty, .bool false]) := by
          show _ = _
          unfold textV
          rw [allL_not l k hlt (by rw [← HR.out]; exact hno)]
          rfl
        clear hlet
        go_wp2_with fail
        refine (rputu_no r _ hno).mono ?_
        rintro _ w1 ⟨rfl, hb⟩
        have hb1 := hbe.trans (hb.mono hbe.size)
        clear hno
        go_wp2
        go_ret2
        rw [HE.out]
        exact ⟨rfl, hb1⟩
    · have ek : l.take k = l := List.take_of_length_le (by omega)
      have HE : Hid (textV l = .tuple #[.string (textB l), .bool true]) := by
        show _ = _
        have h := HA.out
        rw [ek] at h
        unfold textV
        rw [h]
        rfl
      rw [ek]
      clear ek HA HC
      go_wp2
      go_ret2
      rw [HE.out]
      exact ⟨rfl, hbe⟩

/-- What Runes holds: rs are had, rest is left. -/
def RunesAt (s : ByteArray) (g : Nat) (w0 : World) (gk : Nat) (str out : Value) (wr : World) : Prop :=
  ∃ (rs : List Nat) (rest : ByteArray), str = .string rest ∧ rest.size = gk ∧ rs.length + gk ≤ s.size ∧ s.data.toList = textU rs ++ rest.data.toList ∧ letters rs ∧ RowI wr g out (intsN rs) ∧ Below g w0 wr ∧ g ≤ wr.heap.size

theorem runes_end (s rest : ByteArray) (rs : List Nat) (h : s.data.toList = textU rs ++ rest.data.toList) (hl : letters rs) (hz : rest.size = 0) : runesU s.data.toList = some rs := by
  have e : rest.data.toList = [] := List.length_eq_zero_iff.1 (by rw [list_len]; exact hz)
  rw [e, List.append_nil] at h
  exact (runesU_iff _ _).2 ⟨hl, h⟩

theorem runes_stop (s rest : ByteArray) (rs : List Nat) (r n : Nat) (h : s.data.toList = textU rs ++ rest.data.toList) (hl : letters rs) (hz : 0 < rest.size) (ht : takeU rest.data.toList = (r, n, false)) : runesU s.data.toList = none := by
  have hne : rest.data.toList ≠ [] := fun e => by
    have := list_len rest
    rw [e] at this
    simp at this
    omega
  rw [h, runesU_append rs _ hl, runesU_step _ hne, ht]
  rfl

theorem runes_step (s rest : ByteArray) (rs : List Nat) (r n : Nat) (h : s.data.toList = textU rs ++ rest.data.toList) (hl : letters rs) (ht : takeU rest.data.toList = (r, n, true)) :
    s.data.toList = textU (rs ++ [r]) ++ (rest.extract n rest.size).data.toList ∧ letters (rs ++ [r]) ∧ 1 ≤ n ∧ n ≤ rest.size ∧ (rest.extract n rest.size).size = rest.size - n ∧ r ≤ 1114111 := by
  have hy := takeU_yes _ _ _ ht
  have hs := takeU_split _ _ _ ht
  have hlen := list_len rest
  have hn : n ≤ rest.size := by omega
  refine ⟨?_, ?_, hy.2.2.2.1, hn, by rw [ByteArray.size_extract]; omega, hy.1.1⟩
  · have e : textU [r] = putU r := by simp [textU]
    rw [textU_append, e, List.append_assoc, extract_list, List.take_of_length_le (by rw [List.length_drop]; omega), ← hs]
    exact h
  · intro x hx
    rcases List.mem_append.1 hx with hx | hx
    · exact hl x hx
    · rw [List.mem_singleton.1 hx]
      exact hy.1

/-- What Runes answers, in the world w. -/
def RunesV (s : ByteArray) (w : World) (e : Ending) : Prop :=
  (∃ rs v, runesU s.data.toList = some rs ∧ e = .returned (.tuple #[v, .bool true]) ∧ IntsAt w v (intsN rs)) ∨ (runesU s.data.toList = none ∧ e = .returned (.tuple #[.slice none 0 0, .bool false]))

set_option maxRecDepth 100000 in
set_option maxHeartbeats 1600000 in
theorem rrunes_any (s : ByteArray) (w : World) (hs : s.size ≤ 1000000000000) :
    Calls Tryd.prog 19 #[.string s] w fun e w' => RunesV s w' e ∧ Below w.heap.size w w' := by
  go_enter Tryd.func19, Tryd.ntmps19
  go_wp2
  go_loopg [0, 4] s.size (fun gk str out wr => RunesAt s w.heap.size w gk str out wr)
  case atStart => exact ⟨[], s, rfl, rfl, by simp, rfl, fun r hr => absurd hr List.not_mem_nil, RowI.nil _ _, Below.refl _ _, Nat.le_refl _⟩
  case round =>
    obtain ⟨rs, rest, rfl, hgk, hlen, hsp, hlet, hrow, hbe, hsz⟩ := hrel
    have HSP := Lib.hid hsp
    have HLE := Lib.hid hlet
    have HRW := Lib.hid hrow
    clear hsp hlet hrow
    have z1 : rest.size ≤ gk := by omega
    have z2 : gk ≤ rest.size := by omega
    clear hgk
    by_cases h0 : 0 < rest.size
    · obtain ⟨r, n, b, ht⟩ : ∃ r n b, takeU rest.data.toList = (r, n, b) := ⟨_, _, _, rfl⟩
      have HT := Lib.hid ht
      cases b with
      | false =>
        have HE := Lib.hid (runes_stop s rest rs r n HSP.out HLE.out h0 ht)
        clear ht HSP HLE HRW
        go_wp2_with fail
        refine (rtakeu_any rest r n false _ (by unfold maxLen; omega) HT.out).mono ?_
        rintro _ w1 ⟨rfl, hb⟩
        have hb1 := hbe.trans (hb.mono hbe.size)
        clear hb HT
        go_wp2
        go_ret2
        exact ⟨.inr ⟨HE.out, rfl⟩, hb1⟩
      | true =>
        obtain ⟨q1, q2, q3, q4, q5, q6⟩ := runes_step s rest rs r n HSP.out HLE.out ht
        have Q1 := Lib.hid q1
        have Q2 := Lib.hid q2
        have Q5 := Lib.hid q5
        clear ht q1 q2 q5 HSP HLE
        go_wp2_with fail
        refine (rtakeu_any rest r n true _ (by unfold maxLen; omega) HT.out).mono ?_
        rintro _ w1 ⟨rfl, hb⟩
        have hb1 := hbe.trans (hb.mono hbe.size)
        have hrow1 := HRW.out.keep hb
        have hs1 : w.heap.size ≤ w1.heap.size := Nat.le_trans hsz hb.size
        have HR1 := Lib.hid hrow1
        have hrl : (intsN rs).length = rs.length := List.length_map _
        clear hb HT HRW hrow1 hbe
        go_wp2_with (at_builtin; refine wpList_pushI rfl _ _ rfl HR1.out rfl rfl (by omega) hs1 ?_; intro v' w2 hrow' hB' hsz')
        have hbe2 := hB' _ _ hb1 (Nat.le_refl _)
        have e : intsN rs ++ [(r : Int)] = intsN (rs ++ [r]) := by simp [intsN]
        rw [e] at hrow'
        have HR2 := Lib.hid hrow'
        clear hB' hrow' HR1 e
        go_wp2
        go_roundg (gk - n)
        case measure => omega
        case rel =>
          refine ⟨rs ++ [r], rest.extract n rest.size, rfl, by rw [Q5.out]; omega, by rw [List.length_append]; simp; omega, Q1.out, Q2.out, HR2.out, hbe2, hsz'⟩
    · have HE := Lib.hid (runes_end s rest rs HSP.out HLE.out (by omega))
      have hints := HRW.out.ints
      clear HSP HLE HRW
      go_wp2
      go_ret2
      exact ⟨.inl ⟨rs, _, HE.out, rfl, hints⟩, hbe⟩
def validB (s : ByteArray) : Bool := (runesU s.data.toList).isSome

/-- What Same holds at place k. -/
def SameAt (a b : List Int) (i : Value) : Prop := ∃ k : Nat, k ≤ a.length ∧ i = .int .i64 (k : Int) ∧ a.take k = b.take k

set_option maxRecDepth 100000 in
set_option maxHeartbeats 800000 in
theorem rsame_any (u v : Value) (a b : List Int) (w : World) (hu : IntsAt w u a) (hv : IntsAt w v b) (ha : a.length ≤ 1000000000000) (hb : b.length ≤ 1000000000000) :
    Calls Tryd.prog 17 #[u, v] w fun e w' => e = .returned (.bool (decide (a = b))) ∧ Below w.heap.size w w' := by
  obtain ⟨ao, n, cap, rfl, hn, hc⟩ := hu.shape
  obtain ⟨bo, m, cap2, rfl, hm, hd⟩ := hv.shape
  have HC := Lib.hid hc
  have HD := Lib.hid hd
  have n1 : n ≤ a.length := by omega
  have n2 : a.length ≤ n := by omega
  have m1 : m ≤ b.length := by omega
  have m2 : b.length ≤ m := by omega
  clear hc hd hu hv hn hm
  by_cases hl : n = m
  · have l1 : n ≤ m := by omega
    have l2 : m ≤ n := by omega
    subst hl
    go_enter Tryd.func17, Tryd.ntmps17
    go_wp2
    go_loopw [5] (fun i wr => SameAt a b i ∧ Below w.heap.size w wr) (fun i _ => n - (intOf i).toNat)
    case atStart => exact ⟨⟨0, by omega, rfl, rfl⟩, Below.refl _ _⟩
    case round =>
      obtain ⟨⟨k, hk, rfl, hs⟩, hbe⟩ := hrel
      have HS := Lib.hid hs
      clear hs
      by_cases hlt : k < a.length
      · have hlt2 : k < b.length := by omega
        obtain ⟨ad, rfl, hca0⟩ := HC.out k hlt
        obtain ⟨bd, rfl, hcb0⟩ := HD.out k hlt2
        have hca : wr.cell? (ad.add k) = some (.int .i64 a[k]) := by
          rw [hbe.cell (World.block_lt_of_cell? w _ hca0)]
          exact hca0
        have hcb : wr.cell? (bd.add k) = some (.int .i64 b[k]) := by
          rw [hbe.cell (World.block_lt_of_cell? w _ hcb0)]
          exact hcb0
        obtain ⟨x, hx⟩ : ∃ x, x = a[k] := ⟨_, rfl⟩
        obtain ⟨y, hy⟩ : ∃ y, y = b[k] := ⟨_, rfl⟩
        rw [← hx] at hca
        rw [← hy] at hcb
        have HX := Lib.hid hx
        have HY := Lib.hid hy
        have k0 : (k : Int) < (n : Int) := by omega
        clear hx hy HC HD hca0 hcb0
        by_cases he : x = y
        · have HE : Hid (a.take (k + 1) = b.take (k + 1)) := by
            show _ = _
            rw [List.take_succ_eq_append_getElem hlt, List.take_succ_eq_append_getElem hlt2, HS.out, ← HX.out, ← HY.out, he]
          subst he
          clear HX HY HS
          go_wp2_with fail
          go_region
          all_goals (try go_wp2)
          all_goals
            go_roundw
            case rel => exact ⟨⟨k + 1, by omega, by go_num, HE.out⟩, by first | exact hbe.drew | exact hbe⟩
            case measure => simp [intOf]; omega
        · have HE : Hid (decide (a = b) = false) := by
            show _ = _
            rw [decide_eq_false_iff_not]
            intro h
            subst h
            exact he (by rw [HX.out, HY.out])
          clear HX HY HS
          go_wp2_with fail
          go_region
          all_goals (try go_wp2)
          all_goals
            go_ret
            exact ⟨ret_bool HE.out.symm, by first | exact hbe.drew | exact hbe⟩
      · have HE : Hid (decide (a = b) = true) := by
          show _ = _
          have h := HS.out
          rw [List.take_of_length_le (by omega), List.take_of_length_le (by omega)] at h
          simpa using h
        clear HS HC HD
        go_wp2
        go_ret
        exact ⟨ret_bool HE.out.symm, hbe⟩
  · have HE : Hid (decide (a = b) = false) := by
      show _ = _
      rw [decide_eq_false_iff_not]
      intro h
      subst h
      omega
    clear HC HD
    go_enter Tryd.func17, Tryd.ntmps17
    go_wp2
    go_ret
    exact ⟨ret_bool HE.out.symm, Below.refl _ _⟩
end Go.Proofs.YtncgecelnndneaaDoor
