/-
  The document's own Same, Tabs and Split (package cracknelref06): contracts.
-/
import Derived.Test.YteoailanpmkcfaaLinesRef
import Derived.Test.YteoailanpmkcfaaBaseRows
import Derived.Deep.QuietTactic
namespace Go.Proofs.Yteoailanpmkcfaa
open Go.RowKit
set_option linter.unusedVariables false

/-- What Same holds at place k. -/
def SameAt (a b : List ByteArray) (i : Value) : Prop := ∃ k : Nat, k ≤ a.length ∧ i = .int .i64 (k : Int) ∧ a.take k = b.take k

set_option maxRecDepth 100000 in
set_option maxHeartbeats 800000 in
theorem rsame_any (u v : Value) (a b : List ByteArray) (w : World) (hu : StrsAt w u a) (hv : StrsAt w v b) (ha : a.length ≤ 1000000000000) (hb : b.length ≤ 1000000000000) :
    Calls Try.prog 13 #[u, v] w fun e w' => e = .returned (.bool (decide (a = b))) ∧ Below w.heap.size w w' := by
  obtain ⟨ao, n, cap, rfl, hn, hc⟩ := hu.shape
  obtain ⟨bo, m, cap2, rfl, hm, hd⟩ := hv.shape
  have HC := Lib.hid hc
  have HD := Lib.hid hd
  have n1 : n ≤ a.length := by omega
  have n2 : a.length ≤ n := by omega
  have m1 : m ≤ b.length := by omega
  have m2 : b.length ≤ m := by omega
  clear hc hd hu hv hn hm
  by_cases hl : n = m
  · have l1 : n ≤ m := by omega
    have l2 : m ≤ n := by omega
    subst hl
    go_enter Try.func13, Try.ntmps13
    go_wp2
    go_loopw [5] (fun i wr => SameAt a b i ∧ Below w.heap.size w wr) (fun i _ => n - (intOf i).toNat)
    case atStart => exact ⟨⟨0, by omega, rfl, rfl⟩, Below.refl _ _⟩
    case round =>
      obtain ⟨⟨k, hk, rfl, hs⟩, hbe⟩ := hrel
      have HS := Lib.hid hs
      clear hs
      by_cases hlt : k < a.length
      · have hlt2 : k < b.length := by omega
        obtain ⟨ad, rfl, hca0⟩ := HC.out k hlt
        obtain ⟨bd, rfl, hcb0⟩ := HD.out k hlt2
        have hca : wr.cell? (ad.add k) = some (.string a[k]) := by
          rw [hbe.cell (World.block_lt_of_cell? w _ hca0)]
          exact hca0
        have hcb : wr.cell? (bd.add k) = some (.string b[k]) := by
          rw [hbe.cell (World.block_lt_of_cell? w _ hcb0)]
          exact hcb0
        obtain ⟨x, hx⟩ : ∃ x, x = a[k] := ⟨_, rfl⟩
        obtain ⟨y, hy⟩ : ∃ y, y = b[k] := ⟨_, rfl⟩
        rw [← hx] at hca
        rw [← hy] at hcb
        have HX := Lib.hid hx
        have HY := Lib.hid hy
        have k0 : (k : Int) < (n : Int) := by omega
        clear hx hy HC HD hca0 hcb0
        by_cases he : x = y
        · have HE : Hid (a.take (k + 1) = b.take (k + 1)) := by
            show _ = _
            rw [List.take_succ_eq_append_getElem hlt, List.take_succ_eq_append_getElem hlt2, HS.out, ← HX.out, ← HY.out, he]
          subst he
          have hq : (x.toList == x.toList) = true := by simp
          clear HX HY HS
          go_wp2_with fail
          go_region
          all_goals (try go_wp2)
          all_goals
            go_roundw
            case rel => exact ⟨⟨k + 1, by omega, by go_num, HE.out⟩, by first | exact hbe.drew | exact hbe⟩
            case measure => simp [intOf]; omega
        · have HE : Hid (decide (a = b) = false) := by
            show _ = _
            rw [decide_eq_false_iff_not]
            intro h
            subst h
            exact he (by rw [HX.out, HY.out])
          have hq : (x.toList == y.toList) = false := by rw [eq_toList]; simpa using he
          have hq2 : x.toList ≠ y.toList := fun h => by rw [h] at hq; simp at hq
          clear HX HY HS he
          go_wp2_with fail
          go_region
          all_goals (try go_wp2)
          all_goals
            go_ret
            exact ⟨ret_bool HE.out.symm, by first | exact hbe.drew | exact hbe⟩
      · have HE : Hid (decide (a = b) = true) := by
          show _ = _
          have h := HS.out
          rw [List.take_of_length_le (by omega), List.take_of_length_le (by omega)] at h
          simpa using h
        clear HS HC HD
        go_wp2
        go_ret
        exact ⟨ret_bool HE.out.symm, hbe⟩
  · have HE : Hid (decide (a = b) = false) := by
      show _ = _
      rw [decide_eq_false_iff_not]
      intro h
      subst h
      omega
    clear HC HD
    go_enter Try.func13, Try.ntmps13
    go_wp2
    go_ret
    exact ⟨ret_bool HE.out.symm, Below.refl _ _⟩

def ofL (l : List UInt8) : ByteArray := ⟨l.toArray⟩
def ofLs (ls : List (List UInt8)) : List ByteArray := ls.map ofL

theorem ofL_list (s : ByteArray) : ofL s.data.toList = s := (ba_list s).symm
theorem ofLs_snoc (ls : List (List UInt8)) (s : ByteArray) : ofLs (ls ++ [s.data.toList]) = ofLs ls ++ [s] := by
  unfold ofLs
  rw [List.map_append, List.map_singleton, ofL_list]

theorem ext_none (s : ByteArray) (k : Nat) : (s.extract k k).data.toList = [] := by
  rw [extract_list, Nat.sub_self, List.take_zero]

theorem ext_snoc (s : ByteArray) (f k : Nat) (hf : f ≤ k) (hk : k < s.size) : (s.extract f (k + 1)).data.toList = (s.extract f k).data.toList ++ [s[k]] := by
  have hl := list_len s
  rw [extract_list, extract_list, show k + 1 - f = (k - f) + 1 by omega, List.take_succ_eq_append_getElem (by rw [List.length_drop]; omega), List.getElem_drop]
  congr 2
  rw [← bget s k hk]
  congr 1
  omega

/-- What Tabs holds at place k, the field in hand begun at f. -/
def TabsAt (s : ByteArray) (g : Nat) (w0 : World) (out fr i : Value) (wr : World) : Prop :=
  ∃ (had : List (List UInt8)) (f k : Nat), f ≤ k ∧ k ≤ s.size ∧ fr = .int .i64 (f : Int) ∧ i = .int .i64 (k : Int) ∧ had.length ≤ f ∧ tabsL [] s.data.toList = had ++ tabsL (s.extract f k).data.toList (s.data.toList.drop k) ∧ RowS wr g out (ofLs had) ∧ Below g w0 wr ∧ g ≤ wr.heap.size

theorem tabs_here (s : ByteArray) (had : List (List UInt8)) (f k : Nat) (hf : f ≤ k) (hk : k < s.size) (h9 : s[k] = 9) (h : tabsL [] s.data.toList = had ++ tabsL (s.extract f k).data.toList (s.data.toList.drop k)) :
    tabsL [] s.data.toList = (had ++ [(s.extract f k).data.toList]) ++ tabsL (s.extract (k + 1) (k + 1)).data.toList (s.data.toList.drop (k + 1)) := by
  rw [h, drop_cons s k hk, h9, ext_none, List.append_assoc]
  congr 1
theorem tabs_else (s : ByteArray) (had : List (List UInt8)) (f k : Nat) (hf : f ≤ k) (hk : k < s.size) (h9 : s[k] ≠ 9) (h : tabsL [] s.data.toList = had ++ tabsL (s.extract f k).data.toList (s.data.toList.drop k)) :
    tabsL [] s.data.toList = had ++ tabsL (s.extract f (k + 1)).data.toList (s.data.toList.drop (k + 1)) := by
  rw [h, drop_cons s k hk, ext_snoc s f k hf hk]
  congr 1
  show (if s[k] = 9 then _ else _) = _
  rw [if_neg h9]
theorem tabs_last (s : ByteArray) (had : List (List UInt8)) (f k : Nat) (hk : s.size ≤ k) (h : tabsL [] s.data.toList = had ++ tabsL (s.extract f k).data.toList (s.data.toList.drop k)) :
    tabsL [] s.data.toList = had ++ [(s.extract f k).data.toList] := by
  rw [h, List.drop_eq_nil_of_le (by rw [list_len]; exact hk)]
  rfl

theorem u8_is {c d : UInt8} (h : c = d) (n : Int) (hn : (d.toNat : Int) = n) : (c.toNat : Int) = n := by rw [h]; exact hn
theorem u8_isnt {c d : UInt8} (h : c ≠ d) (n : Int) (hn : (d.toNat : Int) = n) : ¬ (c.toNat : Int) = n := fun e => h (UInt8.toNat.inj (by omega))

set_option maxRecDepth 100000 in
set_option maxHeartbeats 800000 in
theorem rtabs_any (s : ByteArray) (w : World) (hs : s.size ≤ 1000000000000) :
    Calls Try.prog 20 #[.string s] w fun e w' => (∃ v, e = .returned v ∧ StrsAt w' v (ofLs (tabsL [] s.data.toList))) ∧ Below w.heap.size w w' := by
  go_enter Try.func20, Try.ntmps20
  go_wp2
  go_loopw [3, 4, 5] (fun out fr i wr => TabsAt s w.heap.size w out fr i wr) (fun _ _ i _ => s.size - (intOf i).toNat)
  case atStart => exact ⟨[], 0, 0, by omega, by omega, rfl, rfl, by simp, by rw [ext_none]; rfl, RowS.nil _ _, Below.refl _ _, Nat.le_refl _⟩
  case round =>
    obtain ⟨had, f, k, hf, hk, rfl, rfl, hhl, hinv, hrow, hbe, hsz⟩ := hrel
    have HI := Lib.hid hinv
    have HR := Lib.hid hrow
    have hol : (ofLs had).length = had.length := List.length_map _
    clear hinv hrow
    by_cases hlt : k < s.size
    · by_cases h9 : s[k] = 9
      · have HN := Lib.hid (tabs_here s had f k hf hlt h9 HI.out)
        have hi := u8_is h9 9 rfl
        clear HI h9
        go_wp2_with (at_builtin; refine wpList_pushS rfl _ _ rfl HR.out rfl rfl (by omega) hsz ?_; intro v' w2 hrow' hB' hsz')
        have hbe2 := hB' _ _ hbe (Nat.le_refl _)
        rw [← ofLs_snoc] at hrow'
        have HR2 := Lib.hid hrow'
        clear hB' hrow' HR
        go_wp2
        go_roundw
        case rel => exact ⟨_, k + 1, k + 1, by omega, by omega, by go_num, by go_num, by rw [List.length_append]; simp; omega, HN.out, HR2.out, hbe2, hsz'⟩
        case measure => simp [intOf]; omega
      · have HN := Lib.hid (tabs_else s had f k hf hlt h9 HI.out)
        have hi := u8_isnt h9 9 rfl
        clear HI h9
        go_wp2
        go_roundw
        case rel => exact ⟨had, f, k + 1, by omega, by omega, rfl, by go_num, hhl, HN.out, HR.out, hbe, hsz⟩
        case measure => simp [intOf]; omega
    · have e : k = s.size := by omega
      subst e
      have HN := Lib.hid (tabs_last s had f _ (Nat.le_refl _) HI.out)
      clear HI
      go_wp2_with (at_builtin; refine wpList_pushS rfl _ _ rfl HR.out rfl rfl (by omega) hsz ?_; intro v' w2 hrow' hB' hsz')
      have hbe2 := hB' _ _ hbe (Nat.le_refl _)
      rw [← ofLs_snoc, ← HN.out] at hrow'
      have HS := Lib.hid hrow'.strs
      clear hB' hrow' HR HN
      go_wp2
      go_ret
      exact ⟨⟨_, rfl, HS.out⟩, hbe2⟩
end Go.Proofs.Yteoailanpmkcfaa
