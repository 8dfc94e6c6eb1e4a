/-
  The document's own Split (package cracknelref06): its contract.
-/
import Derived.Test.YteoailanpmkcfaaLinesRows
namespace Go.Proofs.Yteoailanpmkcfaa
open Go.RowKit
set_option linter.unusedVariables false

/-- What Split holds at place k, the line in hand begun at f. -/
def SplitAt (s : ByteArray) (g : Nat) (w0 : World) (out fr i : Value) (wr : World) : Prop :=
  ∃ (had : List (List UInt8)) (f k : Nat), f ≤ k ∧ k ≤ s.size ∧ fr = .int .i64 (f : Int) ∧ i = .int .i64 (k : Int) ∧ had.length ≤ f ∧ linesL s.data.toList = had ++ splitL (s.extract f k).data.toList (s.data.toList.drop k) ∧ RowS wr g out (ofLs had) ∧ Below g w0 wr ∧ g ≤ wr.heap.size

theorem split_here (s : ByteArray) (had : List (List UInt8)) (f k : Nat) (hf : f ≤ k) (hk : k < s.size) (h10 : s[k] = 10) (x : List UInt8) (hx : chop (s.extract f k).data.toList = x) (h : linesL s.data.toList = had ++ splitL (s.extract f k).data.toList (s.data.toList.drop k)) :
    linesL s.data.toList = (had ++ [x]) ++ splitL (s.extract (k + 1) (k + 1)).data.toList (s.data.toList.drop (k + 1)) := by
  rw [h, drop_cons s k hk, h10, ext_none, List.append_assoc, ← hx]
  congr 1
theorem split_else (s : ByteArray) (had : List (List UInt8)) (f k : Nat) (hf : f ≤ k) (hk : k < s.size) (h10 : s[k] ≠ 10) (h : linesL s.data.toList = had ++ splitL (s.extract f k).data.toList (s.data.toList.drop k)) :
    linesL s.data.toList = had ++ splitL (s.extract f (k + 1)).data.toList (s.data.toList.drop (k + 1)) := by
  rw [h, drop_cons s k hk, ext_snoc s f k hf hk]
  congr 1
  show (if s[k] = 10 then _ else _) = _
  rw [if_neg h10]
theorem split_last (s : ByteArray) (had : List (List UInt8)) (f k : Nat) (hk : s.size ≤ k) (hf : f < s.size) (hfk : f < k) (h : linesL s.data.toList = had ++ splitL (s.extract f k).data.toList (s.data.toList.drop k)) :
    linesL s.data.toList = had ++ [(s.extract f k).data.toList] := by
  rw [h, List.drop_eq_nil_of_le (by rw [list_len]; exact hk)]
  show had ++ (if (s.extract f k).data.toList = [] then [] else _) = _
  rw [if_neg]
  intro e
  have hl := list_len s
  have := congrArg List.length e
  rw [extract_list, List.length_take, List.length_drop] at this
  simp only [List.length_nil] at this
  omega
theorem split_none (s : ByteArray) (had : List (List UInt8)) (f k : Nat) (hk : s.size ≤ k) (hf : s.size ≤ f) (h : linesL s.data.toList = had ++ splitL (s.extract f k).data.toList (s.data.toList.drop k)) :
    linesL s.data.toList = had := by
  rw [h, List.drop_eq_nil_of_le (by rw [list_len]; exact hk)]
  show had ++ (if (s.extract f k).data.toList = [] then [] else _) = _
  rw [if_pos, List.append_nil]
  rw [extract_list, List.drop_eq_nil_of_le (by rw [list_len]; exact hf)]
  exact List.take_nil

/-- The line's end, without a byte 13. -/
theorem chop_yes (s : ByteArray) (f k : Nat) (hf : f < k) (hk : k < s.size) (h : s[k - 1] = 13) : chop (s.extract f k).data.toList = (s.extract f (k - 1)).data.toList := by
  have e := ext_snoc s f (k - 1) (by omega) (by omega)
  rw [show k - 1 + 1 = k by omega] at e
  rw [e, h]
  unfold chop
  rw [if_pos (by simp)]
  simp
theorem chop_no (s : ByteArray) (f k : Nat) (hf : f < k) (hk : k < s.size) (h : s[k - 1] ≠ 13) : chop (s.extract f k).data.toList = (s.extract f k).data.toList := by
  have e := ext_snoc s f (k - 1) (by omega) (by omega)
  rw [show k - 1 + 1 = k by omega] at e
  rw [e]
  unfold chop
  rw [if_neg]
  simpa using h

set_option maxRecDepth 100000 in
set_option maxHeartbeats 1600000 in
theorem rsplit_any (s : ByteArray) (w : World) (hs : s.size ≤ 1000000000000) :
    Calls Try.prog 14 #[.string s] w fun e w' => (∃ v, e = .returned v ∧ StrsAt w' v (ofLs (linesL s.data.toList))) ∧ Below w.heap.size w w' := by
  go_enter Try.func14, Try.ntmps14
  go_wp2
  go_loopw [3, 4, 5] (fun out fr i wr => SplitAt s w.heap.size w out fr i wr) (fun _ _ i _ => s.size - (intOf i).toNat)
  case atStart => exact ⟨[], 0, 0, by omega, by omega, rfl, rfl, by simp, by rw [ext_none]; rfl, RowS.nil _ _, Below.refl _ _, Nat.le_refl _⟩
  case round =>
    obtain ⟨had, f, k, hf, hk, rfl, rfl, hhl, hinv, hrow, hbe, hsz⟩ := hrel
    have HI := Lib.hid hinv
    have HR := Lib.hid hrow
    have hol : (ofLs had).length = had.length := List.length_map _
    clear hinv hrow
    by_cases hlt : k < s.size
    · by_cases h10 : s[k] = 10
      · have hi := u8_is h10 10 rfl
        rcases Nat.lt_or_ge f k with hfk | hfk
        · by_cases h13 : s[k - 1] = 13
          · have HN := Lib.hid (split_here s had f k hf hlt h10 _ (chop_yes s f k hfk hlt h13) HI.out)
            have hj := u8_is h13 13 rfl
            have c1 : ((k : Int) - 1) = ((k - 1 : Nat) : Int) := by omega
            clear HI h10 h13
            go_wp2_with (at_builtin; refine wpList_pushS rfl _ _ rfl HR.out rfl rfl (by omega) hsz ?_; intro v' w2 hrow' hB' hsz')
            have hbe2 := hB' _ _ hbe (Nat.le_refl _)
            rw [← ofLs_snoc] at hrow'
            have HR2 := Lib.hid hrow'
            clear hB' hrow' HR
            go_wp2
            go_roundw
            case rel => exact ⟨_, k + 1, k + 1, by omega, by omega, by go_num, by go_num, by rw [List.length_append]; simp; omega, HN.out, HR2.out, hbe2, hsz'⟩
            case measure => simp [intOf]; omega
          · have HN := Lib.hid (split_here s had f k hf hlt h10 _ (chop_no s f k hfk hlt h13) HI.out)
            have hj := u8_isnt h13 13 rfl
            have c1 : ((k : Int) - 1) = ((k - 1 : Nat) : Int) := by omega
            clear HI h10 h13
            go_wp2_with (at_builtin; refine wpList_pushS rfl _ _ rfl HR.out rfl rfl (by omega) hsz ?_; intro v' w2 hrow' hB' hsz')
            have hbe2 := hB' _ _ hbe (Nat.le_refl _)
            rw [← ofLs_snoc] at hrow'
            have HR2 := Lib.hid hrow'
            clear hB' hrow' HR
            go_wp2
            go_roundw
            case rel => exact ⟨_, k + 1, k + 1, by omega, by omega, by go_num, by go_num, by rw [List.length_append]; simp; omega, HN.out, HR2.out, hbe2, hsz'⟩
            case measure => simp [intOf]; omega
        · have ef : f = k := by omega
          subst ef
          have HN := Lib.hid (split_here s had f f hf hlt h10 ByteArray.empty.data.toList (by rw [ext_none]; rfl) HI.out)
          clear HI h10
          go_wp2_with (at_builtin; refine wpList_pushS rfl _ _ rfl HR.out rfl rfl (by omega) hsz ?_; intro v' w2 hrow' hB' hsz')
          have hbe2 := hB' _ _ hbe (Nat.le_refl _)
          rw [← ofLs_snoc] at hrow'
          have HR2 := Lib.hid hrow'
          clear hB' hrow' HR
          go_wp2
          go_roundw
          case rel => exact ⟨_, f + 1, f + 1, by omega, by omega, by go_num, by go_num, by rw [List.length_append]; simp; omega, HN.out, HR2.out, hbe2, hsz'⟩
          case measure => simp [intOf]; omega
      · have HN := Lib.hid (split_else s had f k hf hlt h10 HI.out)
        have hi := u8_isnt h10 10 rfl
        clear HI h10
        go_wp2
        go_roundw
        case rel => exact ⟨had, f, k + 1, by omega, by omega, rfl, by go_num, hhl, HN.out, HR.out, hbe, hsz⟩
        case measure => simp [intOf]; omega
    · have e : k = s.size := by omega
      subst e
      by_cases hfl : f < s.size
      · have HN := Lib.hid (split_last s had f _ (Nat.le_refl _) hfl hfl HI.out)
        clear HI
        go_wp2_with (at_builtin; refine wpList_pushS rfl _ _ rfl HR.out rfl rfl (by omega) hsz ?_; intro v' w2 hrow' hB' hsz')
        have hbe2 := hB' _ _ hbe (Nat.le_refl _)
        rw [← ofLs_snoc, ← HN.out] at hrow'
        have HS := Lib.hid hrow'.strs
        clear hB' hrow' HR HN
        go_wp2
        go_ret
        exact ⟨⟨_, rfl, HS.out⟩, hbe2⟩
      · have HN := Lib.hid (split_none s had f _ (Nat.le_refl _) (by omega) HI.out)
        have HS := Lib.hid HR.out.strs
        clear HI HR
        go_wp2
        go_ret
        exact ⟨⟨_, rfl, by rw [HN.out]; exact HS.out⟩, hbe⟩
end Go.Proofs.Yteoailanpmkcfaa
