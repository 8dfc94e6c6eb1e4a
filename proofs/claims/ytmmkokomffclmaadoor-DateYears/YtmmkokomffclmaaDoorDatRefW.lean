/-
  The document's own answers (package cracknelref10): Words: a contract.
-/
import Derived.Test.YtmmkokomffclmaaDoorDatRefA
import Derived.Test.YtmmkokomffclmaaDoorBaseRows
namespace Go.Proofs.YtmmkokomffclmaaDoor
open Go.RowKit
set_option linter.unusedVariables false

/-- Words as texts. -/
def wsB (l : List (List UInt8)) : List ByteArray := l.map fun w => ⟨w.toArray⟩
theorem wsB_snoc (l : List (List UInt8)) (b : ByteArray) : wsB (l ++ [b.data.toList]) = wsB l ++ [b] := by simp [wsB]

theorem one_list (s : ByteArray) (k : Nat) (h : k < s.size) : (s.extract k (k + 1)).data.toList = [s[k]] := by
  rw [extract_list]
  have h' : k < s.data.toList.length := by simpa using h
  rw [show k + 1 - k = 1 by omega, List.drop_eq_getElem_cons h', bget s k h]
  rfl

def WordsAt (s : ByteArray) (g : Nat) (w0 : World) (gk : Nat) (out wd i : Value) (wr : World) : Prop :=
  ∃ (had : List (List UInt8)) (b : ByteArray) (k : Nat), wd = .string b ∧ i = .int .i64 (k : Int) ∧ k + gk = s.size + 1 ∧ 1 ≤ gk ∧ b.size ≤ k ∧ had.length ≤ k ∧
    wordsL s.data.toList = had ++ wordsG b.data.toList (s.data.toList.drop k) ∧ RowS wr g out (wsB had) ∧ Below g w0 wr ∧ g ≤ wr.heap.size

theorem words_else (s : ByteArray) (had : List (List UInt8)) (b : ByteArray) (k : Nat) (hk : k < s.size) (h9 : partC s[k] = false) (h : wordsL s.data.toList = had ++ wordsG b.data.toList (s.data.toList.drop k)) :
    wordsL s.data.toList = had ++ wordsG (b ++ s.extract k (k + 1)).data.toList (s.data.toList.drop (k + 1)) := by
  rw [h, drop_cons s k hk, wordsG_keep _ _ _ h9, app_list, one_list s k hk]

theorem words_full (s : ByteArray) (had : List (List UInt8)) (b : ByteArray) (k : Nat) (hk : k < s.size) (h9 : partC s[k] = true) (hb : b.size ≠ 0) (h : wordsL s.data.toList = had ++ wordsG b.data.toList (s.data.toList.drop k)) :
    wordsL s.data.toList = (had ++ [b.data.toList]) ++ wordsG ByteArray.empty.data.toList (s.data.toList.drop (k + 1)) := by
  have hne : b.data.toList ≠ [] := by
    intro e
    have := congrArg List.length e
    rw [list_len] at this
    exact hb this
  rw [h, drop_cons s k hk, wordsG_part _ _ _ h9, List.append_assoc]
  congr 2
  simp [flushW, hne]

theorem words_none (s : ByteArray) (had : List (List UInt8)) (b : ByteArray) (k : Nat) (hk : k < s.size) (h9 : partC s[k] = true) (hb : b.size = 0) (h : wordsL s.data.toList = had ++ wordsG b.data.toList (s.data.toList.drop k)) :
    wordsL s.data.toList = had ++ wordsG ByteArray.empty.data.toList (s.data.toList.drop (k + 1)) := by
  have he : b.data.toList = [] := List.length_eq_zero_iff.1 (by rw [list_len]; exact hb)
  rw [h, drop_cons s k hk, wordsG_part _ _ _ h9, he]
  rfl

theorem words_end (s : ByteArray) (had : List (List UInt8)) (b : ByteArray) (k : Nat) (hk : s.size ≤ k) (h : wordsL s.data.toList = had ++ wordsG b.data.toList (s.data.toList.drop k)) :
    (b.size = 0 → wordsL s.data.toList = had) ∧ (b.size ≠ 0 → wordsL s.data.toList = had ++ [b.data.toList]) := by
  rw [List.drop_eq_nil_of_le (by rw [list_len]; exact hk)] at h
  refine ⟨fun hb => ?_, fun hb => ?_⟩
  · have he : b.data.toList = [] := List.length_eq_zero_iff.1 (by rw [list_len]; exact hb)
    rw [h, he]
    simp [wordsG, flushW]
  · have hne : b.data.toList ≠ [] := by
      intro e
      have := congrArg List.length e
      rw [list_len] at this
      exact hb this
    rw [h]
    simp [wordsG, flushW, hne]

set_option maxRecDepth 100000 in
set_option maxHeartbeats 1600000 in
theorem rwords_any (s : ByteArray) (w : World) (hs : s.size ≤ 1000000000) :
    Calls Tryd.prog 28 #[.string s] w fun e w' => (∃ v, e = .returned v ∧ RowS w' w.heap.size v (wsB (wordsL s.data.toList))) ∧ Below w.heap.size w w' := by
  go_enter Tryd.func28, Tryd.ntmps28
  go_wp2
  go_loopg [3, 4, 5] (s.size + 1) (fun gk out wd i wr => WordsAt s w.heap.size w gk out wd i wr)
  case atStart => exact ⟨[], ByteArray.empty, 0, rfl, rfl, by omega, by omega, by decide, by simp, rfl, RowS.nil _ _, Below.refl _ _, Nat.le_refl _⟩
  case round =>
    obtain ⟨had, b, k, rfl, rfl, hk, hg1, hbk, hhk, hinv, hrow, hbe, hsz⟩ := hrel
    have HI := Lib.hid hinv
    have HR := Lib.hid hrow
    have hol : (wsB had).length = had.length := List.length_map _
    clear hinv hrow
    by_cases hlt : k < s.size
    · obtain ⟨c, hc⟩ : ∃ c, c = partC s[k] := ⟨_, rfl⟩
      have HC := Lib.hid hc
      have HP := Lib.hid (rparts_any s[k])
      rw [← hc] at HP
      clear hc
      cases c
      · have HN := Lib.hid (words_else s had b k hlt HC.out.symm HI.out)
        have he1 : (s.extract k (k + 1)).size = 1 := by rw [← list_len, one_list s k hlt]; rfl
        clear HI
        go_wp2_with fail
        refine (HP.out _).mono ?_
        rintro _ wz ⟨rfl, rfl⟩
        go_wp2
        go_roundg (gk - 1)
        case measure => omega
        case rel => exact ⟨had, b ++ s.extract k (k + 1), k + 1, by first | rfl | go_num, by go_num, by omega, by omega, by rw [ByteArray.size_append]; omega, by omega, HN.out, HR.out, hbe, hsz⟩
      · by_cases hb : b.size = 0
        · have HN := Lib.hid (words_none s had b k hlt HC.out.symm hb HI.out)
          have hbe' : b.toList = [] := by rw [ByteArray.toList_eq]; exact List.length_eq_zero_iff.1 (by rw [list_len]; exact hb)
          have hbe2 : b.toList.isEmpty = true := by rw [hbe']; rfl
          clear HI
          go_wp2_with fail
          refine (HP.out _).mono ?_
          rintro _ wz ⟨rfl, rfl⟩
          go_wp2
          go_roundg (gk - 1)
          case measure => omega
          case rel => exact ⟨had, ByteArray.empty, k + 1, by first | rfl | go_num, by go_num, by omega, by omega, by simp, by omega, HN.out, HR.out, hbe, hsz⟩
        · have HN := Lib.hid (words_full s had b k hlt HC.out.symm hb HI.out)
          have hbe' : b.toList ≠ [] := by
            rw [ByteArray.toList_eq]
            intro e
            have := congrArg List.length e
            rw [list_len] at this
            exact hb this
          have hbe2 : b.toList.isEmpty = false := by cases h : b.toList with | nil => exact absurd h hbe' | cons x t => rfl
          clear HI
          go_wp2_with fail
          refine (HP.out _).mono ?_
          rintro _ wz ⟨rfl, rfl⟩
          go_wp2_with (at_builtin; refine wpList_pushS rfl _ _ rfl HR.out rfl rfl (by omega) hsz ?_; intro v' w2 hrow' hB' hsz')
          have hbe3 := hB' _ _ hbe (Nat.le_refl _)
          rw [← wsB_snoc] at hrow'
          have HR2 := Lib.hid hrow'
          clear hB' hrow' HR
          go_wp2
          go_roundg (gk - 1)
          case measure => omega
          case rel => exact ⟨had ++ [b.data.toList], ByteArray.empty, k + 1, by first | rfl | go_num, by go_num, by omega, by omega, by simp, by rw [List.length_append]; simp; omega, HN.out, HR2.out, hbe3, hsz'⟩
    · have e : k = s.size := by omega
      subst e
      have HE := Lib.hid (words_end s had b _ (Nat.le_refl _) HI.out)
      by_cases hb : b.size = 0
      · have HN := Lib.hid (HE.out.1 hb)
        have hbe' : b.toList = [] := by rw [ByteArray.toList_eq]; exact List.length_eq_zero_iff.1 (by rw [list_len]; exact hb)
        have hbe2 : b.toList.isEmpty = true := by rw [hbe']; rfl
        have HS := HR
        rw [← HN.out] at HS
        clear HI HE
        go_wp2
        go_ret
        exact ⟨⟨_, rfl, HS.out⟩, hbe⟩
      · have HN := Lib.hid (HE.out.2 hb)
        have hbe' : b.toList ≠ [] := by
          rw [ByteArray.toList_eq]
          intro e
          have := congrArg List.length e
          rw [list_len] at this
          exact hb this
        have hbe2 : b.toList.isEmpty = false := by cases h : b.toList with | nil => exact absurd h hbe' | cons x t => rfl
        clear HI HE
        go_wp2_with (at_builtin; refine wpList_pushS rfl _ _ rfl HR.out rfl rfl (by omega) hsz ?_; intro v' w2 hrow' hB' hsz')
        have hbe3 := hB' _ _ hbe (Nat.le_refl _)
        rw [← wsB_snoc, ← HN.out] at hrow'
        have HS := Lib.hid hrow'
        clear hB' hrow' HR HN
        go_wp2
        go_ret
        exact ⟨⟨_, rfl, HS.out⟩, hbe3⟩
end Go.Proofs.YtmmkokomffclmaaDoor
