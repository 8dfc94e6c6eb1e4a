/-
  What the statements of stage 6 use of lines, fields and escapes: plain facts of texts.
-/
import Derived.Test.YteoailanpmkcfaaLinesAlive
namespace Go.Proofs.Yteoailanpmkcfaa
open Go.RowKit
set_option linter.unusedVariables false

theorem ofLs_len (ls : List (List UInt8)) : (ofLs ls).length = ls.length := by unfold ofLs; rw [List.length_map]

theorem esc_back (s : ByteArray) : readV (unescL (escLB s.data.toList).data.toList) = .tuple #[.string s, .bool true] := by
  rw [escLB_list, (unescL_iff _ _).2 rfl]
  show Value.tuple #[.string ⟨s.data.toList.toArray⟩, .bool true] = _
  rw [← ba_list s]

theorem esc_lines (s : ByteArray) : (ofLs (linesL (escLB s.data.toList).data.toList)).length ≤ 1 := by
  rw [ofLs_len, escLB_list]
  exact splitL_none _ _ (escL_plain _).2.1

theorem esc_tabs (s : ByteArray) : (ofLs (tabsL [] (escLB s.data.toList).data.toList)).length = 1 := by
  rw [ofLs_len, escLB_list, tabsL_one _ _ (escL_plain _).1]
  rfl

theorem unesc_esc (s : ByteArray) (a : List UInt8) (h : unescL s.data.toList = some a) : escLB (ofL a).data.toList = s ∧ (ofL a).size ≤ s.size := by
  have e := (unescL_iff _ _).1 h
  have hl : (ofL a).data.toList = a := by simp [ofL]
  constructor
  · rw [hl]
    apply ba_ext
    rw [escLB_list, e]
  · have := escL_len a
    rw [e, list_len] at this
    have h2 := list_len (ofL a)
    rw [hl] at h2
    omega

theorem pct_back (s : ByteArray) : readV (unpctL (ofL (pctL s.data.toList)).data.toList) = .tuple #[.string s, .bool true] := by
  have hl : (ofL (pctL s.data.toList)).data.toList = pctL s.data.toList := by simp [ofL]
  rw [hl, (unpctL_iff _ _).2 rfl]
  show Value.tuple #[.string ⟨s.data.toList.toArray⟩, .bool true] = _
  rw [← ba_list s]

theorem unpct_pct (s : ByteArray) (a : List UInt8) (h : unpctL s.data.toList = some a) : ofL (pctL (ofL a).data.toList) = s ∧ (ofL a).size ≤ s.size := by
  have e := (unpctL_iff _ _).1 h
  have hl : (ofL a).data.toList = a := by simp [ofL]
  constructor
  · rw [hl, e]
    exact ofL_list s
  · have := pctL_len a
    rw [e, list_len] at this
    have h2 := list_len (ofL a)
    rw [hl] at h2
    omega

theorem pctB_size (s : ByteArray) : (ofL (pctL s.data.toList)).size ≤ 3 * s.size := by
  have h := pctL_le s.data.toList
  rw [list_len] at h
  have h2 := list_len (ofL (pctL s.data.toList))
  have hl : (ofL (pctL s.data.toList)).data.toList = pctL s.data.toList := by simp [ofL]
  rw [hl] at h2
  omega

theorem pctB_append (s t : ByteArray) : ofL (pctL (s ++ t).data.toList) = ofL (pctL s.data.toList) ++ ofL (pctL t.data.toList) := by
  apply ba_ext
  rw [app_list, app_list, pctL_append]
  simp [ofL]

theorem parts_lines (s t : ByteArray) : ofLs (linesL (s ++ ⟨#[10]⟩ ++ t).data.toList) = ofLs (linesL (s ++ ⟨#[10]⟩).data.toList) ++ ofLs (linesL t.data.toList) := by
  unfold ofLs linesL
  rw [← List.map_append, app_list, app_list]
  congr 1
  show splitL [] ((s.data.toList ++ [10]) ++ t.data.toList) = _
  rw [List.append_assoc]
  exact splitL_parts _ _ _

theorem parts_some (s : ByteArray) : 0 < (ofLs (linesL (s ++ ⟨#[10]⟩).data.toList)).length := by
  rw [ofLs_len, app_list]
  have h := splitL_some s.data.toList []
  cases hq : splitL [] (s.data.toList ++ [10]) with
  | nil => exact absurd hq h
  | cons x t =>
    show 0 < (splitL [] (s.data.toList ++ [10])).length
    rw [hq]
    simp

theorem splitL_count : ∀ (s cur : List UInt8), (splitL cur s).length ≤ s.length + 1
  | [], cur => by
    show (if cur = [] then ([] : List (List UInt8)) else [cur]).length ≤ _
    split <;> simp
  | c :: s, cur => by
    show (if c = 10 then chop cur :: splitL [] s else splitL (cur ++ [c]) s).length ≤ _
    split
    · have := splitL_count s []
      simp
      omega
    · have := splitL_count s (cur ++ [c])
      simp
      omega

theorem lines_count (s : ByteArray) : (ofLs (linesL s.data.toList)).length ≤ s.size + 1 := by
  rw [ofLs_len]
  have := splitL_count s.data.toList []
  rw [list_len] at this
  exact this

theorem chop_len (x : List UInt8) : (chop x).length ≤ x.length := by
  unfold chop
  split <;> simp

theorem splitL_each : ∀ (s cur x : List UInt8), x ∈ splitL cur s → x.length ≤ cur.length + s.length
  | [], cur, x, h => by
    have h' : x ∈ (if cur = [] then ([] : List (List UInt8)) else [cur]) := h
    split at h'
    · cases h'
    · rw [List.mem_singleton.1 h']
      simp
  | c :: s, cur, x, h => by
    have h' : x ∈ (if c = 10 then chop cur :: splitL [] s else splitL (cur ++ [c]) s) := h
    split at h'
    · rcases List.mem_cons.1 h' with rfl | h'
      · have := chop_len cur
        simp
        omega
      · have := splitL_each s [] x h'
        simp at this ⊢
        omega
    · have := splitL_each s (cur ++ [c]) x h'
      simp at this ⊢
      omega

theorem ofL_size (x : List UInt8) : (ofL x).size = x.length := by
  have h2 := list_len (ofL x)
  rw [← h2]
  simp [ofL]

theorem lines_each (s : ByteArray) : ∀ x ∈ ofLs (linesL s.data.toList), x.size ≤ s.size := by
  intro x hx
  unfold ofLs at hx
  obtain ⟨y, hy, rfl⟩ := List.mem_map.1 hx
  have := splitL_each s.data.toList [] y hy
  rw [list_len] at this
  rw [ofL_size]
  simp at this
  exact this

theorem tabsL_count : ∀ (s cur : List UInt8), (tabsL cur s).length ≤ s.length + 1
  | [], cur => by
    show [cur].length ≤ _
    simp
  | c :: s, cur => by
    show (if c = 9 then cur :: tabsL [] s else tabsL (cur ++ [c]) s).length ≤ _
    split
    · have := tabsL_count s []
      simp
      omega
    · have := tabsL_count s (cur ++ [c])
      simp
      omega

theorem tabsL_each : ∀ (s cur x : List UInt8), x ∈ tabsL cur s → x.length ≤ cur.length + s.length
  | [], cur, x, h => by
    have h' : x ∈ [cur] := h
    rw [List.mem_singleton.1 h']
    simp
  | c :: s, cur, x, h => by
    have h' : x ∈ (if c = 9 then cur :: tabsL [] s else tabsL (cur ++ [c]) s) := h
    split at h'
    · rcases List.mem_cons.1 h' with rfl | h'
      · simp
      · have := tabsL_each s [] x h'
        simp at this ⊢
        omega
    · have := tabsL_each s (cur ++ [c]) x h'
      simp at this ⊢
      omega

theorem tabs_count (s : ByteArray) : (ofLs (tabsL [] s.data.toList)).length ≤ s.size + 1 := by
  rw [ofLs_len]
  have := tabsL_count s.data.toList []
  rw [list_len] at this
  exact this

theorem tabs_some (s : ByteArray) : 0 < (ofLs (tabsL [] s.data.toList)).length := by
  rw [ofLs_len]
  obtain ⟨x, t, h⟩ := tabsL_cons [] s.data.toList
  rw [h]
  simp

theorem tabs_each (s : ByteArray) : ∀ x ∈ ofLs (tabsL [] s.data.toList), x.size ≤ s.size := by
  intro x hx
  unfold ofLs at hx
  obtain ⟨y, hy, rfl⟩ := List.mem_map.1 hx
  have := tabsL_each s.data.toList [] y hy
  rw [list_len] at this
  rw [ofL_size]
  simp at this
  exact this

/-- Fields of a text, put together, are the text, or none. -/
theorem tabbed_back (s : ByteArray) : (okFields (ofLs (tabsL [] s.data.toList)) = true ∧ tabbedV (ofLs (tabsL [] s.data.toList)) = .tuple #[.string s, .bool true]) ∨ (tabbedV (ofLs (tabsL [] s.data.toList)) = .tuple #[.string ByteArray.empty, .bool false]) := by
  cases hk : okFields (ofLs (tabsL [] s.data.toList)) with
  | false =>
    refine .inr ?_
    unfold tabbedV
    rw [hk]
    rfl
  | true =>
    refine .inl ⟨rfl, ?_⟩
    unfold tabbedV
    rw [hk, if_pos rfl]
    have e : tabbedB (ofLs (tabsL [] s.data.toList)) = s := by
      unfold tabbedB
      rw [toLs_of, tabbed_tabs, List.nil_append]
      exact ofL_list s
    have h0 : decide (0 < (ofLs (tabsL [] s.data.toList)).length) = true := by simpa using tabs_some s
    rw [e, h0]

/-- Lines of a text, ended, split again, are these. -/
theorem join_cases (l : List ByteArray) : (joinV l = .tuple #[.string (joinB l), .bool true] ∧ ofLs (linesL (joinB l).data.toList) = l) ∨ joinV l = .tuple #[.string ByteArray.empty, .bool false] := by
  cases hk : okLines l with
  | false =>
    refine .inr ?_
    unfold joinV
    rw [hk]
    rfl
  | true =>
    refine .inl ⟨by unfold joinV; rw [hk]; rfl, ?_⟩
    have e : (joinB l).data.toList = joinL (toLs l) := by simp [joinB, ofL]
    rw [e, lines_join _ hk, ofLs_to]

theorem tabbed_cases (l : List ByteArray) : (0 < l.length ∧ tabbedV l = .tuple #[.string (tabbedB l), .bool true] ∧ ofLs (tabsL [] (tabbedB l).data.toList) = l) ∨ (l = [] ∧ tabbedV l = .tuple #[.string ByteArray.empty, .bool false]) ∨ tabbedV l = .tuple #[.string ByteArray.empty, .bool false] := by
  cases hk : okFields l with
  | false =>
    refine .inr (.inr ?_)
    unfold tabbedV
    rw [hk]
    rfl
  | true =>
    by_cases hl : l = []
    · subst hl
      exact .inr (.inl ⟨rfl, rfl⟩)
    · have h0 : 0 < l.length := by
        cases l with
        | nil => exact absurd rfl hl
        | cons x t => simp
      refine .inl ⟨h0, ?_, ?_⟩
      · unfold tabbedV
        have hd : decide (0 < l.length) = true := by simpa using h0
        rw [hk, hd]
        rfl
      · have e : (tabbedB l).data.toList = tabbedL (toLs l) := by simp [tabbedB, ofL]
        have hne : toLs l ≠ [] := by
          cases l with
          | nil => exact absurd rfl hl
          | cons x t => simp [toLs]
        rw [e, tabs_tabbed _ hne hk, ofLs_to]
end Go.Proofs.Yteoailanpmkcfaa
