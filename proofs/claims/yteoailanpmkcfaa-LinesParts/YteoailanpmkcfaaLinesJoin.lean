/-
  The document's own Tabbed (package cracknelref06): contracts.
-/
import Derived.Test.YteoailanpmkcfaaLinesRows
namespace Go.Proofs.Yteoailanpmkcfaa
open Go.RowKit
set_option linter.unusedVariables false

def toLs (l : List ByteArray) : List (List UInt8) := l.map (·.data.toList)

theorem toLs_of (ls : List (List UInt8)) : toLs (ofLs ls) = ls := by
  unfold toLs ofLs
  rw [List.map_map]
  have : ((fun (s : ByteArray) => s.data.toList) ∘ ofL) = id := by
    funext x
    simp [ofL]
  rw [this, List.map_id]
theorem ofLs_to (l : List ByteArray) : ofLs (toLs l) = l := by
  unfold toLs ofLs
  rw [List.map_map]
  have : (ofL ∘ fun (s : ByteArray) => s.data.toList) = id := by
    funext x
    exact ofL_list x
  rw [this, List.map_id]

theorem toLs_take (l : List ByteArray) (k : Nat) (hk : k < l.length) : toLs (l.take (k + 1)) = toLs (l.take k) ++ [l[k].data.toList] := by
  unfold toLs
  rw [List.take_succ_eq_append_getElem hk, List.map_append, List.map_singleton]

def joinB (l : List ByteArray) : ByteArray := ofL (joinL (toLs l))
def okLines (l : List ByteArray) : Bool := (toLs l).all okLine
def tabbedB (l : List ByteArray) : ByteArray := ofL (tabbedL (toLs l))
def okFields (l : List ByteArray) : Bool := (toLs l).all okField

theorem all_not (p : List UInt8 → Bool) (l : List ByteArray) (k : Nat) (hk : k < l.length) (h : p l[k].data.toList = false) : (toLs l).all p = false := by
  rw [← Bool.not_eq_true]
  intro ha
  rw [List.all_eq_true] at ha
  have := ha l[k].data.toList (List.mem_map.2 ⟨l[k], List.getElem_mem hk, rfl⟩)
  rw [h] at this
  cases this
theorem all_take (p : List UInt8 → Bool) (l : List ByteArray) (k : Nat) (hk : k < l.length) (h : p l[k].data.toList = true) (ha : (toLs (l.take k)).all p = true) : (toLs (l.take (k + 1))).all p = true := by
  rw [toLs_take l k hk, List.all_append, ha]
  simp [h]

theorem join_step (l : List ByteArray) (k : Nat) (hk : k < l.length) : joinB (l.take (k + 1)) = joinB (l.take k) ++ l[k] ++ ⟨#[10]⟩ := by
  apply ba_ext
  rw [app_list, app_list]
  unfold joinB
  rw [toLs_take l k hk]
  simp [ofL, joinL]

theorem joinL_len (M : Nat) : ∀ ls : List (List UInt8), (∀ x ∈ ls, x.length ≤ M) → (joinL ls).length ≤ ls.length * (M + 1)
  | [], _ => by simp [joinL]
  | x :: t, h => by
    have ih := joinL_len M t (fun y hy => h y (List.mem_cons_of_mem _ hy))
    have hx := h x (List.mem_cons_self ..)
    have e : joinL (x :: t) = x ++ [10] ++ joinL t := by simp [joinL]
    rw [e, List.length_append, List.length_append, List.length_cons, List.length_cons, Nat.add_mul]
    simp
    omega

theorem toLs_le (M : Nat) (l : List ByteArray) (h : ∀ s ∈ l, s.size ≤ M) : ∀ x ∈ toLs l, x.length ≤ M := by
  intro x hx
  obtain ⟨s, hs, rfl⟩ := List.mem_map.1 hx
  rw [list_len]
  exact h s hs

theorem joinB_size (l : List ByteArray) (h : ∀ s ∈ l, s.size ≤ 1000000) : (joinB l).size ≤ l.length * 1000001 := by
  have := joinL_len 1000000 (toLs l) (toLs_le _ l h)
  have hl : (toLs l).length = l.length := List.length_map _
  rw [hl] at this
  rw [← list_len]
  unfold joinB ofL
  simpa using this

theorem tabbed_snoc : ∀ (ls : List (List UInt8)) (x : List UInt8), tabbedL (ls ++ [x]) = if ls = [] then x else tabbedL ls ++ 9 :: x
  | [], x => rfl
  | [y], x => rfl
  | y :: z :: t, x => by
    have ih := tabbed_snoc (z :: t) x
    rw [if_neg (by simp)] at ih ⊢
    show y ++ 9 :: tabbedL (z :: t ++ [x]) = (y ++ 9 :: tabbedL (z :: t)) ++ 9 :: x
    rw [ih]
    simp

theorem tabbedL_le : ∀ ls : List (List UInt8), (tabbedL ls).length ≤ (joinL ls).length
  | [] => by simp [tabbedL]
  | [x] => by simp [tabbedL, joinL]
  | x :: y :: t => by
    have ih := tabbedL_le (y :: t)
    have e : joinL (x :: y :: t) = x ++ [10] ++ joinL (y :: t) := by simp [joinL]
    rw [e]
    show (x ++ 9 :: tabbedL (y :: t)).length ≤ _
    simp only [List.length_append, List.length_cons, List.length_nil]
    omega

theorem tabbedB_size (l : List ByteArray) (h : ∀ s ∈ l, s.size ≤ 1000000) : (tabbedB l).size ≤ l.length * 1000001 := by
  have h1 := joinB_size l h
  have h2 := tabbedL_le (toLs l)
  rw [← list_len] at h1 ⊢
  unfold joinB ofL at h1
  unfold tabbedB ofL
  simp only at h1 ⊢
  omega

theorem tabbed_first (l : List ByteArray) (hk : 0 < l.length) : tabbedB (l.take (0 + 1)) = tabbedB (l.take 0) ++ l[0] := by
  apply ba_ext
  rw [app_list]
  unfold tabbedB
  rw [toLs_take l 0 hk]
  simp [ofL, tabbedL, toLs]
theorem tabbed_step (l : List ByteArray) (k : Nat) (h0 : 0 < k) (hk : k < l.length) : tabbedB (l.take (k + 1)) = tabbedB (l.take k) ++ ⟨#[9]⟩ ++ l[k] := by
  apply ba_ext
  rw [app_list, app_list]
  unfold tabbedB
  rw [toLs_take l k hk, tabbed_snoc, if_neg]
  · simp [ofL]
  · intro e
    have := congrArg List.length e
    unfold toLs at this
    rw [List.length_map, List.length_take] at this
    simp only [List.length_nil] at this
    omega

theorem at_rhas (s : ByteArray) (c : UInt8) (C : Int) (b : Bool) (w : World) (hC : C = (c.toNat : Int)) (hs : s.size ≤ maxLen) (hb : hasC s c = b) :
    Calls Try.prog 36 #[.string s, .int .u8 C] w fun e w' => e = .returned (.bool b) ∧ w = w' := by
  subst hb
  exact rhas_any s c C w hC hs

/-- The last byte. -/
theorem last_list (t : ByteArray) (h : 0 < t.size) : t.data.toList.getLast? = some t[t.size - 1] := by
  have hl := list_len t
  rw [List.getLast?_eq_getElem?, hl, List.getElem?_eq_getElem (by omega), bget t _ (by omega)]
theorem last_none (t : ByteArray) (h : t.size = 0) : t.data.toList.getLast? = none := by
  have hl := list_len t
  have : t.data.toList = [] := List.length_eq_zero_iff.1 (by omega)
  rw [this]
  rfl

def joinV (l : List ByteArray) : Value := if okLines l then .tuple #[.string (joinB l), .bool true] else .tuple #[.string ByteArray.empty, .bool false]
def tabbedV (l : List ByteArray) : Value := if okFields l then .tuple #[.string (tabbedB l), .bool (decide (0 < l.length))] else .tuple #[.string ByteArray.empty, .bool false]

/-- What Join holds at place k. -/
def JoinAt (l : List ByteArray) (g : Nat) (w0 : World) (out i : Value) (wr : World) : Prop :=
  ∃ k : Nat, k ≤ l.length ∧ out = .string (joinB (l.take k)) ∧ i = .int .i64 (k : Int) ∧ okLines (l.take k) = true ∧ Below g w0 wr
def TabbedAt (l : List ByteArray) (g : Nat) (w0 : World) (out i : Value) (wr : World) : Prop :=
  ∃ k : Nat, k ≤ l.length ∧ out = .string (tabbedB (l.take k)) ∧ i = .int .i64 (k : Int) ∧ okFields (l.take k) = true ∧ Below g w0 wr

set_option maxRecDepth 100000 in
set_option maxHeartbeats 1600000 in
theorem rtabbed_any (v : Value) (l : List ByteArray) (w : World) (hv : StrsAt w v l) (hl : l.length ≤ 10000) (hs : ∀ s ∈ l, s.size ≤ 1000000) :
    Calls Try.prog 19 #[v] w fun e w' => e = .returned (tabbedV l) ∧ Below w.heap.size w w' := by
  obtain ⟨ao, n, cap, rfl, hn, hcell⟩ := hv.shape
  have HC := Lib.hid hcell
  have HSZ := Lib.hid hs
  have n1 : n ≤ l.length := by omega
  have n2 : l.length ≤ n := by omega
  clear hcell hv hn hs
  go_enter Try.func19, Try.ntmps19
  go_wp2
  go_loopw [4, 5] (fun out i wr => TabbedAt l w.heap.size w out i wr) (fun _ i _ => n - (intOf i).toNat)
  case atStart => exact ⟨0, by omega, rfl, rfl, rfl, Below.refl _ _⟩
  case round =>
    obtain ⟨k, hk, rfl, rfl, ha, hbe⟩ := hrel
    have HA := Lib.hid ha
    clear ha
    by_cases hlt : k < l.length
    · obtain ⟨ad, rfl, hcl0⟩ := HC.out k hlt
      have hcl : wr.cell? (ad.add k) = some (.string l[k]) := by
        rw [hbe.cell (World.block_lt_of_cell? w _ hcl0)]
        exact hcl0
      have hz := tabbedB_size (l.take k) (fun s h => HSZ.out s (List.mem_of_mem_take h))
      rw [List.length_take] at hz
      have htz := HSZ.out l[k] (List.getElem_mem hlt)
      obtain ⟨t, ht⟩ : ∃ t, t = l[k] := ⟨_, rfl⟩
      obtain ⟨o, ho⟩ : ∃ o, o = tabbedB (l.take k) := ⟨_, rfl⟩
      rw [← ht] at hcl htz
      rw [← ho] at hz ⊢
      have HT := Lib.hid ht
      have HO := Lib.hid ho
      have hss1 : o.size + 1 ≤ 9223372036854775807 := by omega
      have hss2 : o.size + 1 + t.size ≤ 9223372036854775807 := by omega
      have hss3 : o.size + t.size ≤ 9223372036854775807 := by omega
      have htm : t.size ≤ maxLen := by unfold maxLen; omega
      clear ht ho HC hcl0 hz htz HSZ
      have HBAD : Hid (okField t.data.toList = false → tabbedV l = .tuple #[.string ByteArray.empty, .bool false]) := by
        show _ → _
        intro h
        rw [HT.out] at h
        unfold tabbedV okFields
        rw [all_not okField l k hlt h]
        rfl
      have HGOOD : Hid (okField t.data.toList = true → okFields (l.take (k + 1)) = true) := by
        show _ → _
        intro h
        rw [HT.out] at h
        exact all_take okField l k hlt h HA.out
      have HF : Hid (okField t.data.toList = (!hasC t 9 && !hasC t 10 && !hasC t 13)) := rfl
      have HM := Lib.hid htm
      clear HA htm
      cases h9 : hasC t 9 with
      | true =>
        have HE : Hid (tabbedV l = .tuple #[.string ByteArray.empty, .bool false]) := HBAD.out (by rw [HF.out, h9]; rfl)
        have H9 := Lib.hid h9
        clear HBAD HGOOD HF h9
        go_wp2_with fail
        refine (at_rhas t 9 _ true _ rfl HM.out H9.out).mono ?_
        rintro _ w1 ⟨rfl, rfl⟩
        clear H9
        go_wp2
        go_ret2
        rw [HE.out]
        exact ⟨rfl, hbe⟩
      | false =>
        have H9 := Lib.hid h9
        clear h9
        cases h10 : hasC t 10 with
        | true =>
          have HE : Hid (tabbedV l = .tuple #[.string ByteArray.empty, .bool false]) := HBAD.out (by rw [HF.out, H9.out, h10]; rfl)
          have H10 := Lib.hid h10
          clear HBAD HGOOD HF h10
          go_wp2_with fail
          refine (at_rhas t 9 _ false _ rfl HM.out H9.out).mono ?_
          rintro _ w1 ⟨rfl, rfl⟩
          clear H9
          go_wp2_with fail
          refine (at_rhas t 10 _ true _ rfl HM.out H10.out).mono ?_
          rintro _ w1 ⟨rfl, rfl⟩
          clear H10
          go_wp2
          go_ret2
          rw [HE.out]
          exact ⟨rfl, hbe⟩
        | false =>
          have H10 := Lib.hid h10
          clear h10
          cases h13 : hasC t 13 with
          | true =>
            have HE : Hid (tabbedV l = .tuple #[.string ByteArray.empty, .bool false]) := HBAD.out (by rw [HF.out, H9.out, H10.out, h13]; rfl)
            have H13 := Lib.hid h13
            clear HBAD HGOOD HF h13
            go_wp2_with fail
            refine (at_rhas t 9 _ false _ rfl HM.out H9.out).mono ?_
            rintro _ w1 ⟨rfl, rfl⟩
            clear H9
            go_wp2_with fail
            refine (at_rhas t 10 _ false _ rfl HM.out H10.out).mono ?_
            rintro _ w1 ⟨rfl, rfl⟩
            clear H10
            go_wp2_with fail
            refine (at_rhas t 13 _ true _ rfl HM.out H13.out).mono ?_
            rintro _ w1 ⟨rfl, rfl⟩
            clear H13
            go_wp2
            go_ret2
            rw [HE.out]
            exact ⟨rfl, hbe⟩
          | false =>
            have HE : Hid (okFields (l.take (k + 1)) = true) := HGOOD.out (by rw [HF.out, H9.out, H10.out, h13]; rfl)
            have H13 := Lib.hid h13
            clear HBAD HGOOD HF h13
            go_wp2_with fail
            refine (at_rhas t 9 _ false _ rfl HM.out H9.out).mono ?_
            rintro _ w1 ⟨rfl, rfl⟩
            clear H9
            go_wp2_with fail
            refine (at_rhas t 10 _ false _ rfl HM.out H10.out).mono ?_
            rintro _ w1 ⟨rfl, rfl⟩
            clear H10
            go_wp2_with fail
            refine (at_rhas t 13 _ false _ rfl HM.out H13.out).mono ?_
            rintro _ w1 ⟨rfl, rfl⟩
            clear H13
            rcases Nat.eq_zero_or_pos k with rfl | hk0
            · have HST := Lib.hid (tabbed_first l hlt)
              have hc0 : wr.cell? ad = some (.string t) := by simpa [Addr.add] using hcl
              go_wp2
              go_roundw
              case rel => exact ⟨0 + 1, by omega, by rw [HST.out, ← HO.out, ← HT.out], by go_num, HE.out, hbe⟩
              case measure => simp [intOf]; omega
            · have HST := Lib.hid (tabbed_step l k hk0 hlt)
              go_wp2
              go_roundw
              case rel => exact ⟨k + 1, by omega, by rw [HST.out, ← HO.out, ← HT.out], by go_num, HE.out, hbe⟩
              case measure => simp [intOf]; omega
    · have ek : l.take k = l := List.take_of_length_le (by omega)
      have en : l.length = n := by omega
      have HE : Hid (tabbedV l = .tuple #[.string (tabbedB l), .bool (decide (0 < n))]) := by
        show _ = _
        have h := HA.out
        rw [ek] at h
        unfold tabbedV
        rw [h, en]
        rfl
      rw [ek]
      clear ek HA HC HSZ en
      rcases Nat.eq_zero_or_pos n with rfl | h0
      · go_wp2
        go_ret2
        rw [HE.out]
        exact ⟨rfl, hbe⟩
      · have HD := Lib.hid (decide_eq_true h0)
        go_wp2
        go_ret2
        rw [HE.out, HD.out]
        exact ⟨rfl, hbe⟩
end Go.Proofs.Yteoailanpmkcfaa
