/-
  The document's own answers (package cracknelref01): the classes, Trim and Cut: contracts.
-/
import Derived.Test.YtecgdibpfbnfgaaMth
import Derived.Test.YtecgdibpfbnfgaaRef
namespace Go.Proofs.Ytecgdibpfbnfgaa
open Go.RowKit

set_option maxHeartbeats 400000 in
theorem rcut_no (s : ByteArray) (d : Int) (w : World) (hs : s.size ≤ maxLen) (h : firstAt (fun c => c == d) s.data.toList = s.size) :
    Calls Try.prog 22 #[.string s, .int .u8 d] w fun e w' => e = .returned (.tuple #[.string s, .string ByteArray.empty, .bool false]) ∧ Below w.heap.size w w' := by
  have H := Lib.hid h
  clear h
  unfold maxLen at hs
  go_enter Try.func22, Try.ntmps22
  go_wp2
  go_loop [7] (fun i => ∃ k : Nat, k ≤ s.size ∧ i = .int .i64 k ∧ firstAt (fun c => c == d) (s.data.toList.take k) = k) (fun i => s.size - (intOf i).toNat)
  case atStart => exact ⟨0, Nat.zero_le _, rfl, by simp [firstAt]⟩
  case round =>
    obtain ⟨k, hk, rfl, hno⟩ := hrel
    have Hno := Lib.hid hno
    clear hno
    by_cases hlt : k < s.size
    · have hne : ((s[k].toNat : Int) == d) = false := by
        cases hb : ((s[k].toNat : Int) == d)
        · rfl
        · have := firstAt_hit (fun c => c == d) s.data.toList k (by simpa using hlt) Hno.out (by rw [bget s k hlt]; exact hb)
          rw [H.out] at this
          omega
      have Hst := Lib.hid (firstAt_miss (fun c => c == d) s.data.toList k (by simpa using hlt) Hno.out (by rw [bget s k hlt]; exact hne))
      go_wp2
      go_round
      case rel => exact ⟨k + 1, by omega, by go_num, Hst.out⟩
      case measure => simp [intOf]; omega
    · go_wp2
      go_ret3
      exact ⟨rfl, Below.refl _ _⟩

set_option maxHeartbeats 400000 in
theorem rcut_yes (s : ByteArray) (d : Int) (n : Nat) (w : World) (hs : s.size ≤ maxLen) (h : firstAt (fun c => c == d) s.data.toList = n) (hn : n < s.size) :
    Calls Try.prog 22 #[.string s, .int .u8 d] w fun e w' => e = .returned (.tuple #[.string (s.extract 0 n), .string (s.extract (n + 1) s.size), .bool true]) ∧ Below w.heap.size w w' := by
  have H := Lib.hid h
  clear h
  unfold maxLen at hs
  go_enter Try.func22, Try.ntmps22
  go_wp2
  go_loop [7] (fun i => ∃ k : Nat, k ≤ s.size ∧ i = .int .i64 k ∧ firstAt (fun c => c == d) (s.data.toList.take k) = k) (fun i => s.size - (intOf i).toNat)
  case atStart => exact ⟨0, Nat.zero_le _, rfl, by simp [firstAt]⟩
  case round =>
    obtain ⟨k, hk, rfl, hno⟩ := hrel
    have Hno := Lib.hid hno
    clear hno
    by_cases hlt : k < s.size
    · cases hb : ((s[k].toNat : Int) == d)
      · have Hst := Lib.hid (firstAt_miss (fun c => c == d) s.data.toList k (by simpa using hlt) Hno.out (by rw [bget s k hlt]; exact hb))
        go_wp2
        go_round
        case rel => exact ⟨k + 1, by omega, by go_num, Hst.out⟩
        case measure => simp [intOf]; omega
      · have hh := firstAt_hit (fun c => c == d) s.data.toList k (by simpa using hlt) Hno.out (by rw [bget s k hlt]; exact hb)
        rw [H.out] at hh
        subst hh
        clear Hno H
        go_wp2
        go_quiet (fail)
        go_wp2
        go_ret3
        exact ⟨rfl, below_drewN (Below.refl _ _) _⟩
    · have e : k = s.size := by omega
      subst e
      have h1 := Hno.out
      rw [List.take_of_length_le (by simp), H.out] at h1
      omega

set_option maxHeartbeats 400000 in
theorem rplain_any (s : ByteArray) (w : World) (hs : s.size ≤ maxLen) :
    Calls Try.prog 18 #[.string s] w fun e w' => e = .returned (.bool (allB (inSpans plainL) s)) ∧ w = w' := by
  unfold maxLen at hs
  go_enter Try.func18, Try.ntmps18
  go_wp2
  go_loop [3] (fun i => ∃ k : Nat, k ≤ s.size ∧ i = .int .i64 k ∧ firstAt (fun c => !inSpans plainL c) (s.data.toList.take k) = k) (fun i => s.size - (intOf i).toNat)
  case atStart => exact ⟨0, Nat.zero_le _, rfl, by simp [firstAt]⟩
  case round =>
    obtain ⟨k, hk, rfl, hno⟩ := hrel
    have Hno := Lib.hid hno
    clear hno
    by_cases hlt : k < s.size
    · have Hn := Lib.hid (allB_no (inSpans plainL) s k hlt Hno.out)
      have Hs := Lib.hid (allB_step (inSpans plainL) s k hlt Hno.out)
      rcases (show (s[k].toNat < 33 ∨ 126 < s[k].toNat ∨ s[k].toNat = 59) ∨ ((33 ≤ s[k].toNat ∧ s[k].toNat < 59) ∨ (59 < s[k].toNat ∧ s[k].toNat ≤ 126)) from by omega) with h | h
      · have hf : inSpans plainL (s[k].toNat : Int) = false := by simp [inSpans, plainL]; omega
        have Hf := Lib.hid hf
        clear hf
        rcases h with h | h | h
        · go_wp2
          go_ret
          exact ⟨ret_bool (Hn.out Hf.out).symm, rfl⟩
        · go_wp2
          go_ret
          exact ⟨ret_bool (Hn.out Hf.out).symm, rfl⟩
        · have h2 : ((s[k].toNat : Int) == 59) = true := by simp; omega
          have h3 : ¬ (s[k].toNat : Int) < 33 := by omega
          have h4 : ¬ (126 : Int) < (s[k].toNat : Int) := by omega
          clear h
          go_wp2
          go_ret
          exact ⟨ret_bool (Hn.out Hf.out).symm, rfl⟩
      · have hf : inSpans plainL (s[k].toNat : Int) = true := by simp [inSpans, plainL]; omega
        have Hf := Lib.hid hf
        clear hf
        rcases h with ⟨h, h'⟩ | ⟨h, h'⟩
        all_goals
          have h2 : ((s[k].toNat : Int) == 59) = false := by simp; omega
          go_wp2
          go_round
          case rel => exact ⟨k + 1, by omega, by go_num, Hs.out Hf.out⟩
          case measure => simp [intOf]; omega
    · have e : k = s.size := by omega
      subst e
      go_wp2
      go_ret
      exact ⟨ret_bool (allB_yes _ _ Hno.out).symm, rfl⟩

set_option maxHeartbeats 400000 in
theorem roctets_any (s : ByteArray) (w : World) (hs : s.size ≤ maxLen) :
    Calls Try.prog 16 #[.string s] w fun e w' => e = .returned (.bool (allB (inSpans octL) s)) ∧ w = w' := by
  unfold maxLen at hs
  go_enter Try.func16, Try.ntmps16
  go_wp2
  go_loop [3] (fun i => ∃ k : Nat, k ≤ s.size ∧ i = .int .i64 k ∧ firstAt (fun c => !inSpans octL c) (s.data.toList.take k) = k) (fun i => s.size - (intOf i).toNat)
  case atStart => exact ⟨0, Nat.zero_le _, rfl, by simp [firstAt]⟩
  case round =>
    obtain ⟨k, hk, rfl, hno⟩ := hrel
    have Hno := Lib.hid hno
    clear hno
    by_cases hlt : k < s.size
    · have Hn := Lib.hid (allB_no (inSpans octL) s k hlt Hno.out)
      have Hs := Lib.hid (allB_step (inSpans octL) s k hlt Hno.out)
      go_wp2_with fail
      refine (octet_any _ _).mono ?_
      rintro _ w' ⟨rfl, rfl⟩
      cases hb : inSpans octL (s[k].toNat : Int)
      · have Hb := Lib.hid hb
        clear hb
        go_wp2
        go_ret
        exact ⟨ret_bool (Hn.out Hb.out).symm, rfl⟩
      · have Hb := Lib.hid hb
        clear hb
        go_wp2
        go_round
        case rel => exact ⟨k + 1, by omega, by go_num, Hs.out Hb.out⟩
        case measure => simp [intOf]; omega
    · have e : k = s.size := by omega
      subst e
      go_wp2
      go_ret
      exact ⟨ret_bool (allB_yes _ _ Hno.out).symm, rfl⟩

theorem list_len (s : ByteArray) : s.data.toList.length = s.size := by simp

theorem size_pos_list (s : ByteArray) : s.toList.isEmpty = !decide ((0 : Int) < (s.size : Int)) := by
  have h : s.toList.isEmpty = true ↔ s.size = 0 := by rw [ByteArray.toList_eq, List.isEmpty_iff, ← List.length_eq_zero_iff, list_len]
  by_cases h0 : s.size = 0
  · rw [h.2 h0, h0]
    rfl
  · have h1 : s.toList.isEmpty = false := by rw [← Bool.not_eq_true, h]; exact h0
    have h2 : decide ((0 : Int) < (s.size : Int)) = true := by rw [decide_eq_true_eq]; omega
    rw [h1, h2]
    rfl

set_option maxHeartbeats 400000 in
theorem rtoken_any (s : ByteArray) (w : World) (hs : s.size ≤ maxLen) :
    Calls Try.prog 14 #[.string s] w fun e w' => e = .returned (.bool (tokenB s)) ∧ w = w' := by
  unfold maxLen at hs
  have HT : Hid (tokenB s = (decide ((0 : Int) < (s.size : Int)) && allB (inSpans tokL) s)) := by
    show _ = _
    unfold tokenB
    rw [size_pos_list]
    simp
  go_enter Try.func14, Try.ntmps14
  go_wp2
  go_loop [3] (fun i => ∃ k : Nat, k ≤ s.size ∧ i = .int .i64 k ∧ firstAt (fun c => !inSpans tokL c) (s.data.toList.take k) = k) (fun i => s.size - (intOf i).toNat)
  case atStart => exact ⟨0, Nat.zero_le _, rfl, by simp [firstAt]⟩
  case round =>
    obtain ⟨k, hk, rfl, hno⟩ := hrel
    have Hno := Lib.hid hno
    clear hno
    by_cases hlt : k < s.size
    · have Hn := Lib.hid (allB_no (inSpans tokL) s k hlt Hno.out)
      have Hs := Lib.hid (allB_step (inSpans tokL) s k hlt Hno.out)
      go_wp2_with fail
      refine (name_any _ _).mono ?_
      rintro _ w' ⟨rfl, rfl⟩
      cases hb : inSpans tokL (s[k].toNat : Int)
      · have Hb := Lib.hid hb
        clear hb
        go_wp2
        go_ret
        exact ⟨ret_bool (by rw [HT.out, Hn.out Hb.out]; simp), rfl⟩
      · have Hb := Lib.hid hb
        clear hb
        go_wp2
        go_round
        case rel => exact ⟨k + 1, by omega, by go_num, Hs.out Hb.out⟩
        case measure => simp [intOf]; omega
    · have e : k = s.size := by omega
      subst e
      go_wp2
      go_ret
      exact ⟨ret_bool (by rw [HT.out, allB_yes _ _ Hno.out]; simp), rfl⟩

def strOf : Value → ByteArray | .string s => s | _ => ByteArray.empty

def Front (s t : ByteArray) : Prop := ∃ a, s.data.toList = a ++ t.data.toList ∧ a.all bl = true

def Mid (s t : ByteArray) : Prop := ∃ a z, s.data.toList = a ++ t.data.toList ++ z ∧ a.all bl = true ∧ z.all bl = true ∧ (t.data.toList = [] ∨ ∃ c r, t.data.toList = c :: r ∧ bl c = false)

theorem front_step {s t : ByteArray} (h : Front s t) (h0 : 0 < t.size) (hb : inSpans blankL (t[0].toNat : Int) = true) : Front s (t.extract 1 t.size) := by
  obtain ⟨a, e, ha⟩ := h
  have hl := list_len t
  have hg := bget t 0 h0
  have hd : t.data.toList = t[0] :: t.data.toList.drop 1 := by
    rw [← hg]
    exact (List.drop_eq_getElem_cons (i := 0) (by omega))
  refine ⟨a ++ [t[0]], ?_, ?_⟩
  · rw [extract_list, List.take_of_length_le (by simp), e]
    conv => lhs; rw [hd]
    simp
  · rw [List.all_append, ha]
    simpa [bl] using hb

theorem front_mid {s t : ByteArray} (h : Front s t) (ht : t.size = 0 ∨ ∃ h0 : 0 < t.size, inSpans blankL (t[0].toNat : Int) = false) : Mid s t := by
  obtain ⟨a, e, ha⟩ := h
  have hl := list_len t
  refine ⟨a, [], by simpa using e, ha, rfl, ?_⟩
  rcases ht with h0 | ⟨h0, hb⟩
  · left
    exact List.length_eq_zero_iff.1 (by omega)
  · right
    refine ⟨t[0], t.data.toList.drop 1, ?_, hb⟩
    rw [← bget t 0 h0]
    exact (List.drop_eq_getElem_cons (i := 0) (by omega))

theorem last_split (t : ByteArray) (h0 : 0 < t.size) (hk : t.size - 1 < t.size) : t.data.toList = t.data.toList.take (t.size - 1) ++ [t[t.size - 1]] := by
  have hl := list_len t
  rw [← bget t (t.size - 1) hk]
  rw [← List.take_succ_eq_append_getElem (by omega)]
  exact (List.take_of_length_le (by omega)).symm

theorem mid_step {s t : ByteArray} (h : Mid s t) (h0 : 0 < t.size) (hk : t.size - 1 < t.size) (hb : inSpans blankL (t[t.size - 1].toNat : Int) = true) : Mid s (t.extract 0 (t.size - 1)) := by
  obtain ⟨a, z, e, ha, hz, ht⟩ := h
  have hs := last_split t h0 hk
  have hx : (t.extract 0 (t.size - 1)).data.toList = t.data.toList.take (t.size - 1) := by rw [extract_list]; simp
  refine ⟨a, t[t.size - 1] :: z, ?_, ha, ?_, ?_⟩
  · rw [hx, e]
    conv => lhs; rw [hs]
    simp
  · rw [List.all_cons, hz]
    simpa [bl] using hb
  · rw [hx]
    rcases ht with h1 | ⟨c, r, h1, h2⟩
    · left; rw [h1]; simp
    · by_cases h3 : t.size - 1 = 0
      · left; rw [h3]; simp
      · right
        refine ⟨c, r.take (t.size - 2), ?_, h2⟩
        rw [h1]
        have e2 : t.size - 1 = (t.size - 2) + 1 := by omega
        rw [e2, List.take_succ_cons]

theorem mid_done {s t : ByteArray} (h : Mid s t) (ht2 : t.size = 0 ∨ ∃ (_ : 0 < t.size) (hk : t.size - 1 < t.size), inSpans blankL (t[t.size - 1].toNat : Int) = false) : t = trimB s := by
  apply ba_ext
  rw [trimB_list]
  obtain ⟨a, z, e, ha, hz, ht⟩ := h
  have hl := list_len t
  refine Trimmed.eq ⟨a, z, e, ha, hz, ?_⟩
  rcases ht with h1 | h1
  · exact .inl h1
  · rcases ht2 with h2 | ⟨h0, hk, hb⟩
    · left
      exact List.length_eq_zero_iff.1 (by omega)
    · exact .inr ⟨h1, t[t.size - 1], t.data.toList.take (t.size - 1), last_split t h0 hk, hb⟩

set_option maxHeartbeats 1600000 in
theorem rtrim_any (s : ByteArray) (w : World) (hs : s.size ≤ maxLen) :
    Calls Try.prog 20 #[.string s] w fun e w' => e = .returned (.string (trimB s)) ∧ w = w' := by
  unfold maxLen at hs
  go_enter Try.func20, Try.ntmps20
  go_wp2
  go_loop [0] (fun v => ∃ t, v = .string t ∧ t.size ≤ s.size ∧ Front s t) (fun v => (strOf v).size)
  case atStart => exact ⟨s, rfl, Nat.le_refl _, [], rfl, rfl⟩
  case round =>
    obtain ⟨t, rfl, hts, hfr⟩ := hrel
    by_cases h0 : 0 < t.size
    · go_wp2_with fail
      refine (blank_any _ _).mono ?_
      rintro _ w' ⟨rfl, rfl⟩
      cases hb : inSpans blankL (t[0].toNat : Int)
      · have HM := front_mid hfr (.inr ⟨h0, hb⟩)
        clear hb hfr
        go_wp2
        go_loop [0] (fun v => ∃ u, v = .string u ∧ u.size ≤ s.size ∧ Mid s u) (fun v => (strOf v).size)
        case atStart => exact ⟨t, rfl, hts, HM⟩
        case round =>
          obtain ⟨u, rfl, hus, hmi⟩ := hrel
          clear HM hts
          by_cases h1 : 0 < u.size
          · have hk : u.size - 1 < u.size := by omega
            go_wp2_with fail
            refine (blank_any _ _).mono ?_
            rintro _ w' ⟨rfl, rfl⟩
            cases hb : inSpans blankL (u[u.size - 1].toNat : Int)
            · have E := Lib.hid (mid_done hmi (.inr ⟨h1, hk, hb⟩))
              clear hb
              go_wp2
              go_ret
              exact ⟨ret_str E.out, rfl⟩
            · have HF := mid_step hmi h1 hk hb
              clear hb
              go_wp2
              go_round
              case rel => exact ⟨_, rfl, by rw [ByteArray.size_extract]; omega, HF⟩
              case measure => show (u.extract 0 (u.size - 1)).size < u.size; rw [ByteArray.size_extract]; omega
          · have e := mid_done hmi (.inl (by omega))
            have E := Lib.hid e
            clear e
            go_wp2
            go_ret
            exact ⟨ret_str E.out, rfl⟩
      · have HF := front_step hfr h0 hb
        have Hb := Lib.hid hb
        clear hb hfr
        go_wp2
        go_round
        case rel => exact ⟨_, rfl, by rw [ByteArray.size_extract]; omega, HF⟩
        case measure => show (t.extract 1 t.size).size < t.size; rw [ByteArray.size_extract]; omega
    · have HM := front_mid hfr (.inl (by omega))
      clear hfr
      go_wp2
      go_loop [0] (fun v => ∃ u, v = .string u ∧ u.size ≤ s.size ∧ Mid s u) (fun v => (strOf v).size)
      case atStart => exact ⟨t, rfl, hts, HM⟩
      case round =>
        obtain ⟨u, rfl, hus, hmi⟩ := hrel
        clear HM hts
        by_cases h1 : 0 < u.size
        · have hk : u.size - 1 < u.size := by omega
          go_wp2_with fail
          refine (blank_any _ _).mono ?_
          rintro _ w' ⟨rfl, rfl⟩
          cases hb : inSpans blankL (u[u.size - 1].toNat : Int)
          · have E := Lib.hid (mid_done hmi (.inr ⟨h1, hk, hb⟩))
            clear hb
            go_wp2
            go_ret
            exact ⟨ret_str E.out, rfl⟩
          · have HF := mid_step hmi h1 hk hb
            clear hb
            go_wp2
            go_round
            case rel => exact ⟨_, rfl, by rw [ByteArray.size_extract]; omega, HF⟩
            case measure => show (u.extract 0 (u.size - 1)).size < u.size; rw [ByteArray.size_extract]; omega
        · have e := mid_done hmi (.inl (by omega))
          have E := Lib.hid e
          clear e
          go_wp2
          go_ret
          exact ⟨ret_str E.out, rfl⟩
end Go.Proofs.Ytecgdibpfbnfgaa
