/-
  The document's own answers (package cracknelref11): Parts: a contract.
  The document's own answers (package cracknelref11): part: a contract.
  The document's own answers (package cracknelref11): Canon: a contract.
  The document's own answers (package cracknelref11): Ip: a contract.
-/
import Derived.Test.YtkpdejnhjbojpaaDoorCkMa
import Derived.Test.YtkpdejnhjbojpaaDoorBaseOfL
import Derived.Test.YtkpdejnhjbojpaaDoorAscLow
import Derived.Test.YtkpdejnhjbojpaaDoorDecRrd
namespace Go.Proofs.YtkpdejnhjbojpaaDoor
open Go.RowKit
set_option linter.unusedVariables false

def DotsAt (s : ByteArray) (g : Nat) (w0 : World) (out fr i : Value) (wr : World) : Prop :=
  ∃ (had : List (List UInt8)) (f k : Nat), f ≤ k ∧ k ≤ s.size ∧ fr = .int .i64 (f : Int) ∧ i = .int .i64 (k : Int) ∧ had.length ≤ f ∧ dotsL s.data.toList = had ++ dotG (s.extract f k).data.toList (s.data.toList.drop k) ∧ RowS wr g out (ofLs had) ∧ Below g w0 wr ∧ g ≤ wr.heap.size

theorem dots_here (s : ByteArray) (had : List (List UInt8)) (f k : Nat) (hf : f ≤ k) (hk : k < s.size) (h9 : s[k] = 46) (h : dotsL s.data.toList = had ++ dotG (s.extract f k).data.toList (s.data.toList.drop k)) :
    dotsL s.data.toList = (had ++ [(s.extract f k).data.toList]) ++ dotG (s.extract (k + 1) (k + 1)).data.toList (s.data.toList.drop (k + 1)) := by
  rw [h, drop_cons s k hk, h9, dotG_dot, ext_none, List.append_assoc]
  rfl
theorem dots_else (s : ByteArray) (had : List (List UInt8)) (f k : Nat) (hf : f ≤ k) (hk : k < s.size) (h9 : s[k] ≠ 46) (h : dotsL s.data.toList = had ++ dotG (s.extract f k).data.toList (s.data.toList.drop k)) :
    dotsL s.data.toList = had ++ dotG (s.extract f (k + 1)).data.toList (s.data.toList.drop (k + 1)) := by
  rw [h, drop_cons s k hk, dotG_else _ _ _ h9, ext_snoc s f k hf hk]
theorem dots_last (s : ByteArray) (had : List (List UInt8)) (f k : Nat) (hk : s.size ≤ k) (h : dotsL s.data.toList = had ++ dotG (s.extract f k).data.toList (s.data.toList.drop k)) :
    dotsL s.data.toList = had ++ [(s.extract f k).data.toList] := by
  rw [h, List.drop_eq_nil_of_le (by rw [list_len]; exact hk)]
  rfl

set_option maxRecDepth 100000 in
set_option maxHeartbeats 800000 in
theorem rdots_any (s : ByteArray) (w : World) (hs : s.size ≤ 1000000000000) :
    Calls Tryd.prog 57 #[.string s] w fun e w' => (∃ v, e = .returned v ∧ StrsAt w' v (ofLs (dotsL s.data.toList))) ∧ Below w.heap.size w w' := by
  go_enter Tryd.func57, Tryd.ntmps57
  go_wp2
  go_loopw [3, 4, 5] (fun out fr i wr => DotsAt s w.heap.size w out fr i wr) (fun _ _ i _ => s.size - (intOf i).toNat)
  case atStart => exact ⟨[], 0, 0, by omega, by omega, rfl, rfl, by simp, by rw [ext_none]; rfl, RowS.nil _ _, Below.refl _ _, Nat.le_refl _⟩
  case round =>
    obtain ⟨had, f, k, hf, hk, rfl, rfl, hhl, hinv, hrow, hbe, hsz⟩ := hrel
    have HI := Lib.hid hinv
    have HR := Lib.hid hrow
    have hol : (ofLs had).length = had.length := List.length_map _
    clear hinv hrow
    by_cases hlt : k < s.size
    · by_cases h9 : s[k] = 46
      · have HN := Lib.hid (dots_here s had f k hf hlt h9 HI.out)
        have hi := u8_is h9 46 rfl
        clear HI h9
        go_wp2_with (at_builtin; refine wpList_pushS rfl _ _ rfl HR.out rfl rfl (by omega) hsz ?_; intro v' w2 hrow' hB' hsz')
        have hbe2 := hB' _ _ hbe (Nat.le_refl _)
        rw [← ofLs_snoc] at hrow'
        have HR2 := Lib.hid hrow'
        clear hB' hrow' HR
        go_wp2
        go_roundw
        case rel => exact ⟨_, k + 1, k + 1, by omega, by omega, by go_num, by go_num, by rw [List.length_append]; simp; omega, HN.out, HR2.out, hbe2, hsz'⟩
        case measure => simp [intOf]; omega
      · have HN := Lib.hid (dots_else s had f k hf hlt h9 HI.out)
        have hi := u8_isnt h9 46 rfl
        clear HI h9
        go_wp2
        go_roundw
        case rel => exact ⟨had, f, k + 1, by omega, by omega, rfl, by go_num, hhl, HN.out, HR.out, hbe, hsz⟩
        case measure => simp [intOf]; omega
    · have e : k = s.size := by omega
      subst e
      have HN := Lib.hid (dots_last s had f _ (Nat.le_refl _) HI.out)
      clear HI
      go_wp2_with (at_builtin; refine wpList_pushS rfl _ _ rfl HR.out rfl rfl (by omega) hsz ?_; intro v' w2 hrow' hB' hsz')
      have hbe2 := hB' _ _ hbe (Nat.le_refl _)
      rw [← ofLs_snoc, ← HN.out] at hrow'
      have HS := Lib.hid hrow'.strs
      clear hB' hrow' HR HN
      go_wp2
      go_ret
      exact ⟨⟨_, rfl, HS.out⟩, hbe2⟩
end Go.Proofs.YtkpdejnhjbojpaaDoor
namespace Go.Proofs.YtkpdejnhjbojpaaDoor
open Go.RowKit
set_option linter.unusedVariables false

theorem getD_byte (s : ByteArray) (k : Nat) (h : k < s.size) : s.data.toList.getD k 0 = s[k] := by
  rw [← bget s k h, List.getD_eq_getElem?_getD, List.getElem?_eq_getElem (by simpa using h)]
  rfl

theorem partB_at (s : ByteArray) (h : 0 < s.size) : partB s.data.toList = (decide (s.size ≤ 63) && decide (s[0] ≠ 45) && decide (s[s.size - 1] ≠ 45) && s.data.toList.all hostC) := by
  unfold partB
  rw [list_len, getD_byte s 0 h, getD_byte s (s.size - 1) (by omega), decide_eq_true (show 1 ≤ s.size by omega), Bool.true_and]

theorem hostC_yes (c : UInt8) (h : (97 ≤ c.toNat ∧ c.toNat ≤ 122) ∨ (48 ≤ c.toNat ∧ c.toNat ≤ 57) ∨ c.toNat = 45) : hostC c = true := by
  unfold hostC
  simp only [Bool.or_eq_true, Bool.and_eq_true, decide_eq_true_eq]
  omega
theorem hostC_no (c : UInt8) (h : ¬ ((97 ≤ c.toNat ∧ c.toNat ≤ 122) ∨ (48 ≤ c.toNat ∧ c.toNat ≤ 57) ∨ c.toNat = 45)) : hostC c = false := by
  rw [Bool.eq_false_iff]
  intro h2
  unfold hostC at h2
  simp only [Bool.or_eq_true, Bool.and_eq_true, decide_eq_true_eq] at h2
  omega

theorem all_step (l : List UInt8) (p : UInt8 → Bool) (k : Nat) (h : k < l.length) (h1 : (l.take k).all p = true) (h2 : p l[k] = true) : (l.take (k + 1)).all p = true := by
  rw [List.take_succ_eq_append_getElem h, List.all_append, h1]
  simp [h2]
theorem all_not (l : List UInt8) (p : UInt8 → Bool) (k : Nat) (h : k < l.length) (h2 : p l[k] = false) : l.all p = false := by
  rw [Bool.eq_false_iff]
  intro h3
  rw [List.all_eq_true.1 h3 _ (List.getElem_mem h)] at h2
  cases h2

def PartAt (s : ByteArray) (w0 : World) (gk : Nat) (i : Value) (wr : World) : Prop :=
  ∃ k : Nat, i = .int .i64 (k : Int) ∧ k + gk = s.size + 1 ∧ 1 ≤ gk ∧ (s.data.toList.take k).all hostC = true ∧ wr = w0

set_option maxRecDepth 100000 in
set_option maxHeartbeats 1600000 in
theorem rpart_any (s : ByteArray) (w : World) (hs : s.size ≤ 1000000000000) :
    Calls Tryd.prog 58 #[.string s] w fun e w' => e = .returned (.bool (partB s.data.toList)) ∧ w' = w := by
  by_cases h0 : s.size = 0
  · have HP : Hid (partB s.data.toList = false) := by
      show _ = _
      unfold partB
      rw [list_len, h0]
      rfl
    go_enter Tryd.func58, Tryd.ntmps58
    go_wp2
    go_ret
    exact ⟨ret_bool HP.out.symm, rfl⟩
  have hpos : 0 < s.size := by omega
  have HP := Lib.hid (partB_at s hpos)
  by_cases h63 : 63 < s.size
  · have HP2 : Hid (partB s.data.toList = false) := by
      show _ = _
      rw [HP.out, decide_eq_false (show ¬ s.size ≤ 63 by omega)]
      rfl
    go_enter Tryd.func58, Tryd.ntmps58
    go_wp2
    go_ret
    exact ⟨ret_bool HP2.out.symm, rfl⟩
  by_cases ha : s[0] = 45
  · have HP2 : Hid (partB s.data.toList = false) := by
      show _ = _
      rw [HP.out, decide_eq_false (show ¬ (s[0] ≠ 45) from fun h => h ha), Bool.and_false, Bool.false_and, Bool.false_and]
    have hi := u8_is ha 45 rfl
    clear ha
    go_enter Tryd.func58, Tryd.ntmps58
    go_wp2
    go_ret
    exact ⟨ret_bool HP2.out.symm, rfl⟩
  have hi := u8_isnt ha 45 rfl
  have hl : s.size - 1 < s.size := by omega
  by_cases hz : s[s.size - 1] = 45
  · have HP2 : Hid (partB s.data.toList = false) := by
      show _ = _
      rw [HP.out, decide_eq_false (show ¬ (s[s.size - 1] ≠ 45) from fun h => h hz), Bool.and_false, Bool.false_and]
    have hj := u8_is hz 45 rfl
    clear hz ha
    go_enter Tryd.func58, Tryd.ntmps58
    go_wp2
    go_ret
    exact ⟨ret_bool HP2.out.symm, rfl⟩
  have hj := u8_isnt hz 45 rfl
  have HP2 : Hid (partB s.data.toList = s.data.toList.all hostC) := by
    show _ = _
    rw [HP.out, decide_eq_true (show s.size ≤ 63 by omega), decide_eq_true ha, decide_eq_true hz]
    simp
  have hi2 : ((s[0].toNat : Int) == 45) = false := beq_eq_false_iff_ne.2 hi
  have hj2 : ((s[s.size - 1].toNat : Int) == 45) = false := beq_eq_false_iff_ne.2 hj
  have e1 : decide ((s.size : Int) < 1) = false := decide_eq_false (by omega)
  have e2 : decide ((63 : Int) < (s.size : Int)) = false := decide_eq_false (by omega)
  clear ha hz HP hi hj
  go_enter Tryd.func58, Tryd.ntmps58
  go_wp2
  go_loopg [3] (s.size + 1) (fun gk i wr => PartAt s w gk i wr)
  case atStart => exact ⟨0, rfl, by omega, by omega, rfl, rfl⟩
  case round =>
    clear hi2 hj2 e1 e2
    obtain ⟨k, rfl, hk, hg, hall, rfl⟩ := hrel
    have HA := Lib.hid hall
    clear hall
    by_cases hlt : k < s.size
    · have hkl : k < s.data.toList.length := by rw [list_len]; exact hlt
      have HB := Lib.hid (bget s k hlt)
      have HY := Lib.hid (hostC_yes s[k])
      have HN := Lib.hid (hostC_no s[k])
      obtain ⟨c, hc⟩ : ∃ c : Nat, c = s[k].toNat := ⟨_, rfl⟩
      rw [← hc] at HY HN
      have HC := Lib.hid hc
      rcases (show (97 ≤ (s[k].toNat : Int) ∧ (s[k].toNat : Int) ≤ 122) ∨ (¬ 97 ≤ (s[k].toNat : Int) ∧ 48 ≤ (s[k].toNat : Int) ∧ (s[k].toNat : Int) ≤ 57) ∨ (¬ 97 ≤ (s[k].toNat : Int) ∧ ¬ 48 ≤ (s[k].toNat : Int) ∧ (s[k].toNat : Int) = 45) ∨
        (97 ≤ (s[k].toNat : Int) ∧ ¬ (s[k].toNat : Int) ≤ 122 ∧ 48 ≤ (s[k].toNat : Int) ∧ ¬ (s[k].toNat : Int) ≤ 57 ∧ ¬ (s[k].toNat : Int) = 45) ∨ (¬ 97 ≤ (s[k].toNat : Int) ∧ 48 ≤ (s[k].toNat : Int) ∧ ¬ (s[k].toNat : Int) ≤ 57 ∧ ¬ (s[k].toNat : Int) = 45) ∨
        (¬ 97 ≤ (s[k].toNat : Int) ∧ ¬ 48 ≤ (s[k].toNat : Int) ∧ ¬ (s[k].toNat : Int) = 45) by omega) with ⟨g1, g2⟩ | ⟨g1, g2, g3⟩ | ⟨g1, g2, g3⟩ | ⟨g1, g2, g3, g4, g5⟩ | ⟨g1, g2, g3, g4⟩ | ⟨g1, g2, g3⟩
      case inl | inr.inl | inr.inr.inl =>
        have HS : Hid ((s.data.toList.take (k + 1)).all hostC = true) := all_step _ hostC k hkl HA.out (by rw [HB.out]; exact HY.out (by omega))
        clear hc
        go_wp2
        go_roundg (gk - 1)
        case measure => omega
        case rel => exact ⟨k + 1, by go_num, by omega, by omega, HS.out, rfl⟩
      all_goals
        have HS : Hid (partB s.data.toList = false) := by
          show _ = _
          rw [HP2.out]
          exact all_not _ hostC k hkl (by rw [HB.out]; exact HN.out (by omega))
        clear hc
        go_wp2
        go_ret
        exact ⟨ret_bool HS.out.symm, rfl⟩
    · have e : s.data.toList.take k = s.data.toList := List.take_of_length_le (by rw [list_len]; omega)
      have HS : Hid (partB s.data.toList = true) := by
        show _ = _
        rw [HP2.out, ← e]
        exact HA.out
      clear e
      go_wp2
      go_ret
      exact ⟨ret_bool HS.out.symm, rfl⟩
end Go.Proofs.YtkpdejnhjbojpaaDoor
namespace Go.Proofs.YtkpdejnhjbojpaaDoor
open Go.RowKit
set_option linter.unusedVariables false

/-- What Canon answers of a text in small letters. -/
def canV (T : ByteArray) : Value := if hostB T.data.toList = true then .tuple #[.string T, .bool true] else .tuple #[.string ByteArray.empty, .bool false]

theorem canV_yes (T : ByteArray) (h : hostB T.data.toList = true) : canV T = .tuple #[.string T, .bool true] := by unfold canV; rw [if_pos h]
theorem canV_no (T : ByteArray) (h : hostB T.data.toList = false) : canV T = .tuple #[.string ByteArray.empty, .bool false] := by unfold canV; rw [if_neg (by rw [h]; decide)]

theorem hostB_at (T : ByteArray) (h1 : 1 ≤ T.size) (h2 : T.size ≤ 64) : hostB T.data.toList = (dotsL T.data.toList).all partB := by
  unfold hostB
  rw [list_len, decide_eq_true h1, decide_eq_true h2]
  rfl

theorem dots_len (l : List UInt8) : ∀ p, (dotG p l).length ≤ l.length + 1 := by
  induction l with
  | nil => intro p; exact Nat.le_refl _
  | cons c t ih =>
    intro p
    by_cases h : c = 46
    · subst h
      rw [dotG_dot]
      have := ih []
      simp only [List.length_cons]
      omega
    · rw [dotG_else _ _ _ h]
      have := ih (p ++ [c])
      simp only [List.length_cons]
      omega

theorem ofLs_at (l : List (List UInt8)) (k : Nat) (h : k < l.length) : (ofLs l)[k]'(by simpa [ofLs] using h) = ofL l[k] := by simp [ofLs]
theorem ofLs_len (l : List (List UInt8)) : (ofLs l).length = l.length := List.length_map _

theorem allp_step (l : List (List UInt8)) (p : List UInt8 → Bool) (k : Nat) (h : k < l.length) (h1 : (l.take k).all p = true) (h2 : p l[k] = true) : (l.take (k + 1)).all p = true := by
  rw [List.take_succ_eq_append_getElem h, List.all_append, h1]
  simp [h2]
theorem allp_not (l : List (List UInt8)) (p : List UInt8 → Bool) (k : Nat) (h : k < l.length) (h2 : p l[k] = false) : l.all p = false := by
  rw [Bool.eq_false_iff]
  intro h3
  rw [List.all_eq_true.1 h3 _ (List.getElem_mem h)] at h2
  cases h2

/-- The parts of a text are no longer than it. -/
theorem dot_part_len (l : List UInt8) : ∀ p, ∀ x ∈ dotG p l, x.length ≤ p.length + l.length := by
  induction l with
  | nil => intro p x hx; simp [dotG] at hx; subst hx; simp
  | cons c t ih =>
    intro p x hx
    by_cases h : c = 46
    · subst h
      rw [dotG_dot] at hx
      rcases List.mem_cons.1 hx with rfl | hx
      · simp
      · have := ih [] x hx
        simp at this ⊢
        omega
    · rw [dotG_else _ _ _ h] at hx
      have := ih _ x hx
      simp at this ⊢
      omega

def CanAt (ps : List (List UInt8)) (w0 : World) (gk : Nat) (i : Value) (wr : World) : Prop :=
  ∃ k : Nat, i = .int .i64 (k : Int) ∧ k + gk = ps.length + 1 ∧ 1 ≤ gk ∧ (ps.take k).all partB = true ∧ wr = w0

set_option maxRecDepth 100000 in
set_option maxHeartbeats 1600000 in
theorem rcanon_any (s : ByteArray) (w : World) (hs : s.size ≤ 281474976710656) :
    Calls Tryd.prog 31 #[.string s] w fun e w' => e = .returned (canV (lowB s)) ∧ Below w.heap.size w w' := by
  have HL := Lib.hid (rlower_any s · hs)
  obtain ⟨T, hT⟩ : ∃ T, T = lowB s := ⟨_, rfl⟩
  rw [← hT] at HL ⊢
  have hts : T.size ≤ 281474976710656 := by rw [hT, lowB_size]; exact hs
  clear hT
  go_enter Tryd.func31, Tryd.ntmps31
  go_wp2_with fail
  refine (HL.out _).mono ?_
  rintro _ w1 ⟨rfl, hb1⟩
  clear HL
  by_cases h0 : T.size = 0
  · have HV : Hid (canV T = .tuple #[.string ByteArray.empty, .bool false]) := by
      refine canV_no T ?_
      unfold hostB
      rw [list_len, h0]
      rfl
    go_wp2
    go_ret2
    exact ⟨congrArg Ending.returned HV.out.symm, hb1⟩
  by_cases h64 : 64 < T.size
  · have HV : Hid (canV T = .tuple #[.string ByteArray.empty, .bool false]) := by
      refine canV_no T ?_
      unfold hostB
      rw [list_len, decide_eq_false (show ¬ T.size ≤ 64 by omega), Bool.and_false, Bool.false_and]
    go_wp2
    go_ret2
    exact ⟨congrArg Ending.returned HV.out.symm, hb1⟩
  have HH := Lib.hid (hostB_at T (by omega) (by omega))
  obtain ⟨ps, hps⟩ : ∃ ps, ps = dotsL T.data.toList := ⟨_, rfl⟩
  have HD := Lib.hid (rdots_any T · (by omega))
  have hpl : ps.length ≤ 65 := by rw [hps]; have := dots_len T.data.toList []; rw [list_len] at this; show (dotG [] T.data.toList).length ≤ 65; omega
  have hpz : ∀ x ∈ ps, x.length ≤ 64 := by intro x hx; rw [hps] at hx; have := dot_part_len T.data.toList [] x hx; rw [list_len] at this; simp at this; omega
  rw [← hps] at HD HH
  have HZ := Lib.hid hpz
  clear hps hpz
  have e1 : decide ((T.size : Int) < 1) = false := decide_eq_false (by omega)
  have e2 : decide ((64 : Int) < (T.size : Int)) = false := decide_eq_false (by omega)
  go_wp2_with fail
  refine (HD.out _).mono ?_
  rintro _ w2 ⟨⟨v, rfl, hv⟩, hb⟩
  have hb2 := chain hb1 hb
  obtain ⟨ao, n, cap, rfl, hn, hc⟩ := hv.shape
  rw [ofLs_len] at hn
  subst hn
  have HC : Hid (∀ j (hj : j < ps.length), ∃ ad, ao = some ad ∧ w2.cell? (ad.add j) = some (.string (ofL ps[j]))) := by
    intro j hj
    obtain ⟨ad, h1, h2⟩ := hc j (by rw [ofLs_len]; exact hj)
    rw [ofLs_at ps j hj] at h2
    exact ⟨ad, h1, h2⟩
  clear hc hv hb hb1 HD e1 e2
  go_wp2_with fail
  go_loopg [5] (ps.length + 1) (fun gk i wr => CanAt ps w2 gk i wr)
  case atStart => exact ⟨0, rfl, by omega, by omega, rfl, rfl⟩
  case round =>
    obtain ⟨k, rfl, hk, hg, hall, rfl⟩ := hrel
    have HA := Lib.hid hall
    clear hall
    by_cases hlt : k < ps.length
    · obtain ⟨ad, rfl, hcl⟩ := HC.out k hlt
      have hki : (k : Int) < (ps.length : Int) := by omega
      have HP := Lib.hid (rpart_any (ofL ps[k]) · (by show (ps[k].toArray).size ≤ _; have := HZ.out _ (List.getElem_mem hlt); simp; omega))
      rw [show (ofL ps[k]).data.toList = ps[k] from rfl] at HP
      obtain ⟨p, hp⟩ : ∃ p, p = partB ps[k] := ⟨_, rfl⟩
      rw [← hp] at HP
      have HPB := Lib.hid hp
      clear hp HC
      generalize ofL ps[k] = P at hcl HP
      cases p
      · have HV : Hid (canV T = .tuple #[.string ByteArray.empty, .bool false]) := canV_no T (by rw [HH.out]; exact allp_not ps partB k hlt HPB.out.symm)
        go_wp2_with fail
        refine (HP.out _).mono ?_
        rintro _ wz ⟨rfl, rfl⟩
        go_wp2
        go_ret2
        exact ⟨congrArg Ending.returned HV.out.symm, hb2⟩
      · have HS := Lib.hid (allp_step ps partB k hlt HA.out HPB.out.symm)
        go_wp2_with fail
        refine (HP.out _).mono ?_
        rintro _ wz ⟨rfl, rfl⟩
        go_wp2
        go_roundg (gk - 1)
        case measure => omega
        case rel => exact ⟨k + 1, by go_num, by omega, by omega, HS.out, rfl⟩
    · have HV : Hid (canV T = .tuple #[.string T, .bool true]) := canV_yes T (by
        rw [HH.out]
        have := HA.out
        rw [List.take_of_length_le (by omega)] at this
        exact this)
      have hki : ¬ (k : Int) < (ps.length : Int) := by omega
      go_wp2
      go_ret2
      exact ⟨congrArg Ending.returned HV.out.symm, hb2⟩
end Go.Proofs.YtkpdejnhjbojpaaDoor
namespace Go.Proofs.YtkpdejnhjbojpaaDoor
open Go.RowKit
set_option linter.unusedVariables false

/-- What Read tells of a part. -/
theorem read_part (p : List UInt8) (hp : p.length ≤ 1000000) :
    ∃ (n : Int) (b : Bool), (∀ w, Calls Tryd.prog 59 #[.string (ofL p)] w fun e w' => e = .returned (.tuple #[.int .i64 n, .bool b]) ∧ Below w.heap.size w w') ∧
      numB p = (b && (decide (0 ≤ n) && decide (n ≤ 255))) := by
  have hz : (ofL p).size ≤ maxLen := by
    show p.toArray.size ≤ maxLen
    unfold maxLen
    simp
    omega
  by_cases h : ∃ n : Int, -9223372036854775808 ≤ n ∧ n ≤ 9223372036854775807 ∧ printB n = ofL p
  · obtain ⟨n, h1, h2, h3⟩ := h
    refine ⟨n, true, fun w => rread_yes n (ofL p) w h1 h2 h3, ?_⟩
    have hl : printL n = p := by rw [← printB_list, h3]; rfl
    rw [Bool.true_and, Bool.eq_iff_iff]
    simp only [numB, decide_eq_true_eq, Bool.and_eq_true]
    constructor
    · rintro ⟨m, hm, he⟩
      have := printL_inj (m : Int) n (by omega) (by omega) h1 h2 (by rw [he, hl])
      omega
    · rintro ⟨g1, g2⟩
      exact ⟨n.toNat, by omega, by rw [show ((n.toNat : Nat) : Int) = n by omega]; exact hl⟩
  · refine ⟨0, false, fun w => rread_no (ofL p) w hz (fun n h1 h2 e => h ⟨n, h1, h2, e⟩), ?_⟩
    rw [Bool.false_and]
    simp only [numB, decide_eq_false_iff_not]
    rintro ⟨m, hm, he⟩
    exact h ⟨(m : Int), by omega, by omega, by apply ba_ext; rw [printB_list, he]; rfl⟩

def IpAt (ps : List (List UInt8)) (ao : Option Addr) (w0 : World) (gk : Nat) (i : Value) (wr : World) : Prop :=
  ∃ k : Nat, i = .int .i64 (k : Int) ∧ k + gk = ps.length + 1 ∧ 1 ≤ gk ∧ (ps.take k).all numB = true ∧ (∀ j (hj : j < ps.length), ∃ ad, ao = some ad ∧ wr.cell? (ad.add j) = some (.string (ofL ps[j]))) ∧ Below w0.heap.size w0 wr

theorem ipB_eq (l : List UInt8) : ipB l = (decide ((dotsL l).length = 4) && (dotsL l).all numB) := rfl

set_option maxRecDepth 100000 in
set_option maxHeartbeats 1600000 in
theorem rip_any (s : ByteArray) (w : World) (hs : s.size ≤ 100000) :
    Calls Tryd.prog 32 #[.string s] w fun e w' => e = .returned (.bool (ipB s.data.toList)) ∧ Below w.heap.size w w' := by
  have HI := Lib.hid (ipB_eq s.data.toList)
  obtain ⟨ps, hps⟩ : ∃ ps, ps = dotsL s.data.toList := ⟨_, rfl⟩
  have HD := Lib.hid (rdots_any s · (by omega))
  have hpl : ps.length ≤ 100001 := by rw [hps]; have := dots_len s.data.toList []; rw [list_len] at this; show (dotG [] s.data.toList).length ≤ 100001; omega
  have hpz : ∀ x ∈ ps, x.length ≤ 100000 := by intro x hx; rw [hps] at hx; have := dot_part_len s.data.toList [] x hx; rw [list_len] at this; simp at this; omega
  rw [← hps] at HD HI
  have HZ := Lib.hid hpz
  clear hps hpz
  go_enter Tryd.func32, Tryd.ntmps32
  go_wp2_with fail
  refine (HD.out _).mono ?_
  rintro _ w2 ⟨⟨v, rfl, hv⟩, hb2⟩
  obtain ⟨ao, n, cap, rfl, hn, hc⟩ := hv.shape
  rw [ofLs_len] at hn
  subst hn
  have HC : Hid (∀ j (hj : j < ps.length), ∃ ad, ao = some ad ∧ w2.cell? (ad.add j) = some (.string (ofL ps[j]))) := by
    intro j hj
    obtain ⟨ad, h1, h2⟩ := hc j (by rw [ofLs_len]; exact hj)
    rw [ofLs_at ps j hj] at h2
    exact ⟨ad, h1, h2⟩
  clear hc hv HD
  go_wp2_with fail
  go_loopg [4] (ps.length + 1) (fun gk i wr => IpAt ps ao w gk i wr)
  case atStart => exact ⟨0, rfl, by omega, by omega, rfl, HC.out, hb2⟩
  case round =>
    clear HC hb2
    obtain ⟨k, rfl, hk, hg, hall, hcc, hbe⟩ := hrel
    have HA := Lib.hid hall
    have HC := Lib.hid hcc
    clear hall hcc
    by_cases hlt : k < ps.length
    · obtain ⟨ad, rfl, hcl⟩ := HC.out k hlt
      have hki : (k : Int) < (ps.length : Int) := by omega
      obtain ⟨n, b, hread, hnum⟩ := read_part ps[k] (by have := HZ.out _ (List.getElem_mem hlt); omega)
      have HR := Lib.hid hread
      have HN := Lib.hid hnum
      clear hread hnum
      generalize ofL ps[k] = P at hcl HR
      by_cases hok : b = true ∧ 0 ≤ n ∧ n ≤ 255
      · obtain ⟨rfl, g1, g2⟩ := hok
        have HS := Lib.hid (allp_step ps numB k hlt HA.out (by rw [HN.out]; simp [g1, g2]))
        go_wp2_with fail
        refine (HR.out _).mono ?_
        rintro _ w3 ⟨rfl, hb⟩
        have hb3 := chain hbe hb
        have HC3 : Hid (∀ j (hj : j < ps.length), ∃ ad', some ad = some ad' ∧ w3.cell? (ad'.add j) = some (.string (ofL ps[j]))) := by
          intro j hj
          obtain ⟨ad', h1, h2⟩ := HC.out j hj
          exact ⟨ad', h1, by rw [hb.cell (World.block_lt_of_cell? _ _ h2)]; exact h2⟩
        clear hb hbe HC
        go_wp2
        go_roundg (gk - 1)
        case measure => omega
        case rel => exact ⟨k + 1, by go_num, by omega, by omega, HS.out, HC3.out, hb3⟩
      · have HV : Hid (ipB s.data.toList = false) := by
          show _ = _
          rw [HI.out, allp_not ps numB k hlt (by
            rw [HN.out, Bool.eq_false_iff]
            intro h
            simp only [Bool.and_eq_true, decide_eq_true_eq] at h
            exact hok h), Bool.and_false]
        rcases (show b = false ∨ (b = true ∧ n < 0) ∨ (b = true ∧ ¬ n < 0 ∧ 255 < n) by
          cases b
          · exact .inl rfl
          · by_cases h : n < 0
            · exact .inr (.inl ⟨rfl, h⟩)
            · exact .inr (.inr ⟨rfl, h, by
                rcases Int.lt_or_le 255 n with h2 | h2
                · exact h2
                · exact absurd ⟨rfl, by omega, h2⟩ hok⟩)) with rfl | ⟨rfl, g1⟩ | ⟨rfl, g1, g2⟩
        all_goals
          clear hok
          go_wp2_with fail
          refine (HR.out _).mono ?_
          rintro _ w3 ⟨rfl, hb⟩
          have hb3 := chain hbe hb
          clear hb hbe
          go_wp2
          go_ret
          exact ⟨ret_bool HV.out.symm, hb3⟩
    · have HV : Hid (ipB s.data.toList = decide (ps.length = 4)) := by
        show _ = _
        have := HA.out
        rw [List.take_of_length_le (by omega)] at this
        rw [HI.out, this, Bool.and_true]
      have hki : ¬ (k : Int) < (ps.length : Int) := by omega
      go_wp2
      go_ret
      exact ⟨ret_bool (by rw [HV.out, Bool.eq_iff_iff]; simp; omega), hbe⟩
end Go.Proofs.YtkpdejnhjbojpaaDoor
