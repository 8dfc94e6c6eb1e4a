/-
  The document's own answers (package cracknelref11): Canon: a contract.
-/
import Derived.Test.YthempdglmhmfeaaDoorHosRefP
import Derived.Test.YthempdglmhmfeaaDoorHosRefQ
import Derived.Test.YthempdglmhmfeaaDoorAscLow
namespace Go.Proofs.YthempdglmhmfeaaDoor
open Go.RowKit
set_option linter.unusedVariables false

/-- What Canon answers of a text in small letters. -/
def canV (T : ByteArray) : Value := if hostB T.data.toList = true then .tuple #[.string T, .bool true] else .tuple #[.string ByteArray.empty, .bool false]

theorem canV_yes (T : ByteArray) (h : hostB T.data.toList = true) : canV T = .tuple #[.string T, .bool true] := by unfold canV; rw [if_pos h]
theorem canV_no (T : ByteArray) (h : hostB T.data.toList = false) : canV T = .tuple #[.string ByteArray.empty, .bool false] := by unfold canV; rw [if_neg (by rw [h]; decide)]

theorem hostB_at (T : ByteArray) (h1 : 1 ≤ T.size) (h2 : T.size ≤ 64) : hostB T.data.toList = (dotsL T.data.toList).all partB := by
  unfold hostB
  rw [list_len, decide_eq_true h1, decide_eq_true h2]
  rfl

theorem dots_len (l : List UInt8) : ∀ p, (dotG p l).length ≤ l.length + 1 := by
  induction l with
  | nil => intro p; exact Nat.le_refl _
  | cons c t ih =>
    intro p
    by_cases h : c = 46
    · subst h
      rw [dotG_dot]
      have := ih []
      simp only [List.length_cons]
      omega
    · rw [dotG_else _ _ _ h]
      have := ih (p ++ [c])
      simp only [List.length_cons]
      omega

theorem ofLs_at (l : List (List UInt8)) (k : Nat) (h : k < l.length) : (ofLs l)[k]'(by simpa [ofLs] using h) = ofL l[k] := by simp [ofLs]
theorem ofLs_len (l : List (List UInt8)) : (ofLs l).length = l.length := List.length_map _

theorem allp_step (l : List (List UInt8)) (p : List UInt8 → Bool) (k : Nat) (h : k < l.length) (h1 : (l.take k).all p = true) (h2 : p l[k] = true) : (l.take (k + 1)).all p = true := by
  rw [List.take_succ_eq_append_getElem h, List.all_append, h1]
  simp [h2]
theorem allp_not (l : List (List UInt8)) (p : List UInt8 → Bool) (k : Nat) (h : k < l.length) (h2 : p l[k] = false) : l.all p = false := by
  rw [Bool.eq_false_iff]
  intro h3
  rw [List.all_eq_true.1 h3 _ (List.getElem_mem h)] at h2
  cases h2

/-- The parts of a text are no longer than it. -/
theorem dot_part_len (l : List UInt8) : ∀ p, ∀ x ∈ dotG p l, x.length ≤ p.length + l.length := by
  induction l with
  | nil => intro p x hx; simp [dotG] at hx; subst hx; simp
  | cons c t ih =>
    intro p x hx
    by_cases h : c = 46
    · subst h
      rw [dotG_dot] at hx
      rcases List.mem_cons.1 hx with rfl | hx
      · simp
      · have := ih [] x hx
        simp at this ⊢
        omega
    · rw [dotG_else _ _ _ h] at hx
      have := ih _ x hx
      simp at this ⊢
      omega

def CanAt (ps : List (List UInt8)) (w0 : World) (gk : Nat) (i : Value) (wr : World) : Prop :=
  ∃ k : Nat, i = .int .i64 (k : Int) ∧ k + gk = ps.length + 1 ∧ 1 ≤ gk ∧ (ps.take k).all partB = true ∧ wr = w0

set_option maxRecDepth 100000 in
set_option maxHeartbeats 1600000 in
theorem rcanon_any (s : ByteArray) (w : World) (hs : s.size ≤ 281474976710656) :
    Calls Tryd.prog 32 #[.string s] w fun e w' => e = .returned (canV (lowB s)) ∧ Below w.heap.size w w' := by
  have HL := Lib.hid (rlower_any s · hs)
  obtain ⟨T, hT⟩ : ∃ T, T = lowB s := ⟨_, rfl⟩
  rw [← hT] at HL ⊢
  have hts : T.size ≤ 281474976710656 := by rw [hT, lowB_size]; exact hs
  clear hT
  go_enter Tryd.func32, Tryd.ntmps32
  go_wp2_with fail
  refine (HL.out _).mono ?_
  rintro _ w1 ⟨rfl, hb1⟩
  clear HL
  by_cases h0 : T.size = 0
  · have HV : Hid (canV T = .tuple #[.string ByteArray.empty, .bool false]) := by
      refine canV_no T ?_
      unfold hostB
      rw [list_len, h0]
      rfl
    go_wp2
    go_ret2
    exact ⟨congrArg Ending.returned HV.out.symm, hb1⟩
  by_cases h64 : 64 < T.size
  · have HV : Hid (canV T = .tuple #[.string ByteArray.empty, .bool false]) := by
      refine canV_no T ?_
      unfold hostB
      rw [list_len, decide_eq_false (show ¬ T.size ≤ 64 by omega), Bool.and_false, Bool.false_and]
    go_wp2
    go_ret2
    exact ⟨congrArg Ending.returned HV.out.symm, hb1⟩
  have HH := Lib.hid (hostB_at T (by omega) (by omega))
  obtain ⟨ps, hps⟩ : ∃ ps, ps = dotsL T.data.toList := ⟨_, rfl⟩
  have HD := Lib.hid (rdots_any T · (by omega))
  have hpl : ps.length ≤ 65 := by rw [hps]; have := dots_len T.data.toList []; rw [list_len] at this; show (dotG [] T.data.toList).length ≤ 65; omega
  have hpz : ∀ x ∈ ps, x.length ≤ 64 := by intro x hx; rw [hps] at hx; have := dot_part_len T.data.toList [] x hx; rw [list_len] at this; simp at this; omega
  rw [← hps] at HD HH
  have HZ := Lib.hid hpz
  clear hps hpz
  have e1 : decide ((T.size : Int) < 1) = false := decide_eq_false (by omega)
  have e2 : decide ((64 : Int) < (T.size : Int)) = false := decide_eq_false (by omega)
  go_wp2_with fail
  refine (HD.out _).mono ?_
  rintro _ w2 ⟨⟨v, rfl, hv⟩, hb⟩
  have hb2 := chain hb1 hb
  obtain ⟨ao, n, cap, rfl, hn, hc⟩ := hv.shape
  rw [ofLs_len] at hn
  subst hn
  have HC : Hid (∀ j (hj : j < ps.length), ∃ ad, ao = some ad ∧ w2.cell? (ad.add j) = some (.string (ofL ps[j]))) := by
    intro j hj
    obtain ⟨ad, h1, h2⟩ := hc j (by rw [ofLs_len]; exact hj)
    rw [ofLs_at ps j hj] at h2
    exact ⟨ad, h1, h2⟩
  clear hc hv hb hb1 HD e1 e2
  go_wp2_with fail
  go_loopg [5] (ps.length + 1) (fun gk i wr => CanAt ps w2 gk i wr)
  case atStart => exact ⟨0, rfl, by omega, by omega, rfl, rfl⟩
  case round =>
    obtain ⟨k, rfl, hk, hg, hall, rfl⟩ := hrel
    have HA := Lib.hid hall
    clear hall
    by_cases hlt : k < ps.length
    · obtain ⟨ad, rfl, hcl⟩ := HC.out k hlt
      have hki : (k : Int) < (ps.length : Int) := by omega
      have HP := Lib.hid (rpart_any (ofL ps[k]) · (by show (ps[k].toArray).size ≤ _; have := HZ.out _ (List.getElem_mem hlt); simp; omega))
      rw [show (ofL ps[k]).data.toList = ps[k] from rfl] at HP
      obtain ⟨p, hp⟩ : ∃ p, p = partB ps[k] := ⟨_, rfl⟩
      rw [← hp] at HP
      have HPB := Lib.hid hp
      clear hp HC
      generalize ofL ps[k] = P at hcl HP
      cases p
      · have HV : Hid (canV T = .tuple #[.string ByteArray.empty, .bool false]) := canV_no T (by rw [HH.out]; exact allp_not ps partB k hlt HPB.out.symm)
        go_wp2_with fail
        refine (HP.out _).mono ?_
        rintro _ wz ⟨rfl, rfl⟩
        go_wp2
        go_ret2
        exact ⟨congrArg Ending.returned HV.out.symm, hb2⟩
      · have HS := Lib.hid (allp_step ps partB k hlt HA.out HPB.out.symm)
        go_wp2_with fail
        refine (HP.out _).mono ?_
        rintro _ wz ⟨rfl, rfl⟩
        go_wp2
        go_roundg (gk - 1)
        case measure => omega
        case rel => exact ⟨k + 1, by go_num, by omega, by omega, HS.out, rfl⟩
    · have HV : Hid (canV T = .tuple #[.string T, .bool true]) := canV_yes T (by
        rw [HH.out]
        have := HA.out
        rw [List.take_of_length_le (by omega)] at this
        exact this)
      have hki : ¬ (k : Int) < (ps.length : Int) := by omega
      go_wp2
      go_ret2
      exact ⟨congrArg Ending.returned HV.out.symm, hb2⟩
end Go.Proofs.YthempdglmhmfeaaDoor
