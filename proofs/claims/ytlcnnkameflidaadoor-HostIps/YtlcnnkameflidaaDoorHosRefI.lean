/-
  The document's own answers (package cracknelref11): Ip: a contract.
-/
import Derived.Test.YtlcnnkameflidaaDoorHosRefC
import Derived.Test.YtlcnnkameflidaaDoorDecRrd
namespace Go.Proofs.YtlcnnkameflidaaDoor
open Go.RowKit
set_option linter.unusedVariables false

/-- What Read tells of a part. -/
theorem read_part (p : List UInt8) (hp : p.length ≤ 1000000) :
    ∃ (n : Int) (b : Bool), (∀ w, Calls Tryd.prog 27 #[.string (ofL p)] w fun e w' => e = .returned (.tuple #[.int .i64 n, .bool b]) ∧ Below w.heap.size w w') ∧
      numB p = (b && (decide (0 ≤ n) && decide (n ≤ 255))) := by
  have hz : (ofL p).size ≤ maxLen := by
    show p.toArray.size ≤ maxLen
    unfold maxLen
    simp
    omega
  by_cases h : ∃ n : Int, -9223372036854775808 ≤ n ∧ n ≤ 9223372036854775807 ∧ printB n = ofL p
  · obtain ⟨n, h1, h2, h3⟩ := h
    refine ⟨n, true, fun w => rread_yes n (ofL p) w h1 h2 h3, ?_⟩
    have hl : printL n = p := by rw [← printB_list, h3]; rfl
    rw [Bool.true_and, Bool.eq_iff_iff]
    simp only [numB, decide_eq_true_eq, Bool.and_eq_true]
    constructor
    · rintro ⟨m, hm, he⟩
      have := printL_inj (m : Int) n (by omega) (by omega) h1 h2 (by rw [he, hl])
      omega
    · rintro ⟨g1, g2⟩
      exact ⟨n.toNat, by omega, by rw [show ((n.toNat : Nat) : Int) = n by omega]; exact hl⟩
  · refine ⟨0, false, fun w => rread_no (ofL p) w hz (fun n h1 h2 e => h ⟨n, h1, h2, e⟩), ?_⟩
    rw [Bool.false_and]
    simp only [numB, decide_eq_false_iff_not]
    rintro ⟨m, hm, he⟩
    exact h ⟨(m : Int), by omega, by omega, by apply ba_ext; rw [printB_list, he]; rfl⟩

def IpAt (ps : List (List UInt8)) (ao : Option Addr) (w0 : World) (gk : Nat) (i : Value) (wr : World) : Prop :=
  ∃ k : Nat, i = .int .i64 (k : Int) ∧ k + gk = ps.length + 1 ∧ 1 ≤ gk ∧ (ps.take k).all numB = true ∧ (∀ j (hj : j < ps.length), ∃ ad, ao = some ad ∧ wr.cell? (ad.add j) = some (.string (ofL ps[j]))) ∧ Below w0.heap.size w0 wr

theorem ipB_eq (l : List UInt8) : ipB l = (decide ((dotsL l).length = 4) && (dotsL l).all numB) := rfl

set_option maxRecDepth 100000 in
set_option maxHeartbeats 1600000 in
theorem rip_any (s : ByteArray) (w : World) (hs : s.size ≤ 100000) :
    Calls Tryd.prog 14 #[.string s] w fun e w' => e = .returned (.bool (ipB s.data.toList)) ∧ Below w.heap.size w w' := by
  have HI := Lib.hid (ipB_eq s.data.toList)
  obtain ⟨ps, hps⟩ : ∃ ps, ps = dotsL s.data.toList := ⟨_, rfl⟩
  have HD := Lib.hid (rdots_any s · (by omega))
  have hpl : ps.length ≤ 100001 := by rw [hps]; have := dots_len s.data.toList []; rw [list_len] at this; show (dotG [] s.data.toList).length ≤ 100001; omega
  have hpz : ∀ x ∈ ps, x.length ≤ 100000 := by intro x hx; rw [hps] at hx; have := dot_part_len s.data.toList [] x hx; rw [list_len] at this; simp at this; omega
  rw [← hps] at HD HI
  have HZ := Lib.hid hpz
  clear hps hpz
  go_enter Tryd.func14, Tryd.ntmps14
  go_wp2_with fail
  refine (HD.out _).mono ?_
  rintro _ w2 ⟨⟨v, rfl, hv⟩, hb2⟩
  obtain ⟨ao, n, cap, rfl, hn, hc⟩ := hv.shape
  rw [ofLs_len] at hn
  subst hn
  have HC : Hid (∀ j (hj : j < ps.length), ∃ ad, ao = some ad ∧ w2.cell? (ad.add j) = some (.string (ofL ps[j]))) := by
    intro j hj
    obtain ⟨ad, h1, h2⟩ := hc j (by rw [ofLs_len]; exact hj)
    rw [ofLs_at ps j hj] at h2
    exact ⟨ad, h1, h2⟩
  clear hc hv HD
  go_wp2_with fail
  go_loopg [4] (ps.length + 1) (fun gk i wr => IpAt ps ao w gk i wr)
  case atStart => exact ⟨0, rfl, by omega, by omega, rfl, HC.out, hb2⟩
  case round =>
    clear HC hb2
    obtain ⟨k, rfl, hk, hg, hall, hcc, hbe⟩ := hrel
    have HA := Lib.hid hall
    have HC := Lib.hid hcc
    clear hall hcc
    by_cases hlt : k < ps.length
    · obtain ⟨ad, rfl, hcl⟩ := HC.out k hlt
      have hki : (k : Int) < (ps.length : Int) := by omega
      obtain ⟨n, b, hread, hnum⟩ := read_part ps[k] (by have := HZ.out _ (List.getElem_mem hlt); omega)
      have HR := Lib.hid hread
      have HN := Lib.hid hnum
      clear hread hnum
      generalize ofL ps[k] = P at hcl HR
      by_cases hok : b = true ∧ 0 ≤ n ∧ n ≤ 255
      · obtain ⟨rfl, g1, g2⟩ := hok
        have HS := Lib.hid (allp_step ps numB k hlt HA.out (by rw [HN.out]; simp [g1, g2]))
        go_wp2_with fail
        refine (HR.out _).mono ?_
        rintro _ w3 ⟨rfl, hb⟩
        have hb3 := chain hbe hb
        have HC3 : Hid (∀ j (hj : j < ps.length), ∃ ad', some ad = some ad' ∧ w3.cell? (ad'.add j) = some (.string (ofL ps[j]))) := by
          intro j hj
          obtain ⟨ad', h1, h2⟩ := HC.out j hj
          exact ⟨ad', h1, by rw [hb.cell (World.block_lt_of_cell? _ _ h2)]; exact h2⟩
        clear hb hbe HC
        go_wp2
        go_roundg (gk - 1)
        case measure => omega
        case rel => exact ⟨k + 1, by go_num, by omega, by omega, HS.out, HC3.out, hb3⟩
      · have HV : Hid (ipB s.data.toList = false) := by
          show _ = _
          rw [HI.out, allp_not ps numB k hlt (by
            rw [HN.out, Bool.eq_false_iff]
            intro h
            simp only [Bool.and_eq_true, decide_eq_true_eq] at h
            exact hok h), Bool.and_false]
        rcases (show b = false ∨ (b = true ∧ n < 0) ∨ (b = true ∧ ¬ n < 0 ∧ 255 < n) by
          cases b
          · exact .inl rfl
          · by_cases h : n < 0
            · exact .inr (.inl ⟨rfl, h⟩)
            · exact .inr (.inr ⟨rfl, h, by
                rcases Int.lt_or_le 255 n with h2 | h2
                · exact h2
                · exact absurd ⟨rfl, by omega, h2⟩ hok⟩)) with rfl | ⟨rfl, g1⟩ | ⟨rfl, g1, g2⟩
        all_goals
          clear hok
          go_wp2_with fail
          refine (HR.out _).mono ?_
          rintro _ w3 ⟨rfl, hb⟩
          have hb3 := chain hbe hb
          clear hb hbe
          go_wp2
          go_ret
          exact ⟨ret_bool HV.out.symm, hb3⟩
    · have HV : Hid (ipB s.data.toList = decide (ps.length = 4)) := by
        show _ = _
        have := HA.out
        rw [List.take_of_length_le (by omega)] at this
        rw [HI.out, this, Bool.and_true]
      have hki : ¬ (k : Int) < (ps.length : Int) := by omega
      go_wp2
      go_ret
      exact ⟨ret_bool (by rw [HV.out, Bool.eq_iff_iff]; simp; omega), hbe⟩
end Go.Proofs.YtlcnnkameflidaaDoor
