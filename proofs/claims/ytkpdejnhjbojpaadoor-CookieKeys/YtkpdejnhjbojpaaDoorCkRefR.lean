/-
  The document's own answers (package cracknelref13): Right: a contract.
-/
import Derived.Test.YtkpdejnhjbojpaaDoorCkVal
import Derived.Test.YtkpdejnhjbojpaaDoorHosRq
import Derived.Test.YtkpdejnhjbojpaaDoorPatRight
import Derived.Test.YtkpdejnhjbojpaaDoorAscRq
namespace Go.Proofs.YtkpdejnhjbojpaaDoor
open Go.RowKit
set_option linter.unusedVariables false

/-- A time from 0 to the last one. -/
def timeB (n : Int) : Bool := decide (0 ≤ n) && decide (n ≤ 253402300799)

/-- Where a cookie may come from. -/
def placeB (c : Ck) : Bool := hostB (lowB c.dom).data.toList && decide (lowB c.dom = c.dom) && (!ipB c.dom.data.toList || c.ho)
/-- Its texts may be. -/
def textsB (c : Ck) : Bool := rightB c.path.data.toList && tokenB c.name && decide (c.name.size ≤ 64) && allB (inSpans octL) c.val && decide (c.val.size ≤ 128)
/-- Its numbers may be. -/
def numbersB (c : Ck) : Bool := timeB c.cr && timeB c.ac && timeB c.ex && (decide (0 ≤ c.ss) && decide (c.ss ≤ 3))

/-- Is it a right cookie? -/
def ckB (c : Ck) : Bool := placeB c && textsB c && numbersB c

set_option maxRecDepth 100000 in
set_option maxHeartbeats 3200000 in
theorem rckright_any (c : Ck) (w : World) (h1 : c.dom.size ≤ 100000) (h2 : c.path.size ≤ 100000) (h3 : c.name.size ≤ 100000) (h4 : c.val.size ≤ 100000) :
    Calls Tryd.prog 12 #[ckV c] w fun e w' => e = .returned (.bool (ckB c)) ∧ Below w.heap.size w w' := by
  have HC := Lib.hid (rcanon_any c.dom · (by omega))
  have HI := Lib.hid (rip_any c.dom · h1)
  have HR := Lib.hid (rright_any c.path · (by unfold maxLen; omega))
  have HT := Lib.hid (rtoken_any c.name · (by unfold maxLen; omega))
  have HO := Lib.hid (roctets_any c.val · (by unfold maxLen; omega))
  have HB : Hid (ckB c = (placeB c && textsB c && numbersB c)) := rfl
  have HPL : Hid (placeB c = (hostB (lowB c.dom).data.toList && decide (lowB c.dom = c.dom) && (!ipB c.dom.data.toList || c.ho))) := rfl
  have HTX : Hid (textsB c = (rightB c.path.data.toList && tokenB c.name && decide (c.name.size ≤ 64) && allB (inSpans octL) c.val && decide (c.val.size ≤ 128))) := rfl
  have HNU : Hid (numbersB c = (timeB c.cr && timeB c.ac && timeB c.ex && (decide (0 ≤ c.ss) && decide (c.ss ≤ 3)))) := rfl
  generalize ckB c = R at HB ⊢
  generalize placeB c = pl at HB HPL
  generalize textsB c = tx at HB HTX
  generalize numbersB c = nu at HB HNU
  generalize ipB c.dom.data.toList = ip at HI HPL
  generalize rightB c.path.data.toList = rp at HR HTX
  generalize tokenB c.name = tk at HT HTX
  generalize allB (inSpans octL) c.val = oc at HO HTX
  obtain ⟨d, p, n, v, cr, ac, ex, ho, se, hp, ss⟩ := c
  have h3' : n.size ≤ 100000 := h3
  have h4' : v.size ≤ 100000 := h4
  clear h1 h2 h3 h4
  have hc := CkAt.new w ⟨d, p, n, v, cr, ac, ex, ho, se, hp, ss⟩ 23
  have hb0 := (Below.refl w.heap.size w).alloc (Nat.le_refl _) (.cells (ckCells ⟨d, p, n, v, cr, ac, ex, ho, se, hp, ss⟩) 23)
  simp only [ckCells] at hc hb0
  go_enter Tryd.func12, Tryd.ntmps12
  go_wp2_with fail
  refine (HC.out _).mono ?_
  rintro _ w1 ⟨rfl, hb⟩
  have hb1 := chain hb0 hb
  replace hc := hc.keep hb
  clear hb hb0 HC
  obtain ⟨c0, c1, c2, c3, c4, c5, c6, c7, c8, c9, c10⟩ := id hc
  by_cases hh : hostB (lowB d).data.toList = true
  case neg =>
    have HV := Lib.hid (canV_no (lowB d) (by simpa using hh))
    have hh' : hostB (lowB d).data.toList = false := by simpa using hh
    have HH := Lib.hid hh'
    rw [HV.out]
    clear hh hh' HV
    go_wp2
    go_ret
    exact ⟨ret_bool (by rw [HB.out, HPL.out, HH.out]; rfl), hb1⟩
  have HV := Lib.hid (canV_yes (lowB d) hh)
  rw [HV.out]
  have HH := Lib.hid hh
  clear hh HV
  by_cases hd : lowB d = d
  case neg =>
    have hq : ((lowB d).toList == d.toList) = false := by rw [eq_toList]; simpa using hd
    have hq2 : ¬ (lowB d).toList = d.toList := fun e => by rw [e] at hq; simp at hq
    have HD := Lib.hid hd
    clear hd
    generalize lowB d = T at *
    go_wp2
    go_ret
    exact ⟨ret_bool (by rw [HB.out, HPL.out, decide_eq_false HD.out]; simp), hb1⟩
  rw [hd]
  rw [hd] at HH
  have HD := Lib.hid hd
  have hq : (d.toList == d.toList) = true := by simp
  clear hd
  go_wp2_with fail
  refine (HI.out _).mono ?_
  rintro _ w2 ⟨rfl, hb⟩
  have hb2 := chain hb1 hb
  replace hc := hc.keep hb
  clear hb hb1 HI c0 c1 c2 c3 c4 c5 c6 c7 c8 c9 c10
  obtain ⟨c0, c1, c2, c3, c4, c5, c6, c7, c8, c9, c10⟩ := id hc
  rcases (show (ip = true ∧ ho = false) ∨ ((ip = true ∧ ho = true) ∨ ip = false) by cases ip <;> cases ho <;> simp) with ⟨rfl, rfl⟩ | hok
  · go_wp2
    go_ret
    exact ⟨ret_bool (by rw [HB.out, HPL.out]; simp), hb2⟩
  have HP2 : Hid (pl = true) := by
    show _ = _
    rw [HPL.out, show hostB (lowB d).data.toList = true by rw [HD.out]; exact HH.out, decide_eq_true HD.out]
    rcases hok with ⟨rfl, rfl⟩ | rfl <;> rfl
  clear HPL HH HD
  rw [show pl = true from HP2.out] at HB
  clear HP2
  all_goals
    rcases hok with ⟨rfl, rfl⟩ | rfl
    all_goals
      go_wp2_with fail
      refine (HR.out _).mono ?_
      rintro _ w3 ⟨rfl, hb⟩
      have hb3 := chain hb2 hb
      replace hc := hc.keep hb
      clear hb hb2 HR hq c0 c1 c2 c3 c4 c5 c6 c7 c8 c9 c10
      obtain ⟨c0, c1, c2, c3, c4, c5, c6, c7, c8, c9, c10⟩ := id hc
      cases rp
      · go_wp2
        go_ret
        exact ⟨ret_bool (by rw [HB.out, HTX.out]; simp), hb3⟩
      go_wp2_with fail
      refine (HT.out _).mono ?_
      rintro _ wt ⟨rfl, rfl⟩
      clear HT
      cases tk
      · go_wp2
        go_ret
        exact ⟨ret_bool (by rw [HB.out, HTX.out]; simp), hb3⟩
      by_cases hn : n.size ≤ 64
      case neg =>
        have hn' : decide ((n.size : Int) > 64) = true := by simp; omega
        have hn2 : (n.size : Int) > 64 := by omega
        go_wp2
        go_ret
        exact ⟨ret_bool (by rw [HB.out, HTX.out]; simp [hn]), hb3⟩
      have hn' : decide ((n.size : Int) > 64) = false := by simp; omega
      have hn2 : ¬ (n.size : Int) > 64 := by omega
      go_wp2_with fail
      refine (HO.out _).mono ?_
      rintro _ wt ⟨rfl, rfl⟩
      clear HO
      cases oc
      · go_wp2
        go_ret
        exact ⟨ret_bool (by rw [HB.out, HTX.out]; simp), hb3⟩
      by_cases hv : v.size ≤ 128
      case neg =>
        have hv' : decide ((v.size : Int) > 128) = true := by simp; omega
        have hv2 : (v.size : Int) > 128 := by omega
        go_wp2
        go_ret
        exact ⟨ret_bool (by rw [HB.out, HTX.out]; simp [hv]), hb3⟩
      have hv' : decide ((v.size : Int) > 128) = false := by simp; omega
      have hv2 : ¬ (v.size : Int) > 128 := by omega
      rw [show tx = true by rw [HTX.out, decide_eq_true hn, decide_eq_true hv]; rfl] at HB
      clear HTX hn hv h3' h4'
      have HN2 : Hid (R = nu) := by show _ = _; rw [HB.out]; simp
      clear HB
      rcases (show cr < 0 ∨ (¬ cr < 0 ∧ cr > 253402300799) ∨ (¬ cr < 0 ∧ ¬ cr > 253402300799) by omega) with hx | ⟨hx, hy⟩ | ⟨hx, hy⟩
      · have hx' : decide (cr < 0) = true := decide_eq_true hx
        go_wp2
        go_ret
        exact ⟨ret_bool (by rw [HN2.out, HNU.out, show timeB cr = false by unfold timeB; simp; omega]; simp), hb3⟩
      · have hx' : decide (cr < 0) = false := decide_eq_false hx
        have hy' : decide (cr > 253402300799) = true := decide_eq_true hy
        go_wp2
        go_ret
        exact ⟨ret_bool (by rw [HN2.out, HNU.out, show timeB cr = false by unfold timeB; simp; omega]; simp), hb3⟩
      have hcr : decide (cr < 0) = false := decide_eq_false hx
      have hcr2 : decide (cr > 253402300799) = false := decide_eq_false hy
      have hcr3 := hx
      have hcr4 := hy
      rw [show timeB cr = true by unfold timeB; simp; omega] at HNU
      clear hx hy
      rcases (show ac < 0 ∨ (¬ ac < 0 ∧ ac > 253402300799) ∨ (¬ ac < 0 ∧ ¬ ac > 253402300799) by omega) with hx | ⟨hx, hy⟩ | ⟨hx, hy⟩
      · have hx' : decide (ac < 0) = true := decide_eq_true hx
        go_wp2
        go_ret
        exact ⟨ret_bool (by rw [HN2.out, HNU.out, show timeB ac = false by unfold timeB; simp; omega]; simp), hb3⟩
      · have hx' : decide (ac < 0) = false := decide_eq_false hx
        have hy' : decide (ac > 253402300799) = true := decide_eq_true hy
        go_wp2
        go_ret
        exact ⟨ret_bool (by rw [HN2.out, HNU.out, show timeB ac = false by unfold timeB; simp; omega]; simp), hb3⟩
      have hac : decide (ac < 0) = false := decide_eq_false hx
      have hac2 : decide (ac > 253402300799) = false := decide_eq_false hy
      have hac3 := hx
      have hac4 := hy
      rw [show timeB ac = true by unfold timeB; simp; omega] at HNU
      clear hx hy
      rcases (show ex < 0 ∨ (¬ ex < 0 ∧ ex > 253402300799) ∨ (¬ ex < 0 ∧ ¬ ex > 253402300799) by omega) with hx | ⟨hx, hy⟩ | ⟨hx, hy⟩
      · have hx' : decide (ex < 0) = true := decide_eq_true hx
        go_wp2
        go_ret
        exact ⟨ret_bool (by rw [HN2.out, HNU.out, show timeB ex = false by unfold timeB; simp; omega]; simp), hb3⟩
      · have hx' : decide (ex < 0) = false := decide_eq_false hx
        have hy' : decide (ex > 253402300799) = true := decide_eq_true hy
        go_wp2
        go_ret
        exact ⟨ret_bool (by rw [HN2.out, HNU.out, show timeB ex = false by unfold timeB; simp; omega]; simp), hb3⟩
      have hex : decide (ex < 0) = false := decide_eq_false hx
      have hex2 : decide (ex > 253402300799) = false := decide_eq_false hy
      have hex3 := hx
      have hex4 := hy
      rw [show timeB ex = true by unfold timeB; simp; omega] at HNU
      clear hx hy
      rw [show nu = (decide (0 ≤ ss) && decide (ss ≤ 3)) by rw [HNU.out]; simp] at HN2
      clear HNU
      by_cases h0 : ss ≥ 0
      · have h0' : decide (ss ≥ 0) = true := decide_eq_true h0
        by_cases h9 : ss ≤ 3
        · have h9' : decide (ss ≤ 3) = true := decide_eq_true h9
          go_wp2
          go_ret
          exact ⟨ret_bool (by rw [HN2.out, decide_eq_true h9]; simp; exact h0), hb3⟩
        · have h9' : decide (ss ≤ 3) = false := decide_eq_false h9
          go_wp2
          go_ret
          exact ⟨ret_bool (by rw [HN2.out, decide_eq_false (show ¬ ss ≤ 3 by omega)]; simp), hb3⟩
      · have h0' : decide (ss ≥ 0) = false := decide_eq_false h0
        go_wp2
        go_ret
        exact ⟨ret_bool (by rw [HN2.out, decide_eq_false (show ¬ 0 ≤ ss by omega)]; simp), hb3⟩
end Go.Proofs.YtkpdejnhjbojpaaDoor
