/-
  Package cookie's contracts: Right, Of, Key.Cmp, Cmp, Greater, Live, Sends.
-/
import Derived.Test.YtkpdejnhjbojpaaDoorCkRefR
import Derived.Test.YtkpdejnhjbojpaaDoorCkRefS
import Derived.Test.YtkpdejnhjbojpaaDoorCkPm
import Derived.Test.YtkpdejnhjbojpaaDoorHosPi
import Derived.Test.YtkpdejnhjbojpaaDoorHosPc
import Derived.Test.YtkpdejnhjbojpaaDoorPatPr
import Derived.Test.YtkpdejnhjbojpaaDoorAscPq
namespace Go.Proofs.YtkpdejnhjbojpaaDoor
open Go.RowKit
set_option linter.unusedVariables false

/-- A cookie's texts are no longer than a text of the model may be. -/
def ShortC (c : Ck) : Prop := c.dom.size ≤ 9223372036854775807 ∧ c.path.size ≤ 9223372036854775807 ∧ c.name.size ≤ 9223372036854775807 ∧ c.val.size ≤ 9223372036854775807

theorem keycmp_any (a b : Ck) (w : World) (ha : ShortC a) (hb : ShortC b) : Calls Tryd.prog 14 #[keyV a.dom a.path a.name, keyV b.dom b.path b.name] w fun e w' => e = .returned (.int .i64 (cmpK a b)) ∧ Below w.heap.size w w' := keyc_any a b w
theorem cmp_any (a b : Ck) (w : World) (ha : ShortC a) (hb : ShortC b) : Calls Tryd.prog 17 #[ckV a, ckV b] w fun e w' => e = .returned (.int .i64 (cmpC a b)) ∧ Below w.heap.size w w' := cmpc_any a b w
theorem greater_any (a b : Ck) (w : World) (ha : ShortC a) (hb : ShortC b) : Calls Tryd.prog 19 #[ckV a, ckV b] w fun e w' => e = .returned (ckV (grC a b)) ∧ Below w.heap.size w w' := greatc_any a b w

set_option maxRecDepth 100000 in
theorem live_any (c : Ck) (now : Int) (w : World) :
    Calls Tryd.prog 21 #[ckV c, .int .i64 now] w fun e w' => e = .returned (.bool (liveB c now)) ∧ Below w.heap.size w w' := by
  obtain ⟨d, p, n, v, cr, ac, ex, ho, se, hp, ss⟩ := c
  have HV : Hid (liveB ⟨d, p, n, v, cr, ac, ex, ho, se, hp, ss⟩ now = (decide (ex = 0) || decide (now < ex))) := rfl
  by_cases h1 : ex = 0
  · have e1 : ((ex : Int) == 0) = true := by simpa using h1
    have H1 := Lib.hid h1
    clear h1
    go_enter Tryd.func21, Tryd.ntmps21
    go_wp2
    go_ret
    exact ⟨ret_bool (by rw [HV.out, decide_eq_true H1.out]; rfl), (Below.refl _ _).alloc (Nat.le_refl _) _⟩
  · have e1 : ((ex : Int) == 0) = false := by simpa using h1
    have H1 := Lib.hid h1
    by_cases h2 : now < ex
    · go_enter Tryd.func21, Tryd.ntmps21
      go_wp2
      go_ret
      exact ⟨ret_bool (by rw [HV.out, decide_eq_true h2]; simp), (Below.refl _ _).alloc (Nat.le_refl _) _⟩
    · go_enter Tryd.func21, Tryd.ntmps21
      go_wp2
      go_ret
      exact ⟨ret_bool (by rw [HV.out, decide_eq_false H1.out, decide_eq_false (show ¬ now < ex by omega)]; rfl), (Below.refl _ _).alloc (Nat.le_refl _) _⟩

set_option maxRecDepth 100000 in
set_option maxHeartbeats 1600000 in
theorem domain_any (s : ByteArray) (ho : Bool) (w : World) (hs : s.size ≤ 100000) :
    Calls Tryd.prog 26 #[.string s, .bool ho] w fun e w' => e = .returned (.bool (hostB (lowB s).data.toList && decide (lowB s = s) && (!ipB s.data.toList || ho))) ∧ Below w.heap.size w w' := by
  have HC := Lib.hid (canon_any s · (by omega))
  have HI := Lib.hid (ip_any s · hs)
  obtain ⟨R, hR⟩ : ∃ R, R = (hostB (lowB s).data.toList && decide (lowB s = s) && (!ipB s.data.toList || ho)) := ⟨_, rfl⟩
  rw [← hR]
  have HR := Lib.hid hR
  clear hR
  generalize ipB s.data.toList = ip at HI HR
  go_enter Tryd.func26, Tryd.ntmps26
  go_wp2_with fail
  refine (HC.out _).mono ?_
  rintro _ w1 ⟨rfl, hb1⟩
  clear HC
  by_cases hh : hostB (lowB s).data.toList = true
  case neg =>
    have HV := Lib.hid (canV_no (lowB s) (by simpa using hh))
    have HH : Hid (hostB (lowB s).data.toList = false) := Lib.hid (by simpa using hh)
    rw [HV.out]
    clear hh HV
    go_wp2
    go_ret
    exact ⟨ret_bool (by rw [HR.out, HH.out]; rfl), hb1⟩
  have HV := Lib.hid (canV_yes (lowB s) hh)
  rw [HV.out]
  have HH := Lib.hid hh
  clear hh HV
  by_cases hd : lowB s = s
  case neg =>
    have hq : ((lowB s).toList == s.toList) = false := by rw [eq_toList]; simpa using hd
    have hq2 : ¬ (lowB s).toList = s.toList := fun e => by rw [e] at hq; simp at hq
    have HD := Lib.hid hd
    clear hd
    generalize lowB s = T at *
    go_wp2
    go_ret
    exact ⟨ret_bool (by rw [HR.out, decide_eq_false HD.out]; simp), hb1⟩
  replace HR : Hid (R = (!ip || ho)) := Lib.hid (by rw [HR.out, HH.out, decide_eq_true hd]; rfl)
  rw [hd]
  have hq : (s.toList == s.toList) = true := by simp
  clear hd HH
  cases ho
  · go_wp2_with fail
    refine (HI.out _).mono ?_
    rintro _ w2 ⟨rfl, hb⟩
    have hb2 := chain hb1 hb
    clear hb hb1 HI
    go_wp2
    go_ret
    exact ⟨ret_bool (by rw [HR.out]; simp), hb2⟩
  · go_wp2
    go_ret
    exact ⟨ret_bool (by rw [HR.out]; simp), hb1⟩

/-- The times so far were right. -/
def TmAt (L : List Int) (W : World) (gg : Nat) (i : Value) (wr : World) : Prop :=
  ∃ k : Nat, i = .int .i64 (k : Int) ∧ k + gg = L.length + 1 ∧ 1 ≤ gg ∧ L.all timeB = (L.drop k).all timeB ∧ wr = W

theorem all_at (q : Int → Bool) : ∀ (L : List Int) (k : Nat), k < L.length → (L.drop k).all q = (q (L.getD k 0) && (L.drop (k + 1)).all q)
  | [], k, h => by simp at h
  | x :: l, 0, _ => by simp
  | x :: l, k + 1, h => by
    have := all_at q l k (by simpa using h)
    simpa using this

set_option maxRecDepth 100000 in
set_option maxHeartbeats 1600000 in
theorem times_any (g : Nat) (L : List Int) (w : World) (h : IntRow w g L) (hn : L.length ≤ 100) : Calls Tryd.prog 30 #[.slice (some ⟨g, 0, none⟩) L.length L.length] w fun e w' => e = .returned (.bool (L.all timeB)) ∧ w' = w := by
  have HC := Lib.hid h
  clear h
  go_enter Tryd.func30, Tryd.ntmps30
  go_wp2
  go_loopg [7] (L.length + 1) (fun gg i wr => TmAt L w gg i wr)
  case atStart => exact ⟨0, rfl, by omega, by omega, rfl, rfl⟩
  case round =>
    obtain ⟨k, rfl, hk, hg, hinv, rfl⟩ := hrel
    have HI := Lib.hid hinv
    clear hinv
    by_cases hlt : k < L.length
    · have HS := Lib.hid (all_at timeB L k hlt)
      have hc := HC.out k hlt
      generalize L.getD k 0 = y at HS hc
      have d4 : (k : Int) < (L.length : Int) := by omega
      rcases (show y < 0 ∨ (¬ y < 0 ∧ y > 253402300799) ∨ (¬ y < 0 ∧ ¬ y > 253402300799) by omega) with h | ⟨h, h'⟩ | ⟨h, h'⟩
      · have HN : Hid (L.all timeB = false) := by show _ = _; rw [HI.out, HS.out, show timeB y = false by unfold timeB; simp; omega]; rfl
        go_wp2
        go_ret
        exact ⟨ret_bool HN.out.symm, rfl⟩
      · have HN : Hid (L.all timeB = false) := by show _ = _; rw [HI.out, HS.out, show timeB y = false by unfold timeB; simp; omega]; rfl
        go_wp2
        go_ret
        exact ⟨ret_bool HN.out.symm, rfl⟩
      · have HN : Hid (L.all timeB = (L.drop (k + 1)).all timeB) := by show _ = _; rw [HI.out, HS.out, show timeB y = true by unfold timeB; simp; omega]; rfl
        go_wp2
        go_roundg (gk - 1)
        case measure => omega
        case rel => exact ⟨k + 1, by go_num, by omega, by omega, HN.out, rfl⟩
    · have HN : Hid (L.all timeB = true) := by show _ = _; rw [HI.out, List.drop_eq_nil_of_le (by omega)]; rfl
      have d4 : ¬ (k : Int) < (L.length : Int) := by omega
      go_wp2
      go_ret
      exact ⟨ret_bool HN.out.symm, rfl⟩

theorem row_three (V : World) (x y z : Int) (t : TypeId) : IntRow (V.alloc (.cells #[.int .i64 x, .int .i64 y, .int .i64 z] t)) V.heap.size [x, y, z] := fun j hj => by
  rcases (show j = 0 ∨ j = 1 ∨ j = 2 by simp only [List.length_cons, List.length_nil] at hj; omega) with rfl | rfl | rfl <;> simp

set_option maxRecDepth 100000 in
set_option maxHeartbeats 3200000 in
theorem ckright_any (c : Ck) (w : World) (h1 : c.dom.size ≤ 100000) (h2 : c.path.size ≤ 100000) (h3 : c.name.size ≤ 100000) (h4 : c.val.size ≤ 100000) :
    Calls Tryd.prog 11 #[ckV c] w fun e w' => e = .returned (.bool (ckB c)) ∧ Below w.heap.size w w' := by
  have HD := Lib.hid (domain_any c.dom c.ho · h1)
  have HR := Lib.hid (rgt_any c.path · (by omega))
  have HT := Lib.hid (token_any c.name · (by unfold maxLen; omega))
  have HO := Lib.hid (octets_any c.val · (by unfold maxLen; omega))
  have HTM : Hid (∀ V : World, Calls Tryd.prog 30 #[.slice (some ⟨V.heap.size, 0, none⟩) 3 3] (V.alloc (.cells #[.int .i64 c.cr, .int .i64 c.ac, .int .i64 c.ex] 3)) fun e w' => e = .returned (.bool ([c.cr, c.ac, c.ex].all timeB)) ∧ w' = V.alloc (.cells #[.int .i64 c.cr, .int .i64 c.ac, .int .i64 c.ex] 3)) := Lib.hid fun V => times_any V.heap.size [c.cr, c.ac, c.ex] _ (row_three V _ _ _ _) (by simp)
  have HB : Hid (ckB c = (placeB c && textsB c && numbersB c)) := rfl
  have HTX : Hid (textsB c = (rightB c.path.data.toList && tokenB c.name && decide (c.name.size ≤ 64) && allB (inSpans octL) c.val && decide (c.val.size ≤ 128))) := rfl
  have HNU : Hid (numbersB c = ([c.cr, c.ac, c.ex].all timeB && (decide (0 ≤ c.ss) && decide (c.ss ≤ 3)))) := Lib.hid (by unfold numbersB; simp [Bool.and_assoc])
  rw [show (hostB (lowB c.dom).data.toList && decide (lowB c.dom = c.dom) && (!ipB c.dom.data.toList || c.ho)) = placeB c from rfl] at HD
  generalize ckB c = R at HB ⊢
  generalize placeB c = pl at HB HD
  generalize textsB c = tx at HB HTX
  generalize numbersB c = nu at HB HNU
  generalize rightB c.path.data.toList = rp at HR HTX
  generalize tokenB c.name = tk at HT HTX
  generalize allB (inSpans octL) c.val = oc at HO HTX
  generalize [c.cr, c.ac, c.ex].all timeB = tm at HTM HNU
  obtain ⟨d, p, n, v, cr, ac, ex, ho, se, hp, ss⟩ := c
  have h3' : n.size ≤ 100000 := h3
  have h4' : v.size ≤ 100000 := h4
  clear h1 h2 h3 h4
  have hc := CkAt.new w ⟨d, p, n, v, cr, ac, ex, ho, se, hp, ss⟩ 23
  have hb0 := (Below.refl w.heap.size w).alloc (Nat.le_refl _) (.cells (ckCells ⟨d, p, n, v, cr, ac, ex, ho, se, hp, ss⟩) 23)
  simp only [ckCells] at hc hb0
  go_enter Tryd.func11, Tryd.ntmps11
  go_wp2_with fail
  refine (HD.out _).mono ?_
  rintro _ w1 ⟨rfl, hb⟩
  have hb1 := chain hb0 hb
  replace hc := hc.keep hb
  clear hb hb0 HD
  cases pl
  · go_wp2
    go_ret
    exact ⟨ret_bool (by rw [HB.out]; rfl), hb1⟩
  obtain ⟨c0, c1, c2, c3, c4, c5, c6, c7, c8, c9, c10⟩ := id hc
  go_wp2_with fail
  refine (HR.out _).mono ?_
  rintro _ w2 ⟨rfl, hb⟩
  have hb2 := chain hb1 hb
  replace hc := hc.keep hb
  clear hb hb1 HR c0 c1 c2 c3 c4 c5 c6 c7 c8 c9 c10
  cases rp
  · go_wp2
    go_ret
    exact ⟨ret_bool (by rw [HB.out, HTX.out]; rfl), hb2⟩
  obtain ⟨c0, c1, c2, c3, c4, c5, c6, c7, c8, c9, c10⟩ := id hc
  by_cases hn : n.size ≤ 64
  case neg =>
    have hn2 : ¬ (n.size : Int) ≤ 64 := by omega
    have hn' : decide ((n.size : Int) ≤ 64) = false := decide_eq_false hn2
    go_wp2
    go_ret
    exact ⟨ret_bool (by rw [HB.out, HTX.out]; simp [hn]), hb2⟩
  have hn2 : (n.size : Int) ≤ 64 := by omega
  go_wp2_with fail
  refine (HT.out _).mono ?_
  rintro _ w3 ⟨rfl, hb⟩
  have hb3 := chain hb2 hb
  replace hc := hc.keep hb
  clear hb hb2 HT c0 c1 c2 c3 c4 c5 c6 c7 c8 c9 c10
  cases tk
  · go_wp2
    go_ret
    exact ⟨ret_bool (by rw [HB.out, HTX.out]; simp), hb3⟩
  obtain ⟨c0, c1, c2, c3, c4, c5, c6, c7, c8, c9, c10⟩ := id hc
  by_cases hv : v.size ≤ 128
  case neg =>
    have hv2 : ¬ (v.size : Int) ≤ 128 := by omega
    have hv' : decide ((v.size : Int) ≤ 128) = false := decide_eq_false hv2
    go_wp2
    go_ret
    exact ⟨ret_bool (by rw [HB.out, HTX.out]; simp [hv]), hb3⟩
  have hv2 : (v.size : Int) ≤ 128 := by omega
  go_wp2_with fail
  refine (HO.out _).mono ?_
  rintro _ w4 ⟨rfl, hb⟩
  have hb4 := chain hb3 hb
  replace hc := hc.keep hb
  clear hb hb3 HO c0 c1 c2 c3 c4 c5 c6 c7 c8 c9 c10
  cases oc
  · go_wp2
    go_ret
    exact ⟨ret_bool (by rw [HB.out, HTX.out]; simp), hb4⟩
  have HN2 : Hid (R = nu) := by
    show _ = _
    rw [HB.out, HTX.out, decide_eq_true (show n.size ≤ 64 from hn), decide_eq_true (show v.size ≤ 128 from hv)]
    rfl
  clear HB HTX hn hv h3' h4' hn2 hv2
  obtain ⟨c0, c1, c2, c3, c4, c5, c6, c7, c8, c9, c10⟩ := id hc
  have hb5 := hb4.alloc hb4.size (.cells #[.int .i64 cr, .int .i64 ac, .int .i64 ex] 3)
  have hcA := hc.keep ((Below.refl _ _).alloc (Nat.le_refl _) (.cells #[.int .i64 cr, .int .i64 ac, .int .i64 ex] 3))
  go_wp2_with fail
  refine (HTM.out _).mono ?_
  rintro _ w5 ⟨rfl, rfl⟩
  obtain ⟨_, _, _, _, _, _, _, _, _, _, a10⟩ := hcA
  clear HTM hc hb4 c0 c1 c2 c3 c4 c5 c6 c7 c8 c9 c10
  cases tm
  · go_wp2
    go_ret
    exact ⟨ret_bool (by rw [HN2.out, HNU.out]; rfl), hb5⟩
  generalize w4.alloc (.cells #[.int .i64 cr, .int .i64 ac, .int .i64 ex] 3) = w6 at *
  rcases (show ¬ 0 ≤ ss ∨ (0 ≤ ss ∧ ¬ ss ≤ 3) ∨ (0 ≤ ss ∧ ss ≤ 3) by omega) with h | ⟨h, h'⟩ | ⟨h, h'⟩
  · go_wp2
    go_ret
    exact ⟨ret_bool (by rw [HN2.out, HNU.out, decide_eq_false (show ¬ 0 ≤ ss by omega)]; rfl), hb5⟩
  · go_wp2
    go_ret
    exact ⟨ret_bool (by rw [HN2.out, HNU.out, decide_eq_true h]; rfl), hb5⟩
  · go_wp2
    go_ret
    exact ⟨ret_bool (by rw [HN2.out, HNU.out, decide_eq_true h, decide_eq_true h']; rfl), hb5⟩

/-- Is a cookie one of the host's? -/
def askedB (c : Ck) (uh : ByteArray) : Bool := if c.ho = true then decide (uh = c.dom) else matchB uh.data.toList c.dom.data.toList

set_option maxRecDepth 100000 in
set_option maxHeartbeats 1600000 in
theorem asked_any (c : Ck) (uh : ByteArray) (w : World) (h1 : c.dom.size ≤ 100000) (h3 : uh.size ≤ 100000) :
    Calls Tryd.prog 46 #[ckV c, .string uh] w fun e w' => e = .returned (.bool (askedB c uh)) ∧ Below w.heap.size w w' := by
  have HM := Lib.hid (match_any uh c.dom · h3 h1)
  have HA : Hid (askedB c uh = (if c.ho = true then decide (uh = c.dom) else matchB uh.data.toList c.dom.data.toList)) := rfl
  generalize askedB c uh = R at HA ⊢
  generalize matchB uh.data.toList c.dom.data.toList = m at HM HA
  have hb0 := (Below.refl w.heap.size w).alloc (Nat.le_refl _) (.cells (ckCells c) 23)
  obtain ⟨d, p, n, v, cr, ac, ex, ho, se, hp, ss⟩ := c
  simp only [ckCells] at hb0
  clear h1
  cases ho
  · go_enter Tryd.func46, Tryd.ntmps46
    go_wp2_with fail
    refine (HM.out _).mono ?_
    rintro _ w1 ⟨rfl, hb⟩
    have hb1 := chain hb0 hb
    clear hb hb0 HM
    go_wp2
    go_ret
    exact ⟨ret_bool (by rw [HA.out]; rfl), hb1⟩
  · by_cases he : uh = d
    · subst he
      have hq : (uh.toList == uh.toList) = true := by simp
      go_enter Tryd.func46, Tryd.ntmps46
      go_wp2
      go_ret
      exact ⟨ret_bool (by rw [HA.out]; simp), hb0⟩
    · have hq : (uh.toList == d.toList) = false := by rw [eq_toList]; simpa using he
      have hq2 : ¬ uh.toList = d.toList := fun e => by rw [e] at hq; simp at hq
      have HE := Lib.hid he
      clear he HM
      go_enter Tryd.func46, Tryd.ntmps46
      go_wp2
      go_ret
      exact ⟨ret_bool (by rw [HA.out, if_pos trivial, decide_eq_false HE.out]), hb0⟩

set_option maxRecDepth 100000 in
set_option maxHeartbeats 3200000 in
theorem sends_any (c : Ck) (us : Bool) (uh up : ByteArray) (now : Int) (w : World) (h1 : c.dom.size ≤ 100000) (h2 : c.path.size ≤ 100000) (h3 : uh.size ≤ 100000) (h4 : up.size ≤ 100000) :
    Calls Tryd.prog 23 #[ckV c, urlC us uh up, .int .i64 now] w fun e w' => e = .returned (.bool (sendsB c us uh up now)) ∧ Below w.heap.size w w' := by
  have HA := Lib.hid (asked_any c uh · h1 h3)
  have HL := Lib.hid (live_any c now)
  have HP := Lib.hid (pm_any up c.path · (by omega) (by omega))
  have HS : Hid (sendsB c us uh up now = (askedB c uh && (!c.se || us) && liveB c now && pmB up.data.toList c.path.data.toList)) := rfl
  generalize sendsB c us uh up now = R at HS ⊢
  generalize askedB c uh = m at HA HS
  generalize liveB c now = l at HL HS
  generalize pmB up.data.toList c.path.data.toList = q at HP HS
  obtain ⟨d, p, n, v, cr, ac, ex, ho, se, hp, ss⟩ := c
  clear h1 h2
  have hc := (CkAt.new w ⟨d, p, n, v, cr, ac, ex, ho, se, hp, ss⟩ 23).keep ((Below.refl _ _).alloc (Nat.le_refl _) (.cells #[.bool us, .string uh, .string up] 42))
  have hu := UcAt.new (w.alloc (.cells (ckCells ⟨d, p, n, v, cr, ac, ex, ho, se, hp, ss⟩) 23)) us uh up 42
  have hb0 := ((Below.refl w.heap.size w).alloc (Nat.le_refl _) (.cells (ckCells ⟨d, p, n, v, cr, ac, ex, ho, se, hp, ss⟩) 23)).alloc (by simp) (.cells #[.bool us, .string uh, .string up] 42)
  rw [show ∀ o : Obj, (w.alloc o).heap.size = w.heap.size + 1 from fun o => by simp] at hu
  simp only [ckCells] at hc hu hb0
  go_enter Tryd.func23, Tryd.ntmps23
  go_wp2_with fail
  refine (HL.out _).mono ?_
  rintro _ w1 ⟨rfl, hb⟩
  have hb1 := chain hb0 hb
  replace hc := hc.keep hb
  replace hu := hu.keep hb
  clear hb hb0 HL
  cases l
  · go_wp2
    go_ret
    exact ⟨ret_bool (by rw [HS.out]; simp), hb1⟩
  obtain ⟨c0, c1, c2, c3, c4, c5, c6, c7, c8, c9, c10⟩ := id hc
  obtain ⟨u0, u1, u2⟩ := id hu
  go_wp2_with fail
  refine (HA.out _).mono ?_
  rintro _ w2 ⟨rfl, hb⟩
  have hb2 := chain hb1 hb
  replace hc := hc.keep hb
  replace hu := hu.keep hb
  clear hb hb1 HA c0 c1 c2 c3 c4 c5 c6 c7 c8 c9 c10 u0 u1 u2
  cases m
  · go_wp2
    go_ret
    exact ⟨ret_bool (by rw [HS.out]; rfl), hb2⟩
  obtain ⟨c0, c1, c2, c3, c4, c5, c6, c7, c8, c9, c10⟩ := id hc
  obtain ⟨u0, u1, u2⟩ := id hu
  go_wp2_with fail
  refine (HP.out _).mono ?_
  rintro _ w3 ⟨rfl, hb⟩
  have hb3 := chain hb2 hb
  replace hc := hc.keep hb
  replace hu := hu.keep hb
  clear hb hb2 HP c0 c1 c2 c3 c4 c5 c6 c7 c8 c9 c10 u0 u1 u2
  cases q
  · go_wp2
    go_ret
    exact ⟨ret_bool (by rw [HS.out]; simp), hb3⟩
  obtain ⟨c0, c1, c2, c3, c4, c5, c6, c7, c8, c9, c10⟩ := id hc
  obtain ⟨u0, u1, u2⟩ := id hu
  cases us
  · go_wp2
    go_ret
    exact ⟨ret_bool (by rw [HS.out]; simp), hb3⟩
  · go_wp2
    go_ret
    exact ⟨ret_bool (by rw [HS.out]; simp), hb3⟩
end Go.Proofs.YtkpdejnhjbojpaaDoor
