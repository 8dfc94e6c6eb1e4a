/-
  The document's own reader of json: a state written whole; among, key.
-/
import Derived.Test.YtmnigdcgdebgoaaDoorJsonRefD
import Derived.Test.YtmnigdcgdebgoaaDoorJsA
import Derived.Test.YtmnigdcgdebgoaaDoorBaseRows
namespace Go.Proofs.YtmnigdcgdebgoaaDoor
open Go.RowKit
set_option linter.unusedVariables false

/-- A state is written whole. -/
def put4 (w : World) (B : Nat) (a b c d : Value) : World := (((w.setCell ⟨B, 0, none⟩ a).setCell ⟨B, 1, none⟩ b).setCell ⟨B, 2, none⟩ c).setCell ⟨B, 3, none⟩ d
theorem BoxS.put {w : World} {B : Nat} {a b c d : Value} (h : BoxS w B a b c d) (a' b' c' d' : Value) : BoxS (put4 w B a' b' c' d') B a' b' c' d' := (((((h.set a').1).set b').2.1).set c').2.2.1.set d' |>.2.2.2
theorem BoxS.putO {w : World} {D : Nat} {a b c d : Value} (h : BoxS w D a b c d) (B : Nat) (hne : B ≠ D) (a' b' c' d' : Value) : BoxS (put4 w B a' b' c' d') D a b c d := (((h.other _ _ hne).other _ _ hne).other _ _ hne).other _ _ hne
theorem BoxR.putO {w : World} {D : Nat} {a b c d e : Value} (h : BoxR w D a b c d e) (B : Nat) (hne : B ≠ D) (a' b' c' d' : Value) : BoxR (put4 w B a' b' c' d') D a b c d e := (((h.other _ _ hne).other _ _ hne).other _ _ hne).other _ _ hne
theorem below_put {b B : Nat} {w0 w : World} (h : Below b w0 w) (hB : b ≤ B) (a' b' c' d' : Value) : Below b w0 (put4 w B a' b' c' d') :=
  (((h.setCell (p := ⟨B, 0, none⟩) hB _).setCell (p := ⟨B, 1, none⟩) hB _).setCell (p := ⟨B, 2, none⟩) hB _).setCell (p := ⟨B, 3, none⟩) hB _

/-- A row of items does not lie in a state's block. -/
theorem ItsAt.boxed {w : World} {v : Value} {l : List It} (h : ItsAt w v l) {B : Nat} {a b c d : Value} (hB : BoxS w B a b c d) (p : Addr) (u : Value) (hp : p.block = B) : ItsAt (w.setCell p u) v l := by
  rcases h with h | ⟨ad, cap, rfl, hc, hcells⟩
  · exact .inl h
  · refine .inr ⟨ad, cap, rfl, hc, fun j x hj => ?_⟩
    have hne : ad.block ≠ B := by
      intro e
      have hl : 0 < l.length := by
        have := (List.getElem?_eq_some_iff.1 hj).1
        rw [itsV_len] at this
        omega
      have h4 := hcells 4 ((itsV l)[4]'(by rw [itsV_len]; omega)) (List.getElem?_eq_getElem _)
      have e2 : (ad.add 4) = ⟨B, ad.off + 4, none⟩ := by
        unfold Addr.add
        rw [if_neg (by decide)]
        rw [e]
      rw [e2, cell_of_row w B (ad.off + 4) _ _ _ hB.at_, Array.getElem?_eq_none (by simp)] at h4
      cases h4
    have e : (ad.add j).block = ad.block := by
      unfold Addr.add
      split <;> rfl
    rw [World.cell?_setCell_other w _ _ _ (fun h3 => by rw [h3] at hp; exact hne (e ▸ hp))]
    exact hcells j x hj
theorem ItsAt.put {w : World} {v : Value} {l : List It} (h : ItsAt w v l) {B : Nat} {a b c d : Value} (hB : BoxS w B a b c d) (a' b' c' d' : Value) : ItsAt (put4 w B a' b' c' d') v l :=
  (((h.boxed hB ⟨B, 0, none⟩ a' rfl).boxed (hB.set a').1 ⟨B, 1, none⟩ b' rfl).boxed (((hB.set a').1).set b').2.1 ⟨B, 2, none⟩ c' rfl).boxed (((((hB.set a').1).set b').2.1).set c').2.2.1 ⟨B, 3, none⟩ d' rfl

def AmongW (ks : List ByteArray) (s : ByteArray) (w : World) (n : Nat) (v5 : Value) (wr : World) : Prop :=
  ∃ k : Nat, v5 = .int .i64 (k : Int) ∧ k + n = ks.length ∧ s ∉ ks.take k ∧ w = wr

set_option maxRecDepth 100000 in
set_option maxHeartbeats 800000 in
theorem ramong_any (kv : Value) (ks : List ByteArray) (s : ByteArray) (w : World) (h : StrsAt w kv ks) (hz : ks.length ≤ 1000000) (b : Bool) (hb : b = true ↔ s ∈ ks) :
    Calls Tryd.prog 97 #[kv, .string s] w fun e w' => e = .returned (.bool b) ∧ w = w' := by
  obtain ⟨ao, n, cap, rfl, hn, hc⟩ := h.shape
  have HST : Hid (AmongW ks s w n (.int .i64 0) w) := ⟨0, rfl, by omega, by simp, rfl⟩
  have HC := Lib.hid hc
  have HN := Lib.hid hn
  have HB := Lib.hid hb
  have hnz : n ≤ 1000000 := by omega
  clear hc hn hb h hz
  go_enter Tryd.func97, Tryd.ntmps97
  go_wp2
  go_loopg [5] n (fun n v5 wr => AmongW ks s w n v5 wr)
  case atStart => exact HST.out
  case round =>
    obtain ⟨k, rfl, hkn, hno, rfl⟩ := hrel
    have HNO := Lib.hid hno
    clear HST hno
    rw [← HN.out] at hkn
    by_cases hk : k < n
    · have hkl : k < ks.length := by rw [← HN.out]; exact hk
      obtain ⟨ad, hao, hcell⟩ := HC.out k hkl
      subst hao
      obtain ⟨x, hx⟩ : ∃ x, ks[k] = x := ⟨_, rfl⟩
      rw [hx] at hcell
      by_cases hxs : x = s
      · have z1 : (x.toList == s.toList) = true := by rw [eq_toList]; simpa using hxs
        have HB2 : Hid (b = true) := HB.out.2 (by rw [← hxs, ← hx]; exact List.getElem_mem hkl)
        clear hxs hx
        go_wp2
        go_ret
        rw [HB2.out]
        exact ⟨rfl, rfl⟩
      · have z1 : (x.toList == s.toList) = false := by rw [eq_toList]; simpa using hxs
        have HNO2 : Hid (s ∉ ks.take (k + 1)) := by
          show s ∉ _
          rw [List.take_succ_eq_append_getElem hkl, List.mem_append, List.mem_singleton, hx]
          rintro (h | h)
          · exact HNO.out h
          · exact hxs h.symm
        clear hxs hx
        go_wp2
        go_roundg (gk - 1)
        case measure => omega
        case rel => exact ⟨k + 1, by go_num, by rw [← HN.out]; omega, HNO2.out, rfl⟩
    · have HB2 : Hid (b = false) := by
        show _ = _
        cases hbb : b with
        | false => rfl
        | true =>
          have h1 := HB.out.1 hbb
          have h2 := HNO.out
          rw [List.take_of_length_le (by rw [← HN.out]; omega)] at h2
          exact absurd h1 h2
      go_wp2
      go_ret
      rw [HB2.out]
      exact ⟨rfl, rfl⟩
/-- What key tells, and leaves. -/
def RKeyTold (s : ByteArray) (ao : Option Addr) (m cap : Nat) (w : World) (q : Nat × List UInt8 × List UInt8) (r : Ending) (w' : World) : Prop :=
  ∃ j, j ≤ s.size ∧ (q.1 = 0 → restB s j = q.2.2) ∧ r = .returned (.tuple #[stV s j (.slice ao m cap) q.1, .string (bytesOf q.2.1)]) ∧ Below w.heap.size w w'

/-- In key: the state's block and the result's. -/
structure KeyIn (s : ByteArray) (v : Value) (w : World) (j : Nat) (E : Int) (W : World) : Prop where
  p : BoxS W w.heap.size (.string s) (.int .i64 (j : Int)) v (.int .i64 E)
  r : BoxS W (w.heap.size + 1) (.string ⟨#[]⟩) (.int .i64 0) (.slice none 0 0) (.int .i64 0)
  b : Below w.heap.size w W
theorem KeyIn.keep {s : ByteArray} {v : Value} {w W W' : World} {j : Nat} {E : Int} (h : KeyIn s v w j E W) (hb : Below W.heap.size W W') : KeyIn s v w j E W' := ⟨h.p.keep hb, h.r.keep hb, chain h.b hb⟩
theorem KeyIn.put {s : ByteArray} {v : Value} {w W : World} {j : Nat} {E : Int} (h : KeyIn s v w j E W) (j' : Nat) (E' : Int) : KeyIn s v w j' E' (put4 W w.heap.size (.string s) (.int .i64 (j' : Int)) v (.int .i64 E')) :=
  ⟨h.p.put _ _ _ _, h.r.putO _ (by omega) _ _ _ _, below_put h.b (Nat.le_refl _) _ _ _ _⟩

set_option maxRecDepth 100000 in
set_option maxHeartbeats 3200000 in
theorem rrkey_any (s : ByteArray) (k : Nat) (ao : Option Addr) (m cap : Nat) (kv : Value) (ks : List ByteArray) (w : World) (hK : StrsAt w kv ks) (hkz : ks.length ≤ 1000000) (hk : k ≤ s.size) (hs : s.size ≤ 1000000) (keys : List (List UInt8)) (hkeys : keys = ks.map (·.data.toList)) :
    Calls Tryd.prog 83 #[stV s k (.slice ao m cap) 0, kv] w fun r w' => RKeyTold s ao m cap w (keyF keys (restB s k)) r w' := by
  obtain ⟨A, hA⟩ : ∃ A, keyF keys (restB s k) = A := ⟨_, rfl⟩
  rw [hA]
  have hin : KeyIn s (.slice ao m cap) w k 0 ((w.alloc (.cells #[.string s, .int .i64 (k : Int), .slice ao m cap, .int .i64 0] 76)).alloc (.cells #[.string ⟨#[]⟩, .int .i64 0, .slice none 0 0, .int .i64 0] 76)) := by
    refine ⟨(BoxS.new w _ _ _ _).keep ((Below.refl _ _).alloc (Nat.le_refl _) _), ?_, ((Below.refl _ _).alloc (Nat.le_refl _) _).alloc (by simp) _⟩
    have e := BoxS.new (w.alloc (.cells #[.string s, .int .i64 (k : Int), .slice ao m cap, .int .i64 0] 76)) (.string ⟨#[]⟩) (.int .i64 0) (.slice none 0 0) (.int .i64 0)
    rw [show (w.alloc (.cells #[.string s, .int .i64 (k : Int), .slice ao m cap, .int .i64 0] 76)).heap.size = w.heap.size + 1 by simp] at e
    exact e
  obtain ⟨W, hW⟩ : ∃ W, (w.alloc (.cells #[.string s, .int .i64 (k : Int), .slice ao m cap, .int .i64 0] 76)).alloc (.cells #[.string ⟨#[]⟩, .int .i64 0, .slice none 0 0, .int .i64 0] 76) = W := ⟨_, rfl⟩
  rw [hW] at hin
  have HIN := Lib.hid hin
  have HW := Lib.hid hW
  have HA := Lib.hid hA
  have HK := Lib.hid hK
  have HKS := Lib.hid hkeys
  have hcon : ∀ U : ByteArray, (keys.contains U.data.toList = true ↔ U ∈ ks) := fun U => by
    rw [hkeys, List.contains_iff_mem, List.mem_map]
    constructor
    · rintro ⟨x, hx, e⟩
      rw [← ba_ext e]
      exact hx
    · intro h
      exact ⟨U, h, rfl⟩
  have HCON := Lib.hid hcon
  clear hin hW hA hK hkeys hcon
  unfold stV
  go_enter Tryd.func83, Tryd.ntmps83
  go_wp2_with fail
  rw [HW.out]
  refine (rskip_any s k ao m cap 0 _ hk hs).mono ?_
  -- WALK
  rintro _ w1 ⟨j, hj, hrj, rfl, hb1⟩
  have hinw1 := HIN.out.keep hb1
  have HRJ := Lib.hid hrj
  clear hb1 hrj HIN
  by_cases h34 : (restB s j).head? = some 34
  · have hst : standsL [34] (restB s j) = true := by rw [stands_sign, h34]; rfl
    have HST := Lib.hid hst
    have H34 : Hid ((skipL (restB s k)).head? = some 34) := by show _ = _; rw [← HRJ.out]; exact h34
    obtain ⟨E, u, r, hq⟩ : ∃ E u r, quotF (restB s j) = (E, u, r) := ⟨_, _, _, rfl⟩
    obtain ⟨U, hU⟩ : ∃ U, bytesOf u = U := ⟨_, rfl⟩
    have hA2 : A = if E = 0 then (if keys.contains u then (82, [], []) else if (skipL r).head? = some 58 then (0, u, (skipL r).tail) else (80, [], [])) else (E, [], []) := by
      rw [← HA.out]
      unfold keyF
      rw [if_pos H34.out, ← HRJ.out, hq]
    have HA2 := Lib.hid hA2
    have HQ := Lib.hid hq
    have HU := Lib.hid hU
    have hUl : U.data.toList = u := by rw [← hU, list_bytesOf]
    have HUL := Lib.hid hUl
    clear hst h34 hA2 hq hU hUl HA
    obtain ⟨W2, hW2⟩ : ∃ W, ((((w1.setCell ⟨w.heap.size, 0, none⟩ (.string s)).setCell ⟨w.heap.size, 1, none⟩ (.int .i64 (j : Int))).setCell ⟨w.heap.size, 2, none⟩ (.slice ao m cap)).setCell ⟨w.heap.size, 3, none⟩ (.int .i64 0)) = W := ⟨_, rfl⟩
    have hinW2 : KeyIn s (.slice ao m cap) w j 0 W2 := by
      rw [← hW2]
      exact hinw1.put j 0
    have HINW2 := Lib.hid hinW2
    have HEW2 := Lib.hid hW2
    obtain ⟨p0, p1, p2, p3⟩ := hinw1.p.cells
    have f0 := hinw1.p.frozen 0
    have f1 := hinw1.p.frozen 1
    have f2 := hinw1.p.frozen 2
    have f3 := hinw1.p.frozen 3
    clear hinW2 hW2 hinw1
    unfold stV
    go_wp2_with fail
    rw [HEW2.out]
    clear p0 p1 p2 p3 f0 f1 f2 f3 HEW2
    refine (ris_any s j (.slice ao m cap) 0 34 34 rfl true HST.out _ hs).mono ?_
    rintro _ w3 ⟨rfl, hb3⟩
    have hinw3 := HINW2.out.keep hb3
    have HIN3 := Lib.hid hinw3
    obtain ⟨p0, p1, p2, p3⟩ := hinw3.p.cells
    clear hb3 hinw3 HINW2
    go_wp2_with fail
    refine (rrquoted_any s j ao m cap 0 _ hj hs (E, u, r) HQ.out U HU.out).mono ?_
    rintro _ w4 ⟨j2, hj2, hr2, rfl, hb4⟩
    have hinw4 := HIN3.out.keep hb4
    have HR2 := Lib.hid hr2
    clear hb4 HIN3 p0 p1 p2 p3 hr2
    by_cases hE : E = 0
    · subst hE
      have HA3 : Hid (A = (if keys.contains u then (82, [], []) else if (skipL r).head? = some 58 then (0, u, (skipL r).tail) else (80, [], []))) := by
        show _ = _
        rw [HA2.out, if_pos rfl]
      have HRR : Hid (restB s j2 = r) := HR2.out rfl
      clear HA2 HR2
      have hcc := HCON.out U
      rw [HUL.out] at hcc
      have HCC := Lib.hid hcc
      clear hcc
      obtain ⟨W5, hW5⟩ : ∃ W, ((((w4.setCell ⟨w.heap.size, 0, none⟩ (.string s)).setCell ⟨w.heap.size, 1, none⟩ (.int .i64 (j2 : Int))).setCell ⟨w.heap.size, 2, none⟩ (.slice ao m cap)).setCell ⟨w.heap.size, 3, none⟩ (.int .i64 0)) = W := ⟨_, rfl⟩
      have hinW5 : KeyIn s (.slice ao m cap) w j2 0 W5 := by
        rw [← hW5]
        exact hinw4.put j2 0
      have HINW5 := Lib.hid hinW5
      have HEW5 := Lib.hid hW5
      obtain ⟨p0, p1, p2, p3⟩ := hinw4.p.cells
      have f0 := hinw4.p.frozen 0
      have f1 := hinw4.p.frozen 1
      have f2 := hinw4.p.frozen 2
      have f3 := hinw4.p.frozen 3
      clear hinW5 hW5 hinw4
      unfold stV
      go_wp2_with fail
      rw [HEW5.out]
      clear p0 p1 p2 p3 f0 f1 f2 f3 HEW5
      have hins := HINW5.out
      have HKA := Lib.hid (HK.out.keep hins.b)
      clear hins
      cases hc : keys.contains u with
      | true =>
        have HA4 : Hid (A = (82, [], [])) := by show _ = _; rw [HA3.out, if_pos hc]
        have HIFF : Hid (U ∈ ks) := HCC.out.1 hc
        clear hc HA3 HCC
        refine (ramong_any kv ks U _ HKA.out hkz true ⟨fun _ => HIFF.out, fun _ => rfl⟩).mono ?_
        rintro _ w6 ⟨rfl, rfl⟩
        obtain ⟨p0, p1, p2, p3⟩ := HINW5.out.p.cells
        go_wp2_with fail
        refine (ramiss_any s j2 ao m cap 0 82 _).mono ?_
        rintro _ wz ⟨rfl, hbz⟩
        have hinz := HINW5.out.keep hbz
        clear hbz
        obtain ⟨q0, q1, q2, q3⟩ := hinz.r.cells
        have g0 := hinz.r.frozen 0
        have g1 := hinz.r.frozen 1
        have g2 := hinz.r.frozen 2
        have g3 := hinz.r.frozen 3
        have HBZ := Lib.hid hinz.b
        unfold stV
        go_wp2
        refine bodyPost_ret (v := .tuple #[stV s j2 (.slice ao m cap) 82, .string ⟨#[]⟩]) (by simp [results, Tryd.results83, go_sem, q0, q1, q2, q3, stV]) rfl ?_
        rw [HA4.out]
        exact ⟨j2, by assumption, (fun h => by cases h), rfl, below_put HBZ.out (by omega) _ _ _ _⟩
      | false =>
        have HIFF : Hid (¬ U ∈ ks) := fun h => by rw [HCC.out.2 h] at hc; cases hc
        have HA4 : Hid (A = (if (skipL r).head? = some 58 then (0, u, (skipL r).tail) else (80, [], []))) := by show _ = _; rw [HA3.out, if_neg (by rw [hc]; simp)]
        clear hc HA3 HCC
        refine (ramong_any kv ks U _ HKA.out hkz false ⟨(fun h => by cases h), fun h => absurd h HIFF.out⟩).mono ?_
        rintro _ w6 ⟨rfl, rfl⟩
        obtain ⟨p0, p1, p2, p3⟩ := HINW5.out.p.cells
        go_wp2_with fail
        refine (rskip_any s j2 ao m cap 0 _ hj2 hs).mono ?_
        rintro _ w7 ⟨j3, hj3, hr3, rfl, hb7⟩
        rw [HRR.out] at hr3
        have HR3 := Lib.hid hr3
        have hinw7 := HINW5.out.keep hb7
        clear hb7 HINW5 p0 p1 p2 p3 HKA hr3
        by_cases h58 : (restB s j3).head? = some 58
        · have hst : standsL [58] (restB s j3) = true := by rw [stands_sign, h58]; rfl
          have HST2 := Lib.hid hst
          have hlt : j3 < s.size := by
            by_cases h : j3 < s.size
            · exact h
            · rw [restB_nil s j3 h] at h58
              cases h58
          have HA5 : Hid (A = (0, u, restB s (j3 + 1))) := by
            show _ = _
            rw [HA4.out, if_pos (by rw [← HR3.out]; exact h58), ← HR3.out, restB_cons s j3 hlt]
            rfl
          clear hst h58 HA4
          obtain ⟨W8, hW8⟩ : ∃ W, ((((w7.setCell ⟨w.heap.size, 0, none⟩ (.string s)).setCell ⟨w.heap.size, 1, none⟩ (.int .i64 (j3 : Int))).setCell ⟨w.heap.size, 2, none⟩ (.slice ao m cap)).setCell ⟨w.heap.size, 3, none⟩ (.int .i64 0)) = W := ⟨_, rfl⟩
          have hinW8 : KeyIn s (.slice ao m cap) w j3 0 W8 := by
            rw [← hW8]
            exact hinw7.put j3 0
          have HINW8 := Lib.hid hinW8
          have HEW8 := Lib.hid hW8
          obtain ⟨p0, p1, p2, p3⟩ := hinw7.p.cells
          have f0 := hinw7.p.frozen 0
          have f1 := hinw7.p.frozen 1
          have f2 := hinw7.p.frozen 2
          have f3 := hinw7.p.frozen 3
          clear hinW8 hW8 hinw7
          unfold stV
          go_wp2_with fail
          rw [HEW8.out]
          clear p0 p1 p2 p3 f0 f1 f2 f3 HEW8
          refine (ris_any s j3 (.slice ao m cap) 0 58 58 rfl true HST2.out _ hs).mono ?_
          rintro _ w9 ⟨rfl, hb9⟩
          have hinw9 := HINW8.out.keep hb9
          clear hb9 HINW8
          obtain ⟨p0, p1, p2, p3⟩ := hinw9.p.cells
          have f1 := hinw9.p.frozen 1
          have hinX : KeyIn s (.slice ao m cap) w (j3 + 1) 0 (w9.setCell ⟨w.heap.size, 1, none⟩ (.int .i64 ((j3 : Int) + 1))) :=
            ⟨(hinw9.p.set _).2.1, hinw9.r.other _ _ (by show w.heap.size ≠ w.heap.size + 1; omega), hinw9.b.setCell (p := ⟨w.heap.size, 1, none⟩) (Nat.le_refl _) _⟩
          obtain ⟨q0, q1, q2, q3⟩ := hinw9.r.cells
          have g0 := hinw9.r.frozen 0
          have g1 := hinw9.r.frozen 1
          have g2 := hinw9.r.frozen 2
          have g3 := hinw9.r.frozen 3
          have HBZ := Lib.hid hinX.b
          clear hinX hinw9
          go_wp2
          refine bodyPost_ret (v := .tuple #[stV s (j3 + 1) (.slice ao m cap) 0, .string U]) (by simp [results, Tryd.results83, go_sem, q0, q1, q2, q3, stV]) rfl ?_
          rw [HA5.out]
          refine ⟨j3 + 1, by omega, fun _ => rfl, ?_, below_put HBZ.out (by omega) _ _ _ _⟩
          show _ = Ending.returned (.tuple #[stV s (j3 + 1) (.slice ao m cap) 0, .string (bytesOf u)])
          rw [HU.out]
        · have hst : standsL [58] (restB s j3) = false := by
            rw [stands_sign]
            simpa using h58
          have HST2 := Lib.hid hst
          have HA5 : Hid (A = (80, [], [])) := by
            show _ = _
            rw [HA4.out, if_neg (by rw [← HR3.out]; exact h58)]
          clear hst h58 HA4
          obtain ⟨W8, hW8⟩ : ∃ W, ((((w7.setCell ⟨w.heap.size, 0, none⟩ (.string s)).setCell ⟨w.heap.size, 1, none⟩ (.int .i64 (j3 : Int))).setCell ⟨w.heap.size, 2, none⟩ (.slice ao m cap)).setCell ⟨w.heap.size, 3, none⟩ (.int .i64 0)) = W := ⟨_, rfl⟩
          have hinW8 : KeyIn s (.slice ao m cap) w j3 0 W8 := by
            rw [← hW8]
            exact hinw7.put j3 0
          have HINW8 := Lib.hid hinW8
          have HEW8 := Lib.hid hW8
          obtain ⟨p0, p1, p2, p3⟩ := hinw7.p.cells
          have f0 := hinw7.p.frozen 0
          have f1 := hinw7.p.frozen 1
          have f2 := hinw7.p.frozen 2
          have f3 := hinw7.p.frozen 3
          clear hinW8 hW8 hinw7
          unfold stV
          go_wp2_with fail
          rw [HEW8.out]
          clear p0 p1 p2 p3 f0 f1 f2 f3 HEW8
          refine (ris_any s j3 (.slice ao m cap) 0 58 58 rfl false HST2.out _ hs).mono ?_
          rintro _ w9 ⟨rfl, hb9⟩
          have hinw9 := HINW8.out.keep hb9
          have HIN9 := Lib.hid hinw9
          obtain ⟨p0, p1, p2, p3⟩ := hinw9.p.cells
          clear hb9 HINW8 hinw9
          go_wp2_with fail
          refine (ramiss_any s j3 ao m cap 0 80 _).mono ?_
          rintro _ wz ⟨rfl, hbz⟩
          have hinz := HIN9.out.keep hbz
          clear hbz
          obtain ⟨q0, q1, q2, q3⟩ := hinz.r.cells
          have g0 := hinz.r.frozen 0
          have g1 := hinz.r.frozen 1
          have g2 := hinz.r.frozen 2
          have g3 := hinz.r.frozen 3
          have HBZ := Lib.hid hinz.b
          unfold stV
          go_wp2
          refine bodyPost_ret (v := .tuple #[stV s j3 (.slice ao m cap) 80, .string ⟨#[]⟩]) (by simp [results, Tryd.results83, go_sem, q0, q1, q2, q3, stV]) rfl ?_
          rw [HA5.out]
          exact ⟨j3, by assumption, (fun h => by cases h), rfl, below_put HBZ.out (by omega) _ _ _ _⟩
    · have z1 : ((E : Int) == 0) = false := by rw [beq_eq_false_iff_ne]; omega
      have z2 : ((E : Int) != 0) = true := by simp; omega
      have z3 : ¬ (E : Int) = 0 := by omega
      have HA3 : Hid (A = (E, [], [])) := by
        show _ = _
        rw [HA2.out, if_neg hE]
      have HNE := Lib.hid hE
      clear HA2 HR2 hE
      have hinX : KeyIn s (.slice ao m cap) w j2 (E : Int) ((((w4.setCell ⟨w.heap.size, 0, none⟩ (.string s)).setCell ⟨w.heap.size, 1, none⟩ (.int .i64 (j2 : Int))).setCell ⟨w.heap.size, 2, none⟩ (.slice ao m cap)).setCell ⟨w.heap.size, 3, none⟩ (.int .i64 (E : Int))) := hinw4.put j2 (E : Int)
      obtain ⟨p0, p1, p2, p3⟩ := hinw4.p.cells
      have f0 := hinw4.p.frozen 0
      have f1 := hinw4.p.frozen 1
      have f2 := hinw4.p.frozen 2
      have f3 := hinw4.p.frozen 3
      obtain ⟨q0, q1, q2, q3⟩ := hinw4.r.cells
      have g0 := hinw4.r.frozen 0
      have g1 := hinw4.r.frozen 1
      have g2 := hinw4.r.frozen 2
      have g3 := hinw4.r.frozen 3
      have HBZ := Lib.hid hinX.b
      clear hinX hinw4
      unfold stV
      go_wp2
      refine bodyPost_ret (v := .tuple #[stV s j2 (.slice ao m cap) E, .string ⟨#[]⟩]) (by simp [results, Tryd.results83, go_sem, q0, q1, q2, q3, stV]) rfl ?_
      rw [HA3.out]
      exact ⟨j2, hj2, fun h => absurd h HNE.out, rfl, below_put HBZ.out (by omega) _ _ _ _⟩
  · have hst : standsL [34] (restB s j) = false := by
      rw [stands_sign]
      simpa using h34
    have HST := Lib.hid hst
    have HA2 : Hid (A = (80, [], [])) := by
      show _ = _
      rw [← HA.out]
      unfold keyF
      rw [if_neg (by rw [← HRJ.out]; exact h34)]
    clear hst h34 HA
    obtain ⟨W2, hW2⟩ : ∃ W, ((((w1.setCell ⟨w.heap.size, 0, none⟩ (.string s)).setCell ⟨w.heap.size, 1, none⟩ (.int .i64 (j : Int))).setCell ⟨w.heap.size, 2, none⟩ (.slice ao m cap)).setCell ⟨w.heap.size, 3, none⟩ (.int .i64 0)) = W := ⟨_, rfl⟩
    have hinW2 : KeyIn s (.slice ao m cap) w j 0 W2 := by
      rw [← hW2]
      exact hinw1.put j 0
    have HINW2 := Lib.hid hinW2
    have HEW2 := Lib.hid hW2
    obtain ⟨p0, p1, p2, p3⟩ := hinw1.p.cells
    have f0 := hinw1.p.frozen 0
    have f1 := hinw1.p.frozen 1
    have f2 := hinw1.p.frozen 2
    have f3 := hinw1.p.frozen 3
    clear hinW2 hW2 hinw1
    unfold stV
    go_wp2_with fail
    rw [HEW2.out]
    clear p0 p1 p2 p3 f0 f1 f2 f3 HEW2
    refine (ris_any s j (.slice ao m cap) 0 34 34 rfl false HST.out _ hs).mono ?_
    rintro _ w3 ⟨rfl, hb3⟩
    have hinw3 := HINW2.out.keep hb3
    have HIN3 := Lib.hid hinw3
    obtain ⟨p0, p1, p2, p3⟩ := hinw3.p.cells
    clear hb3 hinw3 HINW2
    go_wp2_with fail
    refine (ramiss_any s j ao m cap 0 80 _).mono ?_
    rintro _ wz ⟨rfl, hbz⟩
    have hinz := HIN3.out.keep hbz
    clear hbz
    obtain ⟨q0, q1, q2, q3⟩ := hinz.r.cells
    have g0 := hinz.r.frozen 0
    have g1 := hinz.r.frozen 1
    have g2 := hinz.r.frozen 2
    have g3 := hinz.r.frozen 3
    have HBZ := Lib.hid hinz.b
    unfold stV
    go_wp2
    refine bodyPost_ret (v := .tuple #[stV s j (.slice ao m cap) 80, .string ⟨#[]⟩]) (by simp [results, Tryd.results83, go_sem, q0, q1, q2, q3, stV]) rfl ?_
    rw [HA2.out]
    exact ⟨j, by assumption, (fun h => by cases h), rfl, below_put HBZ.out (by omega) _ _ _ _⟩
end Go.Proofs.YtmnigdcgdebgoaaDoor
