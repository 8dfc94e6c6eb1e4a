/-
  The program's json.closed, json.quoted, json.beginning.
  The program's json.Print.
  The program's json.Print, of any row.
-/
import Derived.Test.YtmnigdcgdebgoaaDoorJsD
import Derived.Test.YtmnigdcgdebgoaaDoorMathN
import Derived.Test.YtmnigdcgdebgoaaDoorBaseS
import Derived.Test.YtmnigdcgdebgoaaDoorQuoN
import Derived.Test.YtmnigdcgdebgoaaDoorDecM
namespace Go.Proofs.YtmnigdcgdebgoaaDoor
open Go.RowKit
set_option linter.unusedVariables false

def ClosedAt (b : Nat) (out : List UInt8) (ends : ByteArray) (dn : Nat) (w : World) (n : Nat) (v7 : Value) (wr : World) : Prop :=
  ∃ i : Nat, dn ≤ i ∧ i ≤ ends.size ∧ i - dn = n ∧ v7 = .int .i64 (i : Int) ∧ Bld wr b (out ++ (ends.data.toList.drop i).reverse) ∧ Below b w wr ∧ FrT b w wr

theorem drop_rev (l : List UInt8) (i : Nat) (h : i < l.length) : (l.drop i).reverse = (l.drop (i + 1)).reverse ++ [l[i]] := by
  rw [List.drop_eq_getElem_cons h, List.reverse_cons]

set_option maxRecDepth 100000 in
set_option maxHeartbeats 800000 in
theorem closed_any (b : Nat) (out : List UInt8) (ends : ByteArray) (dn : Nat) (w : World) (h : Bld w b out) (hd : dn ≤ ends.size) (hez : ends.size ≤ 1000) (hl : out.length ≤ 100000000000000) (E : ByteArray) (hE : E = ends.extract 0 dn) :
    Calls Tryd.prog 31 #[.pointer (some ⟨b, 0, none⟩), .string ends, .int .i64 (dn : Int)] w fun e w' => e = .returned (.string E) ∧ Bld w' b (out ++ (ends.data.toList.drop dn).reverse) ∧ Below b w w' ∧ FrT b w w' := by
  have HST : Hid (ClosedAt b out ends dn w (ends.size - dn) (.int .i64 (ends.size : Int)) w) := ⟨ends.size, hd, Nat.le_refl _, rfl, rfl, by rw [List.drop_eq_nil_of_le (by rw [list_len]; exact Nat.le_refl _)]; simpa using h, Below.refl _ _, FrT.refl _ _⟩
  have HE := Lib.hid hE
  clear h hE
  go_enter Tryd.func31, Tryd.ntmps31
  go_wp2
  go_loopg [7] (ends.size - dn) (fun n v7 wr => ClosedAt b out ends dn w n v7 wr)
  case atStart => exact HST.out
  case round =>
    obtain ⟨i, hi1, hi2, hin, rfl, hbl, hbe, hfr⟩ := hrel
    have HB := Lib.hid hbl
    have HBE := Lib.hid hbe
    have HFR := Lib.hid hfr
    clear hbl hbe hfr HST
    by_cases hi : dn < i
    · obtain ⟨j, rfl⟩ : ∃ j, i = j + 1 := ⟨i - 1, by omega⟩
      have hj : j < ends.size := by omega
      have hlen : (out ++ (ends.data.toList.drop (j + 1)).reverse).length + 1 ≤ 140737488355328 := by
        rw [List.length_append, List.length_reverse, List.length_drop, list_len]
        omega
      have hrev : (out ++ (ends.data.toList.drop (j + 1)).reverse) ++ [ends[j]] = out ++ (ends.data.toList.drop j).reverse := by
        rw [drop_rev ends.data.toList j (by rw [list_len]; exact hj), bget ends j hj, List.append_assoc]
      have HREV := Lib.hid hrev
      clear hrev
      go_wp2_with fail
      refine (wbyte_fr b _ ends[j] _ _ rfl HB.out hlen).mono ?_
      rintro _ w1 ⟨rfl, hb1, hbe1, hfr1⟩
      rw [HREV.out] at hb1
      have HB1 := Lib.hid hb1
      have HBE1 := Lib.hid (HBE.out.trans hbe1)
      have HFR1 := Lib.hid (HFR.out.trans hfr1)
      clear hb1 hbe1 hfr1
      go_wp2
      go_roundg (gk - 1)
      case measure => omega
      case rel => exact ⟨j, by omega, by omega, by omega, by go_num, HB1.out, HBE1.out, HFR1.out⟩
    · have e : i = dn := by omega
      subst e
      go_wp2
      go_ret
      rw [HE.out]
      exact ⟨rfl, HB.out, HBE.out, HFR.out⟩

theorem jquoted_any (s Q : ByteArray) (w : World) (hT : Tabs w) (hs : s.size ≤ 1000000) (hv : validU s.data.toList = true) (hQ : bytesOf (quoteL s.data.toList) = Q) :
    Calls Tryd.prog 35 #[.string s] w fun e w' => e = .returned (.string Q) ∧ Below w.heap.size w w' := by
  have hq := qwrite_any s w hT (by omega)
  have e : quoteV s = .tuple #[.string Q, .bool true] := by
    unfold quoteV
    rw [if_pos (show validB s = true from hv), ← hQ]
    rfl
  rw [e] at hq
  have HQ := Lib.hid hq
  clear hq e hQ hT hv
  go_enter Tryd.func35, Tryd.ntmps35
  go_wp2_with fail
  refine HQ.out.mono ?_
  rintro _ w1 ⟨rfl, hb1⟩
  go_wp2
  go_ret
  exact ⟨rfl, hb1⟩

set_option maxRecDepth 100000 in
set_option maxHeartbeats 1600000 in
theorem beginning_any (d K n : Int) (key text B : ByteArray) (w : World) (hT : Tabs w) (htz : text.size ≤ 1000000) (hw : wholeU ⟨d, K, key.data.toList, text.data.toList, n⟩ = true) (hn1 : -9223372036854775808 ≤ n) (hn2 : n ≤ 9223372036854775807) (hB : bytesOf (begL ⟨d, K, key.data.toList, text.data.toList, n⟩) = B) :
    Calls Tryd.prog 36 #[itA d K key text n] w fun e w' => e = .returned (.string B) ∧ Below w.heap.size w w' := by
  obtain ⟨h1, h7, _, hv, _, _⟩ := whole_yes _ hw
  have h1 : 1 ≤ K := h1
  have h7 : K ≤ 7 := h7
  have hba := (Below.refl w.heap.size w).alloc (Nat.le_refl _) (.cells #[.int .i64 d, .int .i64 K, .string key, .string text, .int .i64 n] 41)
  have HBA := Lib.hid hba
  have HT := Lib.hid (hT.keep hba)
  have HV : Hid (validU text.data.toList = true) := hv
  clear hba hT hv
  unfold itA
  have hc : K = 1 ∨ K = 2 ∨ K = 3 ∨ K = 4 ∨ K = 5 ∨ K = 6 ∨ K = 7 := by omega
  rcases hc with rfl | rfl | rfl | rfl | rfl | rfl | rfl
  · have HBB : Hid (bytesOf (wordL 1) = B) := hB
    clear hB h1 h7 hw
    go_enter Tryd.func36, Tryd.ntmps36
    go_wp2_with fail
    refine (jword_any 1 _ rfl (by omega) (by omega) B HBB.out _).mono ?_
    rintro _ w1 ⟨rfl, rfl⟩
    go_wp2
    go_ret
    exact ⟨rfl, HBA.out⟩
  · have HBB : Hid (bytesOf (wordL 2) = B) := hB
    clear hB h1 h7 hw
    go_enter Tryd.func36, Tryd.ntmps36
    go_wp2_with fail
    refine (jword_any 2 _ rfl (by omega) (by omega) B HBB.out _).mono ?_
    rintro _ w1 ⟨rfl, rfl⟩
    go_wp2
    go_ret
    exact ⟨rfl, HBA.out⟩
  · have HBB : Hid (bytesOf (wordL 3) = B) := hB
    clear hB h1 h7 hw
    go_enter Tryd.func36, Tryd.ntmps36
    go_wp2_with fail
    refine (jword_any 3 _ rfl (by omega) (by omega) B HBB.out _).mono ?_
    rintro _ w1 ⟨rfl, rfl⟩
    go_wp2
    go_ret
    exact ⟨rfl, HBA.out⟩
  · have HBB : Hid (printB n = B) := hB
    clear hB h1 h7 hw
    go_enter Tryd.func36, Tryd.ntmps36
    go_wp2_with fail
    refine (print_any n _ hn1 hn2).mono ?_
    rw [HBB.out]
    rintro _ w1 ⟨rfl, hb1⟩
    have hb2 := chain HBA.out hb1
    clear hb1
    go_wp2
    go_ret
    exact ⟨rfl, hb2⟩
  · have HBB : Hid (bytesOf (quoteL text.data.toList) = B) := hB
    clear hB h1 h7 hw
    go_enter Tryd.func36, Tryd.ntmps36
    go_wp2_with fail
    refine (jquoted_any text B _ HT.out htz HV.out HBB.out).mono ?_
    rintro _ w1 ⟨rfl, hb1⟩
    have hb2 := chain HBA.out hb1
    clear hb1
    go_wp2
    go_ret
    exact ⟨rfl, hb2⟩
  · have HBB : Hid (B = ⟨#[91]⟩) := hB.symm
    clear hB h1 h7 hw
    go_enter Tryd.func36, Tryd.ntmps36
    go_wp2
    go_ret
    rw [HBB.out]
    exact ⟨rfl, HBA.out⟩
  · have HBB : Hid (B = ⟨#[123]⟩) := hB.symm
    clear hB h1 h7 hw
    go_enter Tryd.func36, Tryd.ntmps36
    go_wp2
    go_ret
    rw [HBB.out]
    exact ⟨rfl, HBA.out⟩
end Go.Proofs.YtmnigdcgdebgoaaDoor
namespace Go.Proofs.YtmnigdcgdebgoaaDoor
open Go.RowKit
set_option linter.unusedVariables false

/-- The closing sign of any kind. -/
def endL (K : Int) : List UInt8 := if K = 6 then [93] else if K = 7 then [125] else []
theorem end_all (K : Int) (E : ByteArray) (hE : bytesOf (endL K) = E) (w : World) : Calls Tryd.prog 37 #[.int .i64 K] w fun e w' => e = .returned (.string E) ∧ w = w' := by
  by_cases h6 : K = 6
  · subst h6
    subst hE
    exact end_any false w
  · by_cases h7 : K = 7
    · subst h7
      subst hE
      exact end_any true w
    · have e : E = ⟨#[]⟩ := by
        rw [← hE]
        unfold endL
        rw [if_neg h6, if_neg h7]
        rfl
      subst e
      have z6 : (K == 6) = false := by rw [beq_eq_false_iff_ne]; exact h6
      have z7 : (K == 7) = false := by rw [beq_eq_false_iff_ne]; exact h7
      clear hE
      go_enter Tryd.func37, Tryd.ntmps37
      go_wp2
      go_ret
      exact ⟨rfl, rfl⟩

def prevOf (l : List It) (i : Nat) : Int := if i = 0 then -1 else (l[i - 1]?.map (·.depth)).getD (-1)

def PrintAt (l : List It) (b : Nat) (w : World) (R : List UInt8) (n : Nat) (v4 v12 : Value) (wr : World) : Prop :=
  ∃ (i : Nat) (st : St) (out : List UInt8), v12 = .int .i64 (i : Int) ∧ v4 = .string (bytesOf (endsOf (st.map (·.1)))) ∧ i + n = l.length ∧ Bld wr b out ∧ Below w.heap.size w wr ∧ b < wr.heap.size ∧ st.length ≤ 64 ∧ runU i st (l.drop i) = true ∧ out ++ prM (prevOf l i) (st.map (·.1)) (l.drop i) = R

theorem FrT.box {b : Nat} {w w' : World} {B : Nat} {a c d e f : Value} (h : FrT b w w') (hB : Box w B a c d e f) (hb : B ≠ b) : Box w' B a c d e f :=
  ⟨(h.block B hB.lt hb (fun cs fz e => by rw [hB.at_] at e; cases e)).trans hB.at_⟩
theorem prM_cons (prev : Int) (bs : List Bool) (x : It) (t : List It) : prM prev bs (x :: t) = (endsOf (bs.drop x.depth.toNat)).reverse ++ ((if x.depth ≤ prev then [44] else []) ++ ((if (bs.take x.depth.toNat).getLast? = some true then quoteL x.key ++ [58] else []) ++
      (begL x ++ prM x.depth (bs.take x.depth.toNat ++ if 6 ≤ x.kind then [decide (x.kind = 7)] else []) t))) := rfl
theorem ends_next (bs : List Bool) (K : Int) (h7 : K ≤ 7) : endsOf (bs ++ if 6 ≤ K then [decide (K = 7)] else []) = endsOf bs ++ endL K := by
  unfold endsOf endL
  rw [List.map_append]
  congr 1
  by_cases h6 : K = 6
  · subst h6
    rfl
  · by_cases h77 : K = 7
    · subst h77
      rfl
    · rw [if_neg (by omega), if_neg h6, if_neg h77]
      rfl
theorem bytesOf_app (a b : List UInt8) : bytesOf a ++ bytesOf b = bytesOf (a ++ b) := by
  apply ba_ext
  rw [app_list, list_bytesOf, list_bytesOf, list_bytesOf]
theorem bytesOf_size (l : List UInt8) : (bytesOf l).size = l.length := by
  rw [← list_len, list_bytesOf]
theorem bytesOf_extract (l : List UInt8) (n : Nat) : (bytesOf l).extract 0 n = bytesOf (l.take n) := by
  apply ba_ext
  rw [extract_list, list_bytesOf, list_bytesOf]
  simp
theorem prev_next (l : List It) (i : Nat) (hi : i < l.length) : prevOf l (i + 1) = l[i].depth := by
  unfold prevOf
  rw [if_neg (by omega), Nat.add_sub_cancel, List.getElem?_eq_getElem hi]
  rfl

set_option maxRecDepth 100000 in
set_option maxHeartbeats 6400000 in
theorem print_some (l : List It) (ad : Addr) (cap : Nat) (w : World) (hT : Tabs w) (hc : ∀ j u, (itsV l)[j]? = some u → w.cell? (ad.add j) = some u) (hcap : l.length ≤ cap) (hsm : Small l) (h0 : l ≠ []) (hr : rightU l = true) (R : List UInt8) (hR : prM (-1) [] l = R) (hRz : R.length ≤ 100000000000) :
    Calls Tryd.prog 18 #[.slice (some ad) l.length cap] w fun e w' => e = .returned (.string (bytesOf R)) ∧ Below w.heap.size w w' := by
  have hrt := jright_any (.slice (some ad) l.length cap) l w hT (.inr ⟨ad, cap, rfl, hcap, hc⟩) hsm
  rw [hr] at hrt
  have hru : runU 0 [] l = true := by
    unfold rightU at hr
    simp at hr
    exact hr.2
  obtain ⟨n, hn⟩ : ∃ n, l.length = n := ⟨_, rfl⟩
  have hnz : n ≤ 100000 := by rw [← hn]; exact hsm.1
  rw [hn] at hrt ⊢
  have HRT := Lib.hid hrt
  have HRU := Lib.hid hru
  have HRR := Lib.hid hR
  have HC := Lib.hid hc
  have HN := Lib.hid hn
  have HSM := Lib.hid hsm
  have HT := Lib.hid hT
  rw [hn] at hcap
  clear hc hn hsm h0 hT hrt hru hR hr
  go_enter Tryd.func18, Tryd.ntmps18
  go_wp2_with fail
  refine HRT.out.mono ?_
  rintro _ w1 ⟨rfl, hb1⟩
  have hw1 := hb1.size
  obtain ⟨b, hb⟩ : ∃ b, w1.heap.size = b := ⟨_, rfl⟩
  have hba := hb1.alloc hw1 (.cells #[.pointer none, .slice none 0 0] 60)
  have hbf := Bld.fresh w1
  rw [hb] at hbf hw1
  have HST : Hid (PrintAt l b w R n (.string ⟨#[]⟩) (.int .i64 0) (w1.alloc (.cells #[.pointer none, .slice none 0 0] 60))) :=
    ⟨0, [], [], rfl, rfl, by rw [HN.out]; omega, hbf, hba, by simp; omega, Nat.zero_le _, HRU.out, by rw [← HRR.out]; rfl⟩
  have HBB := Lib.hid hb
  clear hb1 hba hbf HRT HRU HRR hb
  go_wp2
  rw [HBB.out]
  go_loopg [4, 12] n (fun n v4 v12 wr => PrintAt l b w R n v4 v12 wr)
  case atStart => exact HST.out
  case round =>
    obtain ⟨i, st, out, rfl, rfl, hin, hbl, hbe, hblt, hst, hrun, hfin⟩ := hrel
    rw [HN.out] at hin
    clear HST
    by_cases hi : i < n
    · have hi' : i < l.length := by rw [HN.out]; exact hi
      have hdr := List.drop_eq_getElem_cons hi'
      rw [run_step i _ l hi'] at hrun
      obtain ⟨st', hst'⟩ : ∃ st', stepU i st l[i] = some st' := by
        cases h : stepU i st l[i] with
        | none => rw [h] at hrun; cases hrun
        | some st' => exact ⟨st', rfl⟩
      rw [hst'] at hrun
      rw [hdr, prM_cons] at hfin
      obtain ⟨d, K, key, text, N, hx, hkz, htz, hN1, hN2⟩ : ∃ (d K : Int) (key text : ByteArray) (N : Int), l[i] = ⟨d, K, key.data.toList, text.data.toList, N⟩ ∧ key.size ≤ 1000000 ∧ text.size ≤ 1000000 ∧ -9223372036854775808 ≤ N ∧ N ≤ 9223372036854775807 := by
        have h1 := (HSM.out.2 l[i] (List.getElem_mem hi'))
        refine ⟨l[i].depth, l[i].kind, bytesOf l[i].key, bytesOf l[i].text, l[i].n, by rw [list_bytesOf, list_bytesOf], ?_, ?_, h1.2.2⟩
        · rw [← list_len, list_bytesOf]; exact h1.1
        · rw [← list_len, list_bytesOf]; exact h1.2.1
      have hsb := step_bs hst'
      have hlen' : st'.length ≤ 64 := by
        have e := congrArg List.length hsb
        obtain ⟨s0, s1, s2, _, _⟩ := stepU_yes hst'
        have s3 := (whole_yes _ s2).2.2.2.2.2
        rw [List.length_map, List.length_append, List.length_take, List.length_map] at e
        split at e
        · rename_i h6
          have : l[i].depth < 64 := by omega
          simp at e
          omega
        · simp at e
          omega
      obtain ⟨y0, y1, y2, y3, _⟩ := stepU_yes hst'
      rw [hx] at y0 y1 y2 y3 hfin hsb
      have hpn := prev_next l i hi'
      rw [hx] at hpn
      obtain ⟨dn, hdn⟩ : ∃ dn : Nat, d = (dn : Int) := ⟨d.toNat, by have : 0 ≤ d := y0; omega⟩
      subst hdn
      have hfin : out ++ ((endsOf ((st.map (·.1)).drop dn)).reverse ++ ((if (dn : Int) ≤ prevOf l i then [44] else []) ++ ((if ((st.map (·.1)).take dn).getLast? = some true then quoteL key.data.toList ++ [58] else []) ++ (begL ⟨(dn : Int), K, key.data.toList, text.data.toList, N⟩ ++ prM (dn : Int) ((st.map (·.1)).take dn ++ if 6 ≤ K then [decide (K = 7)] else []) (l.drop (i + 1)))))) = R := hfin
      have hsb : st'.map (·.1) = (st.map (·.1)).take dn ++ if 6 ≤ K then [decide (K = 7)] else [] := hsb
      have hdl : dn ≤ st.length := by have : (dn : Int) ≤ (st.length : Int) := y1; omega
      have hK7 : K ≤ 7 := (whole_yes _ y2).2.1
      have hkv : ((st.map (·.1)).take dn).getLast? = some true → validU key.data.toList = true := by
        intro h
        refine keyed_valid (st := st.take dn) y3 ?_
        rw [List.map_take]
        exact h
      have hcw : ∀ j u, (itsV l)[j]? = some u → wr.cell? (ad.add j) = some u := fun j u hj => by
        have h4 := HC.out j u hj
        rw [hbe.cell (World.block_lt_of_cell? w _ h4)]
        exact h4
      have hcl := its_cells hcw i hi' key text (by rw [hx, bytesOf_list]) (by rw [hx, bytesOf_list])
      rw [hx] at hcl
      obtain ⟨q0, q1, q2, q3, q4⟩ := hcl
      have q0 : wr.cell? (ad.add (i * 5)) = some (.int .i64 (dn : Int)) := q0
      obtain ⟨bs, hbs⟩ : ∃ bs, st.map (·.1) = bs := ⟨_, rfl⟩
      have hbsl : bs.length = st.length := by rw [← hbs, List.length_map]
      rw [hbs] at hfin hsb hkv ⊢
      obtain ⟨out1, ho1⟩ : ∃ o, out ++ (endsOf (bs.drop dn)).reverse = o := ⟨_, rfl⟩
      rw [← List.append_assoc, ho1] at hfin
      have hoz : out.length ≤ 100000000000 := by
        have e := congrArg List.length hfin
        have e1 := congrArg List.length ho1
        rw [List.length_append] at e e1
        omega
      have hba := (Below.refl wr.heap.size wr).alloc (Nat.le_refl _) (.cells #[.int .i64 (dn : Int), .int .i64 K, .string key, .string text, .int .i64 N] 41)
      have HB0 := Lib.hid (hbl.keep hba)
      have HBX0 := Lib.hid (Box.new wr (.int .i64 (dn : Int)) (.int .i64 K) (.string key) (.string text) (.int .i64 N))
      have HFR0 : Hid (FrT b wr _) := FrT.of_below hba
      have HBE0 := Lib.hid (chain hbe hba)
      have HFIN := Lib.hid hfin
      have HSB := Lib.hid hsb
      have HKV := Lib.hid hkv
      have HRUN := Lib.hid hrun
      have HPN : Hid (prevOf l (i + 1) = (dn : Int)) := hpn
      have HWH := Lib.hid y2
      have HO1 : Hid (out ++ ((bytesOf (endsOf bs)).data.toList.drop dn).reverse = out1) := by
        show _ = _
        rw [list_bytesOf, ← endsOf_drop]
        exact ho1
      have HCW := Lib.hid hcw
      have hez : (bytesOf (endsOf bs)).size ≤ 1000 := by rw [bytesOf_size, endsOf_len]; omega
      have hed : dn ≤ (bytesOf (endsOf bs)).size := by rw [bytesOf_size, endsOf_len]; omega
      obtain ⟨EB, hEB⟩ : ∃ EB, bytesOf (endsOf bs) = EB := ⟨_, rfl⟩
      rw [hEB] at HO1 hez hed ⊢
      obtain ⟨E2, hE2⟩ : ∃ E2, EB.extract 0 dn = E2 := ⟨_, rfl⟩
      have hE2' : E2 = bytesOf (endsOf (bs.take dn)) := by rw [← hE2, ← hEB, bytesOf_extract, endsOf_take]
      have HE2 := Lib.hid hE2
      have HE2' := Lib.hid hE2'
      have hE2z : E2.size ≤ 1000 := by
        rw [hE2', bytesOf_size, endsOf_len, List.length_take]
        omega
      have hbw : wr.heap.size ≠ b := by omega
      obtain ⟨Q, hQ⟩ : ∃ Q, bytesOf (quoteL key.data.toList) = Q := ⟨_, rfl⟩
      obtain ⟨G, hG⟩ : ∃ G, bytesOf (begL ⟨(dn : Int), K, key.data.toList, text.data.toList, N⟩) = G := ⟨_, rfl⟩
      obtain ⟨L, hL⟩ : ∃ L, bytesOf (endL K) = L := ⟨_, rfl⟩
      have hLz : L.size ≤ 1 := by
        rw [← hL, bytesOf_size]
        unfold endL
        split
        · decide
        · split <;> decide
      have HQ := Lib.hid hQ
      have HG := Lib.hid hG
      have HL := Lib.hid hL
      have HEL : Hid (E2 ++ L = bytesOf (endsOf (st'.map (·.1)))) := by
        show _ = _
        rw [HE2'.out, ← HL.out, bytesOf_app, HSB.out, ends_next _ _ hK7]
      clear hfin hsb hkv hrun hpn y0 y1 y2 y3 hx hdr ho1 hcw hba hE2 hE2' hEB hQ hG hL hbs hbl
      go_wp2_with fail
      refine (closed_any b out EB dn _ HB0.out hed hez (by omega) E2 HE2.out.symm).mono ?_
      rintro _ w3 ⟨rfl, h3, hbe3, hfr3⟩
      rw [HO1.out] at h3
      have HB3 := Lib.hid h3
      have HFR3 := Lib.hid (HFR0.out.trans hfr3)
      have HBX3 := Lib.hid (hfr3.box HBX0.out hbw)
      have HBE3 := Lib.hid (HBE0.out.trans (hbe3.mono hw1))
      clear h3 hfr3 hbe3 HB0 HFR0 HBX0 HBE0 HO1
      obtain ⟨x0, x1, x2, x3, x4⟩ := HBX3.out.cells
      have hcw3 : ∀ j u, (itsV l)[j]? = some u → w3.cell? (ad.add j) = some u := fun j u hj => by
        have h4 := HC.out j u hj
        rw [HBE3.out.cell (World.block_lt_of_cell? w _ h4)]
        exact h4
      clear HCW HFR3 q0 q1 q2 q3 q4
      by_cases hi0 : i = 0
      · subst hi0
        clear hcw3
        have HFIN2 : Hid (out1 ++ ((if (bs.take dn).getLast? = some true then quoteL key.data.toList ++ [58] else []) ++ (begL ⟨(dn : Int), K, key.data.toList, text.data.toList, N⟩ ++ prM (dn : Int) (bs.take dn ++ if 6 ≤ K then [decide (K = 7)] else []) (l.drop (0 + 1)))) = R) := by
          show _ = _
          rw [← HFIN.out, if_neg (show ¬ (dn : Int) ≤ prevOf l 0 by show ¬ (dn : Int) ≤ -1; omega)]
          rfl
        clear HFIN
        go_wp2_with fail
        go_quiet (fail)
        obtain ⟨w4, hw4⟩ : ∃ w4, w3.drewN nq = w4 := ⟨_, rfl⟩
        rw [hw4]
        have hb4 : Below w3.heap.size w3 w4 := by rw [← hw4]; exact ⟨rfl, rfl, rfl, Nat.le_refl _, fun _ _ => rfl⟩
        have HB4 := Lib.hid (HB3.out.keep hb4)
        have HBX4 := Lib.hid (HBX3.out.keep hb4)
        have HBE4 := Lib.hid (chain HBE3.out hb4)
        have HT4 := Lib.hid (HT.out.keep HBE4.out)
        clear hw4 hb4 HB3 HBX3 HBE3 x0 x1 x2 x3 x4
        obtain ⟨out2, ho2⟩ : ∃ o, out1 = o := ⟨_, rfl⟩
        rw [ho2] at HB4 HFIN2
        clear ho2
        cases hsf : decide ((bs.take dn).getLast? = some true) with
        | true =>
          have hlast : (bs.take dn).getLast? = some true := by simpa using hsf
          have hkv := HKV.out hlast
          have HFIN3' : Hid ((out2 ++ Q.data.toList) ++ [58] ++ (begL ⟨(dn : Int), K, key.data.toList, text.data.toList, N⟩ ++ prM (dn : Int) (bs.take dn ++ if 6 ≤ K then [decide (K = 7)] else []) (l.drop (0 + 1))) = R) := by
            show _ = _
            rw [← HFIN2.out, if_pos hlast, ← HQ.out, list_bytesOf]
            simp
          have hqz : out2.length + Q.size + 1 ≤ 140737488355328 := by
            have e := congrArg List.length HFIN3'.out
            rw [List.length_append, List.length_append, List.length_append, list_len] at e
            omega
          clear HFIN2 hlast
          obtain ⟨z0, z1, z2, z3, z4⟩ := HBX4.out.cells
          go_wp2_with fail
          refine (suffix_at E2 ⟨#[125]⟩ true _ (by omega) (by rw [HE2'.out, list_bytesOf]; exact (endsOf_last _).trans hsf)).mono ?_
          rintro _ w5 ⟨rfl, rfl⟩
          go_wp2_with fail
          refine (jquoted_any key Q _ HT4.out hkz hkv HQ.out).mono ?_
          rintro _ w5 ⟨rfl, hb5⟩
          clear z0 z1 z2 z3 z4
          have HB5 := Lib.hid (HB4.out.keep hb5)
          have HBX5 := Lib.hid (HBX4.out.keep hb5)
          have HBE5 := Lib.hid (chain HBE4.out hb5)
          clear hb5
          go_wp2_with fail
          refine (wstr_fr b out2 Q _ HB5.out (by omega)).mono ?_
          rintro _ w6 ⟨rfl, h6, hbe6, hfr6⟩
          have HB6 := Lib.hid h6
          have HBX6 := Lib.hid (hfr6.box HBX5.out hbw)
          have HBE6 := Lib.hid (HBE5.out.trans (hbe6.mono hw1))
          clear h6 hbe6 hfr6 HB5 HBX5 HBE5
          go_wp2_with fail
          refine (wbyte_fr b (out2 ++ Q.data.toList) 58 _ _ rfl HB6.out (by rw [List.length_append, list_len]; omega)).mono ?_
          rintro _ w7 ⟨rfl, h7, hbe7, hfr7⟩
          have HB7' := Lib.hid h7
          have HBX7 := Lib.hid (hfr7.box HBX6.out hbw)
          have HBE7 := Lib.hid (HBE6.out.trans (hbe7.mono hw1))
          have HT7 := Lib.hid (HT.out.keep HBE7.out)
          clear h7 hbe7 hfr7 HB6 HBX6 HBE6 HB4 HBX4 HBE4 HT4
          obtain ⟨out3, ho3⟩ : ∃ o, out2 ++ Q.data.toList ++ [58] = o := ⟨_, rfl⟩
          rw [ho3] at HB7' HFIN3'
          have HB7 := HB7'
          have HFIN3 := HFIN3'
          clear ho3 HB7' HFIN3'
          have hlz : out3.length + G.size ≤ 140737488355328 := by
            have e := congrArg List.length HFIN3.out
            rw [List.length_append, List.length_append] at e
            have e2 : G.size = (begL ⟨(dn : Int), K, key.data.toList, text.data.toList, N⟩).length := by rw [← HG.out, bytesOf_size]
            omega
          obtain ⟨y0, y1, y2, y3, y4⟩ := HBX7.out.cells
          go_wp2_with fail
          refine (beginning_any (dn : Int) K N key text G _ HT7.out htz HWH.out hN1 hN2 HG.out).mono ?_
          rintro _ w8 ⟨rfl, hb8⟩
          have HB8 := Lib.hid (HB7.out.keep hb8)
          have HBX8 := Lib.hid (HBX7.out.keep hb8)
          have HBE8 := Lib.hid (chain HBE7.out hb8)
          clear hb8 y0 y1 y2 y3 y4
          go_wp2_with fail
          refine (wstr_fr b out3 G _ HB8.out hlz).mono ?_
          rintro _ w9 ⟨rfl, h9, hbe9, hfr9⟩
          have hb9lt := h9.lt
          have HB9 := Lib.hid h9
          have HBX9 := Lib.hid (hfr9.box HBX8.out hbw)
          have HBE9 := Lib.hid (HBE8.out.trans (hbe9.mono hw1))
          clear h9 hbe9 hfr9
          obtain ⟨y0, y1, y2, y3, y4⟩ := HBX9.out.cells
          go_wp2_with fail
          refine (end_all K L HL.out _).mono ?_
          rintro _ w10 ⟨rfl, rfl⟩
          have hsum : E2.size + L.size ≤ 9223372036854775807 := by omega
          have HF9 : Hid ((out3 ++ G.data.toList) ++ prM (prevOf l (0 + 1)) (st'.map (·.1)) (l.drop (0 + 1)) = R) := by
            show _ = _
            rw [HPN.out, HSB.out, ← HG.out, list_bytesOf, List.append_assoc]
            exact HFIN3.out
          go_wp2
          go_roundg (gk - 1)
          case measure => omega
          case rel => exact ⟨0 + 1, st', out3 ++ G.data.toList, by go_num, by rw [HEL.out], by rw [HN.out]; omega, HB9.out, HBE9.out, hb9lt, hlen', HRUN.out, HF9.out⟩
        | false =>
          have hlast : ¬ (bs.take dn).getLast? = some true := by simpa using hsf
          have HFIN3 : Hid (out2 ++ (begL ⟨(dn : Int), K, key.data.toList, text.data.toList, N⟩ ++ prM (dn : Int) (bs.take dn ++ if 6 ≤ K then [decide (K = 7)] else []) (l.drop (0 + 1))) = R) := by
            show _ = _
            rw [← HFIN2.out, if_neg hlast]
            rfl
          clear HFIN2 hlast
          have HB7 := HB4
          have HBX7 := HBX4
          have HBE7 := HBE4
          have HT7 := HT4
          obtain ⟨out3, ho3⟩ : ∃ o, out2 = o := ⟨_, rfl⟩
          subst ho3
          clear HB4 HBX4 HBE4 HT4
          go_wp2_with fail
          refine (suffix_at E2 ⟨#[125]⟩ false _ (by omega) (by rw [HE2'.out, list_bytesOf]; exact (endsOf_last _).trans hsf)).mono ?_
          rintro _ w5 ⟨rfl, rfl⟩
          have hlz : out2.length + G.size ≤ 140737488355328 := by
            have e := congrArg List.length HFIN3.out
            rw [List.length_append, List.length_append] at e
            have e2 : G.size = (begL ⟨(dn : Int), K, key.data.toList, text.data.toList, N⟩).length := by rw [← HG.out, bytesOf_size]
            omega
          obtain ⟨y0, y1, y2, y3, y4⟩ := HBX7.out.cells
          go_wp2_with fail
          refine (beginning_any (dn : Int) K N key text G _ HT7.out htz HWH.out hN1 hN2 HG.out).mono ?_
          rintro _ w8 ⟨rfl, hb8⟩
          have HB8 := Lib.hid (HB7.out.keep hb8)
          have HBX8 := Lib.hid (HBX7.out.keep hb8)
          have HBE8 := Lib.hid (chain HBE7.out hb8)
          clear hb8 y0 y1 y2 y3 y4
          go_wp2_with fail
          refine (wstr_fr b out2 G _ HB8.out hlz).mono ?_
          rintro _ w9 ⟨rfl, h9, hbe9, hfr9⟩
          have hb9lt := h9.lt
          have HB9 := Lib.hid h9
          have HBX9 := Lib.hid (hfr9.box HBX8.out hbw)
          have HBE9 := Lib.hid (HBE8.out.trans (hbe9.mono hw1))
          clear h9 hbe9 hfr9
          obtain ⟨y0, y1, y2, y3, y4⟩ := HBX9.out.cells
          go_wp2_with fail
          refine (end_all K L HL.out _).mono ?_
          rintro _ w10 ⟨rfl, rfl⟩
          have hsum : E2.size + L.size ≤ 9223372036854775807 := by omega
          have HF9 : Hid ((out2 ++ G.data.toList) ++ prM (prevOf l (0 + 1)) (st'.map (·.1)) (l.drop (0 + 1)) = R) := by
            show _ = _
            rw [HPN.out, HSB.out, ← HG.out, list_bytesOf, List.append_assoc]
            exact HFIN3.out
          go_wp2
          go_roundg (gk - 1)
          case measure => omega
          case rel => exact ⟨0 + 1, st', out2 ++ G.data.toList, by go_num, by rw [HEL.out], by rw [HN.out]; omega, HB9.out, HBE9.out, hb9lt, hlen', HRUN.out, HF9.out⟩
      · obtain ⟨j, rfl⟩ : ∃ j, i = j + 1 := ⟨i - 1, by omega⟩
        have hjl : j < l.length := by omega
        have hpd := prev_next l j hjl
        have hcj := (its_cells hcw3 j hjl _ _ rfl rfl).1
        obtain ⟨pd, hpdd⟩ : ∃ pd, l[j].depth = pd := ⟨_, rfl⟩
        rw [hpdd] at hcj hpd
        clear hcw3 hpdd hi0
        by_cases hcm' : (dn : Int) ≤ pd
        · have hcm : (dn : Int) ≤ prevOf l (j + 1) := by rw [hpd]; exact hcm'
          clear hpd
          have HFIN2' : Hid ((out1 ++ [44]) ++ ((if (bs.take dn).getLast? = some true then quoteL key.data.toList ++ [58] else []) ++ (begL ⟨(dn : Int), K, key.data.toList, text.data.toList, N⟩ ++ prM (dn : Int) (bs.take dn ++ if 6 ≤ K then [decide (K = 7)] else []) (l.drop (j + 1 + 1)))) = R) := by
            show _ = _
            rw [← HFIN.out, if_pos hcm, List.append_assoc]
          have ho1z : out1.length + 1 ≤ 140737488355328 := by
            have e := congrArg List.length HFIN2'.out
            rw [List.length_append, List.length_append] at e
            simp at e
            omega
          clear HFIN
          go_wp2_with fail
          go_quiet (fail)
          obtain ⟨w4, hw4⟩ : ∃ w4, w3.drewN nq = w4 := ⟨_, rfl⟩
          rw [hw4]
          have hb4 : Below w3.heap.size w3 w4 := by rw [← hw4]; exact ⟨rfl, rfl, rfl, Nat.le_refl _, fun _ _ => rfl⟩
          have HB4' := Lib.hid (HB3.out.keep hb4)
          have HBX4' := Lib.hid (HBX3.out.keep hb4)
          have HBE4' := Lib.hid (chain HBE3.out hb4)
          clear hw4 hb4 HB3 HBX3 HBE3 x0 x1 x2 x3 x4
          go_wp2_with fail
          refine (wbyte_fr b out1 44 _ _ rfl HB4'.out ho1z).mono ?_
          rintro _ w44 ⟨rfl, h44, hbe44, hfr44⟩
          have HB4 := Lib.hid h44
          have HBX4 := Lib.hid (hfr44.box HBX4'.out hbw)
          have HBE4 := Lib.hid (HBE4'.out.trans (hbe44.mono hw1))
          have HT4 := Lib.hid (HT.out.keep HBE4.out)
          clear h44 hbe44 hfr44 HB4' HBX4' HBE4'
          obtain ⟨out2, ho2⟩ : ∃ o, out1 ++ [44] = o := ⟨_, rfl⟩
          rw [ho2] at HB4 HFIN2'
          have HFIN2 := HFIN2'
          clear ho2 HFIN2'
          cases hsf : decide ((bs.take dn).getLast? = some true) with
          | true =>
            have hlast : (bs.take dn).getLast? = some true := by simpa using hsf
            have hkv := HKV.out hlast
            have HFIN3' : Hid ((out2 ++ Q.data.toList) ++ [58] ++ (begL ⟨(dn : Int), K, key.data.toList, text.data.toList, N⟩ ++ prM (dn : Int) (bs.take dn ++ if 6 ≤ K then [decide (K = 7)] else []) (l.drop (j + 1 + 1))) = R) := by
              show _ = _
              rw [← HFIN2.out, if_pos hlast, ← HQ.out, list_bytesOf]
              simp
            have hqz : out2.length + Q.size + 1 ≤ 140737488355328 := by
              have e := congrArg List.length HFIN3'.out
              rw [List.length_append, List.length_append, List.length_append, list_len] at e
              omega
            clear HFIN2 hlast
            obtain ⟨z0, z1, z2, z3, z4⟩ := HBX4.out.cells
            go_wp2_with fail
            refine (suffix_at E2 ⟨#[125]⟩ true _ (by omega) (by rw [HE2'.out, list_bytesOf]; exact (endsOf_last _).trans hsf)).mono ?_
            rintro _ w5 ⟨rfl, rfl⟩
            go_wp2_with fail
            refine (jquoted_any key Q _ HT4.out hkz hkv HQ.out).mono ?_
            rintro _ w5 ⟨rfl, hb5⟩
            clear z0 z1 z2 z3 z4
            have HB5 := Lib.hid (HB4.out.keep hb5)
            have HBX5 := Lib.hid (HBX4.out.keep hb5)
            have HBE5 := Lib.hid (chain HBE4.out hb5)
            clear hb5
            go_wp2_with fail
            refine (wstr_fr b out2 Q _ HB5.out (by omega)).mono ?_
            rintro _ w6 ⟨rfl, h6, hbe6, hfr6⟩
            have HB6 := Lib.hid h6
            have HBX6 := Lib.hid (hfr6.box HBX5.out hbw)
            have HBE6 := Lib.hid (HBE5.out.trans (hbe6.mono hw1))
            clear h6 hbe6 hfr6 HB5 HBX5 HBE5
            go_wp2_with fail
            refine (wbyte_fr b (out2 ++ Q.data.toList) 58 _ _ rfl HB6.out (by rw [List.length_append, list_len]; omega)).mono ?_
            rintro _ w7 ⟨rfl, h7, hbe7, hfr7⟩
            have HB7' := Lib.hid h7
            have HBX7 := Lib.hid (hfr7.box HBX6.out hbw)
            have HBE7 := Lib.hid (HBE6.out.trans (hbe7.mono hw1))
            have HT7 := Lib.hid (HT.out.keep HBE7.out)
            clear h7 hbe7 hfr7 HB6 HBX6 HBE6 HB4 HBX4 HBE4 HT4
            obtain ⟨out3, ho3⟩ : ∃ o, out2 ++ Q.data.toList ++ [58] = o := ⟨_, rfl⟩
            rw [ho3] at HB7' HFIN3'
            have HB7 := HB7'
            have HFIN3 := HFIN3'
            clear ho3 HB7' HFIN3'
            have hlz : out3.length + G.size ≤ 140737488355328 := by
              have e := congrArg List.length HFIN3.out
              rw [List.length_append, List.length_append] at e
              have e2 : G.size = (begL ⟨(dn : Int), K, key.data.toList, text.data.toList, N⟩).length := by rw [← HG.out, bytesOf_size]
              omega
            obtain ⟨y0, y1, y2, y3, y4⟩ := HBX7.out.cells
            go_wp2_with fail
            refine (beginning_any (dn : Int) K N key text G _ HT7.out htz HWH.out hN1 hN2 HG.out).mono ?_
            rintro _ w8 ⟨rfl, hb8⟩
            have HB8 := Lib.hid (HB7.out.keep hb8)
            have HBX8 := Lib.hid (HBX7.out.keep hb8)
            have HBE8 := Lib.hid (chain HBE7.out hb8)
            clear hb8 y0 y1 y2 y3 y4
            go_wp2_with fail
            refine (wstr_fr b out3 G _ HB8.out hlz).mono ?_
            rintro _ w9 ⟨rfl, h9, hbe9, hfr9⟩
            have hb9lt := h9.lt
            have HB9 := Lib.hid h9
            have HBX9 := Lib.hid (hfr9.box HBX8.out hbw)
            have HBE9 := Lib.hid (HBE8.out.trans (hbe9.mono hw1))
            clear h9 hbe9 hfr9
            obtain ⟨y0, y1, y2, y3, y4⟩ := HBX9.out.cells
            go_wp2_with fail
            refine (end_all K L HL.out _).mono ?_
            rintro _ w10 ⟨rfl, rfl⟩
            have hsum : E2.size + L.size ≤ 9223372036854775807 := by omega
            have HF9 : Hid ((out3 ++ G.data.toList) ++ prM (prevOf l (j + 1 + 1)) (st'.map (·.1)) (l.drop (j + 1 + 1)) = R) := by
              show _ = _
              rw [HPN.out, HSB.out, ← HG.out, list_bytesOf, List.append_assoc]
              exact HFIN3.out
            go_wp2
            go_roundg (gk - 1)
            case measure => omega
            case rel => exact ⟨(j + 1) + 1, st', out3 ++ G.data.toList, by go_num, by rw [HEL.out], by rw [HN.out]; omega, HB9.out, HBE9.out, hb9lt, hlen', HRUN.out, HF9.out⟩
          | false =>
            have hlast : ¬ (bs.take dn).getLast? = some true := by simpa using hsf
            have HFIN3 : Hid (out2 ++ (begL ⟨(dn : Int), K, key.data.toList, text.data.toList, N⟩ ++ prM (dn : Int) (bs.take dn ++ if 6 ≤ K then [decide (K = 7)] else []) (l.drop (j + 1 + 1))) = R) := by
              show _ = _
              rw [← HFIN2.out, if_neg hlast]
              rfl
            clear HFIN2 hlast
            have HB7 := HB4
            have HBX7 := HBX4
            have HBE7 := HBE4
            have HT7 := HT4
            obtain ⟨out3, ho3⟩ : ∃ o, out2 = o := ⟨_, rfl⟩
            subst ho3
            clear HB4 HBX4 HBE4 HT4
            go_wp2_with fail
            refine (suffix_at E2 ⟨#[125]⟩ false _ (by omega) (by rw [HE2'.out, list_bytesOf]; exact (endsOf_last _).trans hsf)).mono ?_
            rintro _ w5 ⟨rfl, rfl⟩
            have hlz : out2.length + G.size ≤ 140737488355328 := by
              have e := congrArg List.length HFIN3.out
              rw [List.length_append, List.length_append] at e
              have e2 : G.size = (begL ⟨(dn : Int), K, key.data.toList, text.data.toList, N⟩).length := by rw [← HG.out, bytesOf_size]
              omega
            obtain ⟨y0, y1, y2, y3, y4⟩ := HBX7.out.cells
            go_wp2_with fail
            refine (beginning_any (dn : Int) K N key text G _ HT7.out htz HWH.out hN1 hN2 HG.out).mono ?_
            rintro _ w8 ⟨rfl, hb8⟩
            have HB8 := Lib.hid (HB7.out.keep hb8)
            have HBX8 := Lib.hid (HBX7.out.keep hb8)
            have HBE8 := Lib.hid (chain HBE7.out hb8)
            clear hb8 y0 y1 y2 y3 y4
            go_wp2_with fail
            refine (wstr_fr b out2 G _ HB8.out hlz).mono ?_
            rintro _ w9 ⟨rfl, h9, hbe9, hfr9⟩
            have hb9lt := h9.lt
            have HB9 := Lib.hid h9
            have HBX9 := Lib.hid (hfr9.box HBX8.out hbw)
            have HBE9 := Lib.hid (HBE8.out.trans (hbe9.mono hw1))
            clear h9 hbe9 hfr9
            obtain ⟨y0, y1, y2, y3, y4⟩ := HBX9.out.cells
            go_wp2_with fail
            refine (end_all K L HL.out _).mono ?_
            rintro _ w10 ⟨rfl, rfl⟩
            have hsum : E2.size + L.size ≤ 9223372036854775807 := by omega
            have HF9 : Hid ((out2 ++ G.data.toList) ++ prM (prevOf l (j + 1 + 1)) (st'.map (·.1)) (l.drop (j + 1 + 1)) = R) := by
              show _ = _
              rw [HPN.out, HSB.out, ← HG.out, list_bytesOf, List.append_assoc]
              exact HFIN3.out
            go_wp2
            go_roundg (gk - 1)
            case measure => omega
            case rel => exact ⟨(j + 1) + 1, st', out2 ++ G.data.toList, by go_num, by rw [HEL.out], by rw [HN.out]; omega, HB9.out, HBE9.out, hb9lt, hlen', HRUN.out, HF9.out⟩
        · have hcm : ¬ (dn : Int) ≤ prevOf l (j + 1) := by rw [hpd]; exact hcm'
          clear hpd
          have HFIN2 : Hid (out1 ++ ((if (bs.take dn).getLast? = some true then quoteL key.data.toList ++ [58] else []) ++ (begL ⟨(dn : Int), K, key.data.toList, text.data.toList, N⟩ ++ prM (dn : Int) (bs.take dn ++ if 6 ≤ K then [decide (K = 7)] else []) (l.drop (j + 1 + 1)))) = R) := by
            show _ = _
            rw [← HFIN.out, if_neg hcm]
            rfl
          clear HFIN
          go_wp2_with fail
          go_quiet (fail)
          obtain ⟨w4, hw4⟩ : ∃ w4, w3.drewN nq = w4 := ⟨_, rfl⟩
          rw [hw4]
          have hb4 : Below w3.heap.size w3 w4 := by rw [← hw4]; exact ⟨rfl, rfl, rfl, Nat.le_refl _, fun _ _ => rfl⟩
          have HB4 := Lib.hid (HB3.out.keep hb4)
          have HBX4 := Lib.hid (HBX3.out.keep hb4)
          have HBE4 := Lib.hid (chain HBE3.out hb4)
          have HT4 := Lib.hid (HT.out.keep HBE4.out)
          clear hw4 hb4 HB3 HBX3 HBE3 x0 x1 x2 x3 x4
          obtain ⟨out2, ho2⟩ : ∃ o, out1 = o := ⟨_, rfl⟩
          rw [ho2] at HB4 HFIN2
          clear ho2
          cases hsf : decide ((bs.take dn).getLast? = some true) with
          | true =>
            have hlast : (bs.take dn).getLast? = some true := by simpa using hsf
            have hkv := HKV.out hlast
            have HFIN3' : Hid ((out2 ++ Q.data.toList) ++ [58] ++ (begL ⟨(dn : Int), K, key.data.toList, text.data.toList, N⟩ ++ prM (dn : Int) (bs.take dn ++ if 6 ≤ K then [decide (K = 7)] else []) (l.drop (j + 1 + 1))) = R) := by
              show _ = _
              rw [← HFIN2.out, if_pos hlast, ← HQ.out, list_bytesOf]
              simp
            have hqz : out2.length + Q.size + 1 ≤ 140737488355328 := by
              have e := congrArg List.length HFIN3'.out
              rw [List.length_append, List.length_append, List.length_append, list_len] at e
              omega
            clear HFIN2 hlast
            obtain ⟨z0, z1, z2, z3, z4⟩ := HBX4.out.cells
            go_wp2_with fail
            refine (suffix_at E2 ⟨#[125]⟩ true _ (by omega) (by rw [HE2'.out, list_bytesOf]; exact (endsOf_last _).trans hsf)).mono ?_
            rintro _ w5 ⟨rfl, rfl⟩
            go_wp2_with fail
            refine (jquoted_any key Q _ HT4.out hkz hkv HQ.out).mono ?_
            rintro _ w5 ⟨rfl, hb5⟩
            clear z0 z1 z2 z3 z4
            have HB5 := Lib.hid (HB4.out.keep hb5)
            have HBX5 := Lib.hid (HBX4.out.keep hb5)
            have HBE5 := Lib.hid (chain HBE4.out hb5)
            clear hb5
            go_wp2_with fail
            refine (wstr_fr b out2 Q _ HB5.out (by omega)).mono ?_
            rintro _ w6 ⟨rfl, h6, hbe6, hfr6⟩
            have HB6 := Lib.hid h6
            have HBX6 := Lib.hid (hfr6.box HBX5.out hbw)
            have HBE6 := Lib.hid (HBE5.out.trans (hbe6.mono hw1))
            clear h6 hbe6 hfr6 HB5 HBX5 HBE5
            go_wp2_with fail
            refine (wbyte_fr b (out2 ++ Q.data.toList) 58 _ _ rfl HB6.out (by rw [List.length_append, list_len]; omega)).mono ?_
            rintro _ w7 ⟨rfl, h7, hbe7, hfr7⟩
            have HB7' := Lib.hid h7
            have HBX7 := Lib.hid (hfr7.box HBX6.out hbw)
            have HBE7 := Lib.hid (HBE6.out.trans (hbe7.mono hw1))
            have HT7 := Lib.hid (HT.out.keep HBE7.out)
            clear h7 hbe7 hfr7 HB6 HBX6 HBE6 HB4 HBX4 HBE4 HT4
            obtain ⟨out3, ho3⟩ : ∃ o, out2 ++ Q.data.toList ++ [58] = o := ⟨_, rfl⟩
            rw [ho3] at HB7' HFIN3'
            have HB7 := HB7'
            have HFIN3 := HFIN3'
            clear ho3 HB7' HFIN3'
            have hlz : out3.length + G.size ≤ 140737488355328 := by
              have e := congrArg List.length HFIN3.out
              rw [List.length_append, List.length_append] at e
              have e2 : G.size = (begL ⟨(dn : Int), K, key.data.toList, text.data.toList, N⟩).length := by rw [← HG.out, bytesOf_size]
              omega
            obtain ⟨y0, y1, y2, y3, y4⟩ := HBX7.out.cells
            go_wp2_with fail
            refine (beginning_any (dn : Int) K N key text G _ HT7.out htz HWH.out hN1 hN2 HG.out).mono ?_
            rintro _ w8 ⟨rfl, hb8⟩
            have HB8 := Lib.hid (HB7.out.keep hb8)
            have HBX8 := Lib.hid (HBX7.out.keep hb8)
            have HBE8 := Lib.hid (chain HBE7.out hb8)
            clear hb8 y0 y1 y2 y3 y4
            go_wp2_with fail
            refine (wstr_fr b out3 G _ HB8.out hlz).mono ?_
            rintro _ w9 ⟨rfl, h9, hbe9, hfr9⟩
            have hb9lt := h9.lt
            have HB9 := Lib.hid h9
            have HBX9 := Lib.hid (hfr9.box HBX8.out hbw)
            have HBE9 := Lib.hid (HBE8.out.trans (hbe9.mono hw1))
            clear h9 hbe9 hfr9
            obtain ⟨y0, y1, y2, y3, y4⟩ := HBX9.out.cells
            go_wp2_with fail
            refine (end_all K L HL.out _).mono ?_
            rintro _ w10 ⟨rfl, rfl⟩
            have hsum : E2.size + L.size ≤ 9223372036854775807 := by omega
            have HF9 : Hid ((out3 ++ G.data.toList) ++ prM (prevOf l (j + 1 + 1)) (st'.map (·.1)) (l.drop (j + 1 + 1)) = R) := by
              show _ = _
              rw [HPN.out, HSB.out, ← HG.out, list_bytesOf, List.append_assoc]
              exact HFIN3.out
            go_wp2
            go_roundg (gk - 1)
            case measure => omega
            case rel => exact ⟨(j + 1) + 1, st', out3 ++ G.data.toList, by go_num, by rw [HEL.out], by rw [HN.out]; omega, HB9.out, HBE9.out, hb9lt, hlen', HRUN.out, HF9.out⟩
          | false =>
            have hlast : ¬ (bs.take dn).getLast? = some true := by simpa using hsf
            have HFIN3 : Hid (out2 ++ (begL ⟨(dn : Int), K, key.data.toList, text.data.toList, N⟩ ++ prM (dn : Int) (bs.take dn ++ if 6 ≤ K then [decide (K = 7)] else []) (l.drop (j + 1 + 1))) = R) := by
              show _ = _
              rw [← HFIN2.out, if_neg hlast]
              rfl
            clear HFIN2 hlast
            have HB7 := HB4
            have HBX7 := HBX4
            have HBE7 := HBE4
            have HT7 := HT4
            obtain ⟨out3, ho3⟩ : ∃ o, out2 = o := ⟨_, rfl⟩
            subst ho3
            clear HB4 HBX4 HBE4 HT4
            go_wp2_with fail
            refine (suffix_at E2 ⟨#[125]⟩ false _ (by omega) (by rw [HE2'.out, list_bytesOf]; exact (endsOf_last _).trans hsf)).mono ?_
            rintro _ w5 ⟨rfl, rfl⟩
            have hlz : out2.length + G.size ≤ 140737488355328 := by
              have e := congrArg List.length HFIN3.out
              rw [List.length_append, List.length_append] at e
              have e2 : G.size = (begL ⟨(dn : Int), K, key.data.toList, text.data.toList, N⟩).length := by rw [← HG.out, bytesOf_size]
              omega
            obtain ⟨y0, y1, y2, y3, y4⟩ := HBX7.out.cells
            go_wp2_with fail
            refine (beginning_any (dn : Int) K N key text G _ HT7.out htz HWH.out hN1 hN2 HG.out).mono ?_
            rintro _ w8 ⟨rfl, hb8⟩
            have HB8 := Lib.hid (HB7.out.keep hb8)
            have HBX8 := Lib.hid (HBX7.out.keep hb8)
            have HBE8 := Lib.hid (chain HBE7.out hb8)
            clear hb8 y0 y1 y2 y3 y4
            go_wp2_with fail
            refine (wstr_fr b out2 G _ HB8.out hlz).mono ?_
            rintro _ w9 ⟨rfl, h9, hbe9, hfr9⟩
            have hb9lt := h9.lt
            have HB9 := Lib.hid h9
            have HBX9 := Lib.hid (hfr9.box HBX8.out hbw)
            have HBE9 := Lib.hid (HBE8.out.trans (hbe9.mono hw1))
            clear h9 hbe9 hfr9
            obtain ⟨y0, y1, y2, y3, y4⟩ := HBX9.out.cells
            go_wp2_with fail
            refine (end_all K L HL.out _).mono ?_
            rintro _ w10 ⟨rfl, rfl⟩
            have hsum : E2.size + L.size ≤ 9223372036854775807 := by omega
            have HF9 : Hid ((out2 ++ G.data.toList) ++ prM (prevOf l (j + 1 + 1)) (st'.map (·.1)) (l.drop (j + 1 + 1)) = R) := by
              show _ = _
              rw [HPN.out, HSB.out, ← HG.out, list_bytesOf, List.append_assoc]
              exact HFIN3.out
            go_wp2
            go_roundg (gk - 1)
            case measure => omega
            case rel => exact ⟨(j + 1) + 1, st', out2 ++ G.data.toList, by go_num, by rw [HEL.out], by rw [HN.out]; omega, HB9.out, HBE9.out, hb9lt, hlen', HRUN.out, HF9.out⟩
    · have hie : i = n := by omega
      subst hie
      have hfin2 : out ++ (endsOf (st.map (·.1))).reverse = R := by
        rw [← hfin, List.drop_eq_nil_of_le (by rw [HN.out]; exact Nat.le_refl _)]
        rfl
      obtain ⟨EB, hEB⟩ : ∃ EB, bytesOf (endsOf (st.map (·.1))) = EB := ⟨_, rfl⟩
      rw [hEB]
      have hez : EB.size ≤ 1000 := by rw [← hEB, bytesOf_size, endsOf_len, List.length_map]; omega
      have hoz : out.length ≤ 100000000000 := by
        have e := congrArg List.length hfin2
        rw [List.length_append] at e
        omega
      have HF2 : Hid (out ++ (EB.data.toList.drop 0).reverse = R) := by
        show _ = _
        rw [← hEB, list_bytesOf, List.drop_zero]
        exact hfin2
      have HB0 := Lib.hid hbl
      have HBE0 := Lib.hid hbe
      clear hfin hfin2 hrun hEB hbl hbe hin
      go_wp2_with fail
      refine (closed_any b out EB 0 _ HB0.out (Nat.zero_le _) hez (by omega) _ rfl).mono ?_
      rintro _ w3 ⟨rfl, h3, hbe3, hfr3⟩
      rw [HF2.out] at h3
      have HB3 := Lib.hid h3
      have HBE3 := Lib.hid (HBE0.out.trans (hbe3.mono hw1))
      clear h3 hbe3 hfr3
      go_wp2_with fail
      refine (bstring_any b R _ HB3.out).mono ?_
      rintro _ w4 ⟨rfl, hb4⟩
      have HBE4 := Lib.hid (HBE3.out.trans (hb4.mono hw1))
      clear hb4
      go_wp2
      go_ret
      exact ⟨rfl, HBE4.out⟩

end Go.Proofs.YtmnigdcgdebgoaaDoor
namespace Go.Proofs.YtmnigdcgdebgoaaDoor
open Go.RowKit
set_option linter.unusedVariables false

theorem jprint_any (v : Value) (l : List It) (w : World) (hT : Tabs w) (h : ItsAt w v l) (hsm : Small l) (P : ByteArray) (hP : bytesOf (printU l) = P) (hRz : (printU l).length ≤ 100000000000) :
    Calls Tryd.prog 18 #[v] w fun e w' => e = .returned (.string P) ∧ Below w.heap.size w w' := by
  cases hr : rightU l with
  | true =>
    have hpu : printU l = prM (-1) [] l := by unfold printU; rw [hr, if_pos rfl]
    have h0 : l ≠ [] := fun e => by rw [e] at hr; cases hr
    rcases h with ⟨_, h⟩ | ⟨ad, cap, rfl, h1, h2⟩
    · exact absurd h h0
    · rw [hpu] at hP hRz
      rw [← hP]
      exact print_some l ad cap w hT h2 h1 hsm h0 hr _ rfl hRz
  | false =>
    have hpu : printU l = [] := by unfold printU; rw [hr]; rfl
    have hrt := jright_any v l w hT h hsm
    rw [hr] at hrt
    have HRT := Lib.hid hrt
    have HP : Hid (P = ⟨#[]⟩) := by
      show _ = _
      rw [← hP, hpu]
      rfl
    clear hrt hP hpu hr h hsm hT hRz
    go_enter Tryd.func18, Tryd.ntmps18
    go_wp2_with fail
    refine HRT.out.mono ?_
    rintro _ w1 ⟨rfl, hb1⟩
    go_wp2
    go_ret
    rw [HP.out]
    exact ⟨rfl, hb1⟩
end Go.Proofs.YtmnigdcgdebgoaaDoor
