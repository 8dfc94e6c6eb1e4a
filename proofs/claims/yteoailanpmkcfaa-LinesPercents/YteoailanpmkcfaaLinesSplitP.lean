/-
  The program's own Split (package lines): a contract.
-/
import Derived.Test.YteoailanpmkcfaaLinesTabsP
import Derived.Test.YteoailanpmkcfaaBaseFinds
namespace Go.Proofs.Yteoailanpmkcfaa
open Go.RowKit Go.Shelf
attribute [local go_sem] Oper.semAt_some
set_option linter.unusedVariables false

def numb102 : Go.Shelf.Ren := ⟨fun | 102 => 30 | 209 => 48 | 207 => 50 | n => n, fun | 9 => 9 | 4 => 4 | 3 => 3 | n => n, fun | n => n⟩
theorem lays102 : Go.Proofs.Lays.n102 Try.prog numb102 := {
  mixed := by kernel_rfl
  f102 := Try.func30.trans (congrArg some (by kernel_rfl))
  f207 := Try.func50.trans (congrArg some (by kernel_rfl))
  f209 := Try.func48.trans (congrArg some (by kernel_rfl))
  t3 := Try.underlying3
  a3 := Try.isAgg3
  z3 := Try.sizeOf3
  v3 := Try.zeroValue3
  t4 := Try.underlying4
  a4 := Try.isAgg4
  z4 := Try.sizeOf4
  v4 := Try.zeroValue4
  t9 := Try.underlying9
  a9 := Try.isAgg9
  z9 := Try.sizeOf9
  v9 := Try.zeroValue9 }

theorem trim_chop (l : List UInt8) : Lib.trimSuffix l [13] = chop l := by
  unfold Lib.trimSuffix chop
  rw [suffix_last]
  by_cases h : l.getLast? = some 13
  · rw [if_pos (by rw [h]; rfl), if_pos h, List.dropLast_eq_take]
    rfl
  · rw [if_neg (by simpa using h), if_neg h]

theorem trim_any (s t : ByteArray) (w : World) (hs : s.size ≤ 9223372036854775807) (ht : ofL (chop s.data.toList) = t) :
    Calls Try.prog 30 #[.string s, .string ⟨#[13]⟩] w fun e w' => e = .returned (.string t) ∧ w = w' := by
  subst ht
  have k : Calls Try.prog 30 #[.string s, .string ⟨#[13]⟩] w _ := Any.strings_TrimSuffix lays102 s ⟨#[13]⟩ w hs
  refine k.mono fun e w' ⟨h1, h2⟩ => ⟨?_, h2.symm⟩
  rw [h1]
  refine ret_str ?_
  show (⟨(Lib.trimSuffix s.data.toList [13]).toArray⟩ : ByteArray) = _
  rw [trim_chop]
  rfl

/-- The line of a piece, if it is one. -/
def lineOf (x : Piece) : List ByteArray := if x.1.2 = true then [ofL (chop x.1.1.data.toList)] else if x.1.1.size = 0 then [] else [x.1.1]
def linesOf (pre : List Piece) : List ByteArray := pre.flatMap lineOf

def lineL (x : List UInt8 × Bool) : List (List UInt8) := if x.2 = true then [chop x.1] else if x.1 = [] then [] else [x.1]

theorem splitL_pieces : ∀ (l cur : List UInt8), splitL cur l = (piecesL 10 cur l).flatMap lineL
  | [], cur => by
    show (if cur = [] then [] else [cur]) = lineL (cur, false) ++ []
    rw [List.append_nil]
    rfl
  | c :: t, cur => by
    show (if c = 10 then chop cur :: splitL [] t else splitL (cur ++ [c]) t) = (if c = 10 then (cur, true) :: piecesL 10 [] t else piecesL 10 (cur ++ [c]) t).flatMap lineL
    split
    · rw [splitL_pieces t []]; rfl
    · exact splitL_pieces t (cur ++ [c])

theorem lineOf_is (x : Piece) : lineOf x = ofLs (lineL (x.1.1.data.toList, x.1.2)) := by
  unfold lineOf lineL
  have hl := list_len x.1.1
  by_cases h : x.1.2 = true
  · rw [if_pos h, if_pos h]
    rfl
  · rw [if_neg h, if_neg h]
    by_cases h0 : x.1.1.size = 0
    · rw [if_pos h0, if_pos (List.eq_nil_of_length_eq_zero (by rw [hl]; exact h0))]
      rfl
    · rw [if_neg h0, if_neg (fun e => by
        rw [show (x.1.1.data.toList, x.1.2).1 = x.1.1.data.toList from rfl] at e
        rw [e] at hl
        exact h0 hl.symm)]
      show [x.1.1] = [ofL x.1.1.data.toList]
      rw [ofL_list]

theorem linesOf_all (ys : List Piece) (l : List UInt8) (h : plainP ys = piecesL 10 [] l) : linesOf ys = ofLs (linesL l) := by
  unfold linesL
  rw [splitL_pieces, ← h]
  clear h
  induction ys with
  | nil => rfl
  | cons x t ih =>
    show lineOf x ++ linesOf t = ofLs (lineL (x.1.1.data.toList, x.1.2) ++ (plainP t).flatMap lineL)
    rw [ih, lineOf_is]
    unfold ofLs
    rw [List.map_append]

theorem linesOf_snoc (pre : List Piece) (x : Piece) : linesOf (pre ++ [x]) = linesOf pre ++ lineOf x := by
  unfold linesOf
  rw [List.flatMap_append]
  simp

theorem linesOf_len (pre : List Piece) : (linesOf pre).length ≤ pre.length := by
  induction pre with
  | nil => exact Nat.le_refl _
  | cons x t ih =>
    show (lineOf x ++ linesOf t).length ≤ t.length + 1
    rw [List.length_append]
    have : (lineOf x).length ≤ 1 := by
      unfold lineOf
      split
      · simp
      · split <;> simp
    omega

theorem row_drew {W : World} {o : Obj} {n : Nat} {v : Value} {l : List ByteArray} (h : RowS W n v l) : ((W.alloc o).drew).ownsRow n 9 1 v l.length (strV l) := h.alloc o
theorem one_drew (W : World) (t : ByteArray) : ∀ j u, [Value.string t][j]? = some u → ((W.alloc (.cells #[.string t] 9)).drew).cell? ((⟨W.heap.size, 0, none⟩ : Addr).add j) = some u := cell_one_new W (.string t) 9
theorem grown_undrew {A B : World} {row : Option Nat} (h : A.drew.grownBy B row) : A.grownBy B row := ⟨h.os, h.tape, h.output, h.size, h.block⟩

theorem empty_text (s : ByteArray) (h : s.size = 0) : s.toList = [] ∧ s.toList.isEmpty = true := by
  have e : s.toList.length = s.size := by rw [ByteArray.toList_eq, list_len]
  have e2 : s.toList = [] := List.eq_nil_of_length_eq_zero (by rw [e]; exact h)
  exact ⟨e2, by rw [e2]; rfl⟩
theorem filled_text (s : ByteArray) (h : ¬ s.size = 0) : s.toList ≠ [] ∧ s.toList.isEmpty = false := by
  have e : s.toList.length = s.size := by rw [ByteArray.toList_eq, list_len]
  refine ⟨fun h2 => ?_, ?_⟩
  · rw [h2] at e
    exact h e.symm
  · rw [isEmpty_size, decide_eq_false_iff_not]
    exact h

/-- An append whose run is known, in a region that draws, within a round. -/
theorem stepIn_append {F : Fence} {n : Nat} {P : Program} {w : World} {ops : Array Oper} {o : Oper} {a : Act} {K : Act → World → Prop} {Q : Exit → Act → World → Prop} {E : Prop} (hw : Region.wanted o (yielded ops a.tmps) = true) (s x : Operand) (t : TypeId)
    (ho : o.op = .call { callee := .builtin .append, args := #[s, x], argTypes := #[t, t] }) {v1 v2 v' : Value} {w' : World} (hs : a.eval s = v1) (hx : a.eval x = v2)
    (hrun : (Builtin.append_ #[t, t] o.type #[v1, v2]).run P w = .ok v' w') (h : K (a.put o.dst v') w') : if Region.wanted o (yielded ops a.tmps) = true then Oper.wpIn F n P o a w K Q else E := by
  rw [if_pos hw]
  unfold Oper.wpIn
  refine ⟨?_, ?_⟩
  · simp [Oper.about, ho, resolve, Target.leads, Sem.run_pure]
  · rw [Oper.semAt_plain F _ _ (by rw [ho]; intro c hc; cases hc)]
    simp [execOp, ho, resolve, invoke, builtin, hs, hx, hrun, Result.andThen]
    exact h

set_option maxRecDepth 100000 in
set_option maxHeartbeats 4000000 in
theorem split_any (s : ByteArray) (w : World) (hs : s.size ≤ 1000000000000) :
    Calls Try.prog 12 #[.string s] w fun e w' => (∃ v, e = .returned v ∧ StrsAt w' v (ofLs (linesL s.data.toList))) ∧ Below w.heap.size w w' := by
  refine (callsIn_wide (n := 3)).1 ?_
  have hro : Fence.wide.round = none := rfl
  have hmx : Try.prog.follows .mixedOrders = true := by kernel_rfl
  obtain ⟨i0, hi, hz0, hz1, hz2⟩ := info_parts Try.infoStr
  refine callsIn_of_wp_marks Try.func12 rfl trivial ?_ hro
  simp only [Try.ntmps12, List.size_toArray, List.length_cons, List.length_nil, Nat.reduceAdd, Nat.reduceSub, Array.replicate_succ, Array.replicate_zero, List.push_toArray, List.append_toArray, List.nil_append, List.cons_append]
  gi_wp2_with fail
  refine ⟨trivial, ?_⟩
  refine (callsIn_wide.2 (pieces_any s 10 _)).mono ?_
  rintro e w' ⟨rfl, rfl⟩
  gi_wp2
  obtain ⟨W0, hW0⟩ : ∃ W0, ((w.alloc (.cells #[.slice none 0 0] 23)).alloc (.cells #[.string s] 9)).alloc (.cells #[.int .u8 10] 5) = W0 := ⟨_, rfl⟩
  rw [hW0]
  obtain ⟨hsz, hbox, hc1, hc2, hB0⟩ := loop_world w s 10 W0 hW0
  clear hW0
  refine wpIn_rangeFunc_ownG hro (by decide) (gf := 47) (lb := #[.pointer (some ⟨w.heap.size + 1, 0, none⟩), .pointer (some ⟨w.heap.size + 1 + 1, 0, none⟩)]) rfl trivial (enters_of Try.func47 (by kernel_rfl) rfl)
    (pieces_stops 2 (by decide) (w.heap.size + 1) (w.heap.size + 1 + 1) s 10 W0 hs (by omega) (by omega) hc1 hc2) keepTwo_t (keepTwo_b (by omega) (by omega)) (Below.refl _ _) (fun _ => rfl)
    (LoopIn linesOf w.heap.size (w.heap.size + 3) w) (fun _ _ _ => False)
    (loopIn_own linesOf w.heap.size (w.heap.size + 3) w (Nat.le_refl _) _ (by omega))
    (fun _ _ _ _ _ hs _ _ => hs)
    ⟨⟨_, hbox, World.ownsRow_nil _ _ _ _, trivial⟩, by omega, hB0⟩
    (fun x => { tmps := #[.string s, undef, .slice none 0 0, .pointer (some ⟨w.heap.size, 0, none⟩), .string x.1.1, .bool x.1.2, .string s, .func (.func 47) #[] #[.pointer (some ⟨w.heap.size + 1, 0, none⟩), .pointer (some ⟨w.heap.size + 1 + 1, 0, none⟩)], .string x.1.1, .bool x.1.2, undef, undef, undef, undef, undef, undef, undef, undef, undef, undef, undef, undef, undef, undef, undef], defers := [] }) ?assign ?body ?done ?stop
  case assign =>
    intro l x W K hK
    unfold pieceV
    gi_wp2
    exact hK
  case body =>
    rintro l pre x W ⟨⟨v, hv, hrow, _⟩, hn1, hB⟩ hlt
    have hc := hv.cell
    have hfl := linesOf_len pre
    have hxs := x.2
    have HS := Lib.hid (linesOf_snoc pre x)
    cases hend : x.1.2 with
    | true =>
      obtain ⟨t, ht⟩ : ∃ t, ofL (chop x.1.1.data.toList) = t := ⟨_, rfl⟩
      have HT := Lib.hid ht
      have HLn : Hid (lineOf x = [t]) := by
        show _ = _
        unfold lineOf
        rw [if_pos hend, ht]
      clear ht
      obtain ⟨v', w1, hrun, hown', hgrow, _⟩ := run_append_own (P := Try.prog) (w := (W.alloc (.cells #[.string t] 9)).drew) (w.heap.size + 3) 23 23 9 i0 (.string ByteArray.empty) 1 16 Try.underlying23 hi hz0 hz1 hz2 rfl (by decide) v _ _ (row_drew hrow) ⟨W.heap.size, 0, none⟩ 1 1 [.string t] rfl (one_drew W t) (by simp [Value.oneCell']) (by unfold maxLen; omega) (by omega) (by show _ ≤ (W.alloc _).heap.size; simp; omega)
      obtain ⟨g', cap', rfl⟩ := ownsRow_succ hown'
      rw [strV_snoc] at hown'
      obtain ⟨hv1, hv2, hr2, hk2, ht2, hn2, hb2⟩ := box_more hv hrow hn1 (by omega) (show w.heap.size + 1 < w.heap.size + 3 by omega) (show w.heap.size + 1 + 1 < w.heap.size + 3 by omega) (by omega) (by omega) hown' (by simp) (grown_undrew hgrow)
      have hc1 := hv1.cell
      have hf1 := hv1.frozen
      have hca := (hv.alloc (.cells #[.string t] 9)).cell
      rw [← HLn.out, ← HS.out] at hr2
      clear hown' hgrow hfl
      gi_wp2
      refine wpIn_region_any hmx ?_
      change wpAnyIn _ _ _ _ _ _ _ _ _ (World.drew _)
      refine wpAnyIn_ready (rs := [0, 1]) (by kernel_rfl) (by simp) ?_
      refine AllReadyIn.cons rfl (fun K hK => ?_) (AllReadyIn.cons rfl (fun K hK => ?_) AllReadyIn.nil)
      · go_simp
        refine hK _ _ ?_
        clear hK K
        refine wpAnyIn_ready (rs := [1]) (by kernel_rfl) (by simp) ?_
        refine AllReadyIn.cons rfl (fun K hK => ?_) AllReadyIn.nil
        go_simp
        refine hK _ _ ?_
        clear hK K
        refine wpAnyIn_ready (rs := [2]) (by kernel_rfl) (by simp) ?_
        refine AllReadyIn.cons rfl (fun K hK => ?_) AllReadyIn.nil
        go_simp
        refine ⟨trivial, ?_⟩
        refine (CallsIn.inRound l (callsIn_wide.2 (trim_any x.1.1 t _ (by omega) HT.out))).mono ?_
        rintro e w2 ⟨rfl, rfl⟩
        dsimp only
        refine hK _ _ ?_
        clear hK K
        refine wpAnyIn_ready (rs := [3]) (by kernel_rfl) (by simp) ?_
        refine AllReadyIn.cons rfl (fun K hK => ?_) AllReadyIn.nil
        go_simp
        refine hK _ _ ?_
        clear hK K
        refine wpAnyIn_ready (rs := [4]) (by kernel_rfl) (by simp) ?_
        refine AllReadyIn.cons rfl (fun K hK => ?_) AllReadyIn.nil
        refine stepIn_append (by rfl) _ _ 23 (by rfl) (by rfl) (by rfl) hrun ?_
        refine hK _ _ ?_
        clear hK K
        simp only [Act.put, List.setIfInBounds_toArray]
        refine wpAnyIn_ready (rs := [5]) (by kernel_rfl) (by simp) ?_
        refine AllReadyIn.cons rfl (fun K hK => ?_) AllReadyIn.nil
        go_simp
        refine hK _ _ ?_
        clear hK K
        refine wpAnyIn_done (by kernel_rfl) ?_ _
        gi_wp2
        exact ⟨hk2.from _, ht2, ⟨⟨_, hv2, hr2, trivial⟩, hn2, hb2 _ _ hB (Nat.le_refl _)⟩⟩
      · go_simp
        refine hK _ _ ?_
        clear hK K
        refine wpAnyIn_ready (rs := [0, 2]) (by kernel_rfl) (by simp) ?_
        refine AllReadyIn.cons rfl (fun K hK => ?_) (AllReadyIn.cons rfl (fun K hK => ?_) AllReadyIn.nil)
        · go_simp
          refine hK _ _ ?_
          clear hK K
          refine wpAnyIn_ready (rs := [2]) (by kernel_rfl) (by simp) ?_
          refine AllReadyIn.cons rfl (fun K hK => ?_) AllReadyIn.nil
          go_simp
          refine ⟨trivial, ?_⟩
          refine (CallsIn.inRound l (callsIn_wide.2 (trim_any x.1.1 t _ (by omega) HT.out))).mono ?_
          rintro e w2 ⟨rfl, rfl⟩
          dsimp only
          refine hK _ _ ?_
          clear hK K
          refine wpAnyIn_ready (rs := [3]) (by kernel_rfl) (by simp) ?_
          refine AllReadyIn.cons rfl (fun K hK => ?_) AllReadyIn.nil
          go_simp
          refine hK _ _ ?_
          clear hK K
          refine wpAnyIn_ready (rs := [4]) (by kernel_rfl) (by simp) ?_
          refine AllReadyIn.cons rfl (fun K hK => ?_) AllReadyIn.nil
          refine stepIn_append (by rfl) _ _ 23 (by rfl) (by rfl) (by rfl) hrun ?_
          refine hK _ _ ?_
          clear hK K
          simp only [Act.put, List.setIfInBounds_toArray]
          refine wpAnyIn_ready (rs := [5]) (by kernel_rfl) (by simp) ?_
          refine AllReadyIn.cons rfl (fun K hK => ?_) AllReadyIn.nil
          go_simp
          refine hK _ _ ?_
          clear hK K
          refine wpAnyIn_done (by kernel_rfl) ?_ _
          gi_wp2
          exact ⟨hk2.from _, ht2, ⟨⟨_, hv2, hr2, trivial⟩, hn2, hb2 _ _ hB (Nat.le_refl _)⟩⟩
        · go_simp
          refine ⟨trivial, ?_⟩
          refine (CallsIn.inRound l (callsIn_wide.2 (trim_any x.1.1 t _ (by omega) HT.out))).mono ?_
          rintro e w2 ⟨rfl, rfl⟩
          dsimp only
          refine hK _ _ ?_
          clear hK K
          refine wpAnyIn_ready (rs := [0, 3]) (by kernel_rfl) (by simp) ?_
          refine AllReadyIn.cons rfl (fun K hK => ?_) (AllReadyIn.cons rfl (fun K hK => ?_) AllReadyIn.nil)
          · go_simp
            refine hK _ _ ?_
            clear hK K
            refine wpAnyIn_ready (rs := [3]) (by kernel_rfl) (by simp) ?_
            refine AllReadyIn.cons rfl (fun K hK => ?_) AllReadyIn.nil
            go_simp
            refine hK _ _ ?_
            clear hK K
            refine wpAnyIn_ready (rs := [4]) (by kernel_rfl) (by simp) ?_
            refine AllReadyIn.cons rfl (fun K hK => ?_) AllReadyIn.nil
            refine stepIn_append (by rfl) _ _ 23 (by rfl) (by rfl) (by rfl) hrun ?_
            refine hK _ _ ?_
            clear hK K
            simp only [Act.put, List.setIfInBounds_toArray]
            refine wpAnyIn_ready (rs := [5]) (by kernel_rfl) (by simp) ?_
            refine AllReadyIn.cons rfl (fun K hK => ?_) AllReadyIn.nil
            go_simp
            refine hK _ _ ?_
            clear hK K
            refine wpAnyIn_done (by kernel_rfl) ?_ _
            gi_wp2
            exact ⟨hk2.from _, ht2, ⟨⟨_, hv2, hr2, trivial⟩, hn2, hb2 _ _ hB (Nat.le_refl _)⟩⟩
          · go_simp
            refine hK _ _ ?_
            clear hK K
            refine wpAnyIn_ready (rs := [0]) (by kernel_rfl) (by simp) ?_
            refine AllReadyIn.cons rfl (fun K hK => ?_) AllReadyIn.nil
            go_simp
            refine hK _ _ ?_
            clear hK K
            refine wpAnyIn_ready (rs := [4]) (by kernel_rfl) (by simp) ?_
            refine AllReadyIn.cons rfl (fun K hK => ?_) AllReadyIn.nil
            refine stepIn_append (by rfl) _ _ 23 (by rfl) (by rfl) (by rfl) hrun ?_
            refine hK _ _ ?_
            clear hK K
            simp only [Act.put, List.setIfInBounds_toArray]
            refine wpAnyIn_ready (rs := [5]) (by kernel_rfl) (by simp) ?_
            refine AllReadyIn.cons rfl (fun K hK => ?_) AllReadyIn.nil
            go_simp
            refine hK _ _ ?_
            clear hK K
            refine wpAnyIn_done (by kernel_rfl) ?_ _
            gi_wp2
            exact ⟨hk2.from _, ht2, ⟨⟨_, hv2, hr2, trivial⟩, hn2, hb2 _ _ hB (Nat.le_refl _)⟩⟩
    | false =>
      by_cases h0 : x.1.1.size = 0
      · have HLn : Hid (lineOf x = []) := by
          show _ = _
          unfold lineOf
          rw [hend, if_neg (by simp), if_pos h0]
        obtain ⟨n1, n2⟩ := empty_text x.1.1 h0
        clear h0
        gi_wp2
        rw [← List.append_nil (linesOf pre), ← HLn.out, ← HS.out] at hrow
        exact ⟨KeepsFrom.refl _ _, keepTwo_refl _ _ _, ⟨⟨v, hv, hrow, trivial⟩, hn1, hB⟩⟩
      · have HLn : Hid (lineOf x = [x.1.1]) := by
          show _ = _
          unfold lineOf
          rw [hend, if_neg (by simp), if_neg h0]
        obtain ⟨n1, n2⟩ := filled_text x.1.1 h0
        clear h0
        gi_wp2_with (gi_at_builtin; refine wpListIn_append_own _ rfl _ _ 23 rfl (w.heap.size + 3) 9 i0 (.string ByteArray.empty) 1 16 Try.underlying23 hi hz0 hz1 hz2 rfl (by decide) _ _ _ rfl (hrow.alloc _) ⟨W.heap.size, 0, none⟩ 1 1 [.string x.1.1] rfl rfl (cell_one_new _ _ _) (by simp [Value.oneCell']) (by unfold maxLen; omega) (by omega) (by simp; omega) ?_; intro v' w1 hown' hgrow _; obtain ⟨g', cap', rfl⟩ := ownsRow_succ hown'; rw [strV_snoc] at hown'; obtain ⟨hv1, hv2, hr2, hk2, ht2, hn2, hb2⟩ := box_more hv hrow hn1 (by omega) (show w.heap.size + 1 < w.heap.size + 3 by omega) (show w.heap.size + 1 + 1 < w.heap.size + 3 by omega) (by omega) (by omega) hown' (by simp) hgrow; have hc1 := hv1.cell; have hf1 := hv1.frozen)
        rw [← HLn.out, ← HS.out] at hr2
        exact ⟨hk2.from _, ht2, ⟨⟨_, hv2, hr2, trivial⟩, hn2, hb2 _ _ hB (Nat.le_refl _)⟩⟩
  case done =>
    rintro D ys W hD hys ⟨⟨v, hv, hrow, _⟩, hn1, hB⟩ hK
    have hc := hv.cell
    gi_wp2
    refine ⟨by simp, .inl ⟨_, _, rfl, run_takeDeferred hK, ?_⟩⟩
    refine ⟨_, results_tmp rfl _ _ _, ⟨v, rfl, ?_⟩, hB.trans (belowK_b (w := w) (Nat.le_refl _) W D _ _ (by omega) hK rfl rfl)⟩
    rw [← linesOf_all ys _ hys]
    exact RowS.strs (base := w.heap.size + 3) (ownsRow_putObj hrow _ hK rfl)
  case stop =>
    rintro D c pre W _ _ h _
    exact h.elim
end Go.Proofs.Yteoailanpmkcfaa
