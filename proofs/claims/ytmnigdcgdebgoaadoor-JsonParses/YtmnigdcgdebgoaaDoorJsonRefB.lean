/-
  The document's own reader of json: quoted, and a row with one item more.
-/
import Derived.Test.YtmnigdcgdebgoaaDoorJsonRefA
import Derived.Deep.RegionLaw
import Derived.ArgAppend
import Derived.Deep.Upon
namespace Go.Proofs.YtmnigdcgdebgoaaDoor
open Go.RowKit
set_option linter.unusedVariables false

set_option maxRecDepth 100000 in
set_option maxHeartbeats 1600000 in
theorem rrquoted_any (s : ByteArray) (k : Nat) (ao : Option Addr) (n cap : Nat) (E : Nat) (w : World) (hk : k ≤ s.size) (hs : s.size ≤ 1000000) (q : Nat × List UInt8 × List UInt8) (hq : quotF (restB s k) = q) (U : ByteArray) (hU : bytesOf q.2.1 = U) :
    Calls Tryd.prog 64 #[stV s k (.slice ao n cap) E] w fun r w' => ∃ j, j ≤ s.size ∧ (q.1 = 0 → restB s j = q.2.2) ∧ r = .returned (.tuple #[stV s j (.slice ao n cap) q.1, .string U]) ∧ Below w.heap.size w w' := by
  obtain ⟨e, u, m, hr, hm⟩ : ∃ e u m, readQ (restB s k) = (e, u, m) ∧ m ≤ (restB s k).length := by
    rcases readQ_cases (restB s k) with ⟨e, _, hr⟩ | ⟨rs, m, _, _, hm, hr, _⟩
    · exact ⟨e, [], 0, hr, Nat.zero_le _⟩
    · exact ⟨0, textU rs, m, hr, hm⟩
  have hq2 : q = (e, u, (restB s k).drop m) := by rw [← hq]; unfold quotF; rw [hr]
  rw [restB_len] at hm
  subst hq2
  have hlist := restB_list s k
  have hsz : (s.extract k s.size).size = s.size - k := by rw [← list_len, hlist, restB_len]
  have hW : ∀ W : World, Calls Tryd.prog 84 #[.string (s.extract k s.size)] W fun r w' => r = .returned (.tuple #[.string U, .int .i64 (m : Int), .int .i64 (e : Int)]) ∧ Below W.heap.size W w' := by
    intro W
    have h := rread_any (s.extract k s.size) W (by omega)
    rw [hlist, hr] at h
    rw [← hU]
    exact h
  have hdr : restB s (k + m) = (restB s k).drop m := by
    unfold restB
    rw [List.drop_drop]
  have HW := Lib.hid hW
  have HDR := Lib.hid hdr
  have hb0 := ((Below.refl w.heap.size w).alloc (Nat.le_refl _) (.cells #[.string s, .int .i64 (k : Int), .slice ao n cap, .int .i64 (E : Int)] 76)).alloc (by simp) (.cells #[.string ByteArray.empty, .int .i64 0, .slice none 0 0, .int .i64 0] 76)
  have HP := Lib.hid ((BoxS.new w (.string s) (.int .i64 (k : Int)) (.slice ao n cap) (.int .i64 (E : Int))).keep ((Below.refl _ _).alloc (Nat.le_refl _) (.cells #[.string ByteArray.empty, .int .i64 0, .slice none 0 0, .int .i64 0] 76)))
  have hR := BoxS.new (w.alloc (.cells #[.string s, .int .i64 (k : Int), .slice ao n cap, .int .i64 (E : Int)] 76)) (.string ByteArray.empty) (.int .i64 0) (.slice none 0 0) (.int .i64 0)
  rw [show (w.alloc (.cells #[.string s, .int .i64 (k : Int), .slice ao n cap, .int .i64 (E : Int)] 76)).heap.size = w.heap.size + 1 by simp] at hR
  have HR := Lib.hid hR
  have HB0 := Lib.hid hb0
  clear hW hlist hsz hr hq hU hdr hb0 hR
  unfold stV
  go_enter Tryd.func64, Tryd.ntmps64
  go_wp2_with fail
  refine (HW.out _).mono ?_
  rintro _ w1 ⟨rfl, hb1⟩
  have hP1 := HP.out.keep hb1
  have hR1 := HR.out.keep hb1
  obtain ⟨p0, p1, p2, p3⟩ := hP1.cells
  obtain ⟨q0, q1, q2, q3⟩ := hR1.cells
  have f1 := hP1.frozen 1
  have f3 := hP1.frozen 3
  have g0 := hR1.frozen 0
  have g1 := hR1.frozen 1
  have g2 := hR1.frozen 2
  have g3 := hR1.frozen 3
  have HB1 := Lib.hid (HB0.out.trans (hb1.mono (by simp; omega)))
  clear hP1 hR1 hb1
  go_wp2
  refine bodyPost_ret (v := .tuple #[.agg #[.string s, .int .i64 ((k + m : Nat) : Int), .slice ao n cap, .int .i64 (e : Int)], .string U]) (by simp [results, Tryd.results64, go_sem, q0, q1, q2, q3]) rfl ⟨k + m, by omega, fun _ => HDR.out, rfl, ?_⟩
  exact (((((HB1.out.setCell (p := ⟨w.heap.size, 1, none⟩) (Nat.le_refl _) _).setCell (p := ⟨w.heap.size, 3, none⟩) (Nat.le_refl _) _).setCell (p := ⟨w.heap.size + 1, 0, none⟩) (by show _ ≤ w.heap.size + 1; omega) _).setCell (p := ⟨w.heap.size + 1, 1, none⟩) (by show _ ≤ w.heap.size + 1; omega) _).setCell (p := ⟨w.heap.size + 1, 2, none⟩) (by show _ ≤ w.heap.size + 1; omega) _).setCell (p := ⟨w.heap.size + 1, 3, none⟩) (by show _ ≤ w.heap.size + 1; omega) _

/-- An append whose run is known to be, in a region that draws. -/
theorem step_append_ex {P : Program} {w : World} {ops : Array Oper} {o : Oper} {a : Act} {K : Act → World → Prop} {Q : Exit → Act → World → Prop} {E : Prop} (hw : Region.wanted o (yielded ops a.tmps) = true) (s x : Operand) (t : TypeId)
    (ho : o.op = .call { callee := .builtin .append, args := #[s, x], argTypes := #[t, t] }) {v1 v2 : Value} (hs : a.eval s = v1) (hx : a.eval x = v2) (R : Value → World → Prop)
    (hrun : ∃ v' w', (Builtin.append_ #[t, t] o.type #[v1, v2]).run P w = .ok v' w' ∧ R v' w') (h : ∀ v' w', R v' w' → K (a.put o.dst v') w') : if Region.wanted o (yielded ops a.tmps) = true then Oper.wp P o a w K Q else E := by
  obtain ⟨v', w', h1, h2⟩ := hrun
  rw [if_pos hw]
  unfold Oper.wp
  simp [execOp, ho, resolve, invoke, builtin, hs, hx, h1, Result.andThen]
  exact h v' w' h2

/-- The row v lies in block b or behind it. -/
def ItsFar (b : Nat) (w : World) (v : Value) (l : List It) : Prop := ItsAt w v l ∧ ∀ ad n c, v = .slice (some ad) n c → b ≤ ad.block
theorem ItsFar.set {b : Nat} {w : World} {v : Value} {l : List It} (h : ItsFar b w v l) (p : Addr) (u : Value) (hp : p.block < b) : ItsFar b (w.setCell p u) v l := by
  obtain ⟨h1, h2⟩ := h
  refine ⟨?_, h2⟩
  rcases h1 with h1 | ⟨ad, c, rfl, hc, hcells⟩
  · exact .inl h1
  · refine .inr ⟨ad, c, rfl, hc, fun j x hj => ?_⟩
    have hb := h2 ad _ _ rfl
    have e : (ad.add j).block = ad.block := by
      unfold Addr.add
      split <;> rfl
    rw [World.cell?_setCell_other w _ _ _ (fun h3 => by rw [h3] at hp; omega)]
    exact hcells j x hj
theorem row_far {w : World} {base : Nat} {v : Value} {l : List It} (h : w.ownsRow base 46 5 v l.length (itsV l)) : ItsFar base w v l :=
  ⟨row_items h, fun ad n c e => by
    rcases h.2 with ⟨h1, _⟩ | ⟨g, cap, cur, h1, hg, _⟩
    · rw [h1] at e; cases e
    · rw [h1] at e
      cases e
      exact hg⟩

/-- The row is copied into an empty one. -/
theorem app_first {W : World} {g base : Nat} {v : Value} {l : List It} (hrow : W.ownsRow base 46 5 (.slice (some ⟨g, 0, none⟩) 0 0) 0 []) (hI : ItsAt W v l) (hbase : base ≤ W.heap.size) (hl : l.length ≤ 1000000) :
    ∃ v' w', (Builtin.append_ #[22, 22] 22 #[.slice (some ⟨g, 0, none⟩) 0 0, v]).run Tryd.prog W = .ok v' w' ∧ (w'.ownsRow base 46 5 v' l.length (itsV l) ∧ Below base W w' ∧ (∃ ao m c, v' = .slice ao m c) ∧ W.heap.size ≤ w'.heap.size ∧ (∀ i, i < W.heap.size → i ≠ g → w'.heap[i]? = W.heap[i]?)) := by
  obtain ⟨i0, hi, hz0, hz1, hz2⟩ := info_parts Tryd.infoItR
  have hgb : base ≤ g := (World.ownsRow.lt hrow g rfl).1
  have shape : ∀ {w' : World} {v' : Value} {n : Nat} {xs : List Value}, w'.ownsRow base 46 5 v' n xs → ∃ ao m c, v' = .slice ao m c := by
    intro w' v' n xs h
    rcases h.2 with ⟨rfl, _⟩ | ⟨g, cap, cur, rfl, _⟩
    · exact ⟨_, _, _, rfl⟩
    · exact ⟨_, _, _, rfl⟩
  rcases hI with ⟨rfl, rfl⟩ | ⟨ad, cap, rfl, _, hc⟩
  · have h := run_append_nothing (P := Tryd.prog) W 22 22 22 46 i0 Tryd.underlying22 hi (some ⟨g, 0, none⟩) 0 0 (Nat.le_refl _) (.slice none 0 0) (by rw [hz1]; exact Src.ofNil W Tryd.underlying22 0)
    exact ⟨_, _, h, hrow, Below.refl _ _, ⟨_, _, _, rfl⟩, Nat.le_refl _, fun _ _ _ => rfl⟩
  · obtain ⟨v', w', hr, hown, hg, _, _⟩ := run_append_own_at (P := Tryd.prog) W base 22 22 46 i0 _ 5 56 Tryd.underlying22 hi hz0 hz1 hz2 rfl (by decide) (.slice (some ⟨g, 0, none⟩) 0 0) 0 [] hrow ad l.length cap (itsV l) (itsV_len l) hc (by
        intro u hu
        unfold itsV at hu
        obtain ⟨x, _, hx⟩ := List.mem_flatMap.1 hu
        unfold itV at hx
        simp only [List.mem_cons, List.not_mem_nil, or_false] at hx
        rcases hx with rfl | rfl | rfl | rfl | rfl <;> rfl) (by unfold maxLen; omega) (by omega) hbase
    rw [Nat.zero_add, List.nil_append] at hown
    exact ⟨v', w', hr, hown, (Below.refl base W).grown hg hbase (fun k hk => by rw [← Option.some.inj hk]; exact hgb), shape hown, hg.size, fun i hi hne => hg.block i hi (fun e => hne (Option.some.inj e))⟩

/-- .. and gets one item more. -/
theorem app_second {W : World} {base gx : Nat} {v : Value} {l : List It} (hrow : W.ownsRow base 46 5 v l.length (itsV l)) (d K N : Int) (key text : ByteArray) (hx : W.heap[gx]? = some (.cells #[.int .i64 d, .int .i64 K, .string key, .string text, .int .i64 N] 46 (0, 0))) (hbase : base ≤ W.heap.size) (hl : l.length ≤ 1000000) :
    ∃ v' w', (Builtin.append_ #[22, 22] 22 #[v, .slice (some ⟨gx, 0, none⟩) 1 1]).run Tryd.prog W = .ok v' w' ∧ (ItsAt w' v' (l ++ [⟨d, K, key.data.toList, text.data.toList, N⟩]) ∧ Below base W w' ∧ (∃ ao m c, v' = .slice ao m c) ∧ ItsFar base w' v' (l ++ [⟨d, K, key.data.toList, text.data.toList, N⟩])) := by
  obtain ⟨i0, hi, hz0, hz1, hz2⟩ := info_parts Tryd.infoItR
  obtain ⟨v', w', hr, hown, hg, _, _⟩ := run_append_own_at (P := Tryd.prog) W base 22 22 46 i0 _ 5 56 Tryd.underlying22 hi hz0 hz1 hz2 rfl (by decide) v l.length (itsV l) hrow ⟨gx, 0, none⟩ 1 1 [.int .i64 d, .int .i64 K, .string key, .string text, .int .i64 N] (by rfl) (by
      intro j u hj
      have e2 : (⟨gx, 0, none⟩ : Addr).add j = ⟨gx, j, none⟩ := by cases j <;> simp [Addr.add]
      have e := cell_of_row W gx j _ _ _ hx
      rw [e2, e]
      simpa using hj) (by
      intro u hu
      simp only [List.mem_cons, List.not_mem_nil, or_false] at hu
      rcases hu with rfl | rfl | rfl | rfl | rfl <;> rfl) (by unfold maxLen; omega) (by omega) hbase
  have hown' : w'.ownsRow base 46 5 v' (l ++ [(⟨d, K, key.data.toList, text.data.toList, N⟩ : It)]).length (itsV (l ++ [⟨d, K, key.data.toList, text.data.toList, N⟩])) := by
    rw [List.length_append, itsV_app]
    have : itsV [(⟨d, K, key.data.toList, text.data.toList, N⟩ : It)] = [.int .i64 d, .int .i64 K, .string key, .string text, .int .i64 N] := by
      show itV _ ++ [] = _
      rw [List.append_nil, itV_mk]
    rw [this]
    exact hown
  refine ⟨v', w', hr, row_items hown', (Below.refl base W).grown hg hbase (fun k hk => (World.ownsRow.lt hrow k hk).1), ?_, row_far hown'⟩
  rcases hown.2 with ⟨rfl, _⟩ | ⟨g, cap, cur, rfl, _⟩
  · exact ⟨_, _, _, rfl⟩
  · exact ⟨_, _, _, rfl⟩
/-- .. over a world that the call began with. -/
theorem app_one (W0 : World) {W : World} {g : Nat} {v : Value} {l : List It} (hb0 : Below W0.heap.size W0 W) (hrow : W.ownsRow W0.heap.size 46 5 (.slice (some ⟨g, 0, none⟩) 0 0) 0 []) (hI : ItsAt W0 v l) (hl : l.length ≤ 1000000) :
    ∃ v' w', (Builtin.append_ #[22, 22] 22 #[.slice (some ⟨g, 0, none⟩) 0 0, v]).run Tryd.prog W = .ok v' w' ∧ (w'.ownsRow W0.heap.size 46 5 v' l.length (itsV l) ∧ Below W0.heap.size W0 w' ∧ (∃ ao m c, v' = .slice ao m c) ∧ W.heap.size ≤ w'.heap.size ∧ (∀ i, i < W.heap.size → i ≠ g → w'.heap[i]? = W.heap[i]?)) := by
  obtain ⟨v', w', h1, h2, h3, h4, h5, h6⟩ := app_first hrow (hI.keep hb0) hb0.size hl
  exact ⟨v', w', h1, h2, hb0.trans h3, h4, h5, h6⟩
theorem app_two (W0 : World) {W : World} {gx : Nat} {v : Value} {l : List It} (hb0 : Below W0.heap.size W0 W) (hrow : W.ownsRow W0.heap.size 46 5 v l.length (itsV l)) (d K N : Int) (key text : ByteArray) (hx : W.heap[gx]? = some (.cells #[.int .i64 d, .int .i64 K, .string key, .string text, .int .i64 N] 46 (0, 0))) (hl : l.length ≤ 1000000) :
    ∃ v' w', (Builtin.append_ #[22, 22] 22 #[v, .slice (some ⟨gx, 0, none⟩) 1 1]).run Tryd.prog W = .ok v' w' ∧ (ItsAt w' v' (l ++ [⟨d, K, key.data.toList, text.data.toList, N⟩]) ∧ Below W0.heap.size W0 w' ∧ (∃ ao m c, v' = .slice ao m c) ∧ ItsFar W0.heap.size w' v' (l ++ [⟨d, K, key.data.toList, text.data.toList, N⟩])) := by
  obtain ⟨v', w', h1, h2, h3, h4⟩ := app_second hrow d K N key text hx hb0.size hl
  exact ⟨v', w', h1, h2, hb0.trans h3, h4⟩
theorem rowE_new (W : World) (base : Nat) (hb : base ≤ W.heap.size) : (W.alloc (.cells #[] 46)).ownsRow base 46 5 (.slice (some ⟨W.heap.size, 0, none⟩) 0 0) 0 [] :=
  ⟨rfl, .inr ⟨W.heap.size, 0, #[], rfl, hb, heap_alloc_new W _, Nat.le_refl _, Nat.zero_le _, rfl, rfl⟩⟩
end Go.Proofs.YtmnigdcgdebgoaaDoor
