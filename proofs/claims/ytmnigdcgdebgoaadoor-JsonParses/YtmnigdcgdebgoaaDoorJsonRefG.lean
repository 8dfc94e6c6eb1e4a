/-
  The document's own reader of json: members.
-/
import Derived.Test.YtmnigdcgdebgoaaDoorJsonRefE
import Derived.Test.YtmnigdcgdebgoaaDoorJsonTwF
import Derived.Test.YtmnigdcgdebgoaaDoorPlainM
namespace Go.Proofs.YtmnigdcgdebgoaaDoor
open Go.RowKit
set_option linter.unusedVariables false

/-- The contract of value, by how far it may go. -/
def RValueOk (n : Nat) : Prop := ∀ (w : World) (s : ByteArray) (k : Nat) (ao : Option Addr) (m cap : Nat) (l : List It) (d : Nat) (key : ByteArray) (f : Nat), ItsAt w (.slice ao m cap) l → k ≤ s.size → s.size ≤ 1000000 → l.length ≤ k → d ≤ 64 → s.size - k ≤ n → 2 * (s.size - k) + 1 ≤ f →
  Calls Tryd.prog 42 #[stV s k (.slice ao m cap) 0, itA d 0 key ByteArray.empty 0] w fun r w' => RTells s w.heap.size l w (valueF readD f d key.data.toList (restB s k)) r w'

/-- Members, behind the opening sign. -/
def membF (R : List UInt8 → Option Int) (f d : Nat) (o : Bool) (l : List UInt8) : Nat × List It × List UInt8 := if (skipL l).head? = some (shutO o) then (0, [], (skipL l).tail) else listF R f d o [] l

theorem ItsAt.grown {w w' : World} {row : Option Nat} {v : Value} {l : List It} (h : ItsAt w v l) (hg : w.grownBy w' row) (ha : ∀ ad n c, v = .slice (some ad) n c → row ≠ some ad.block) : ItsAt w' v l := by
  rcases h with h | ⟨ad, cap, rfl, hc, hcells⟩
  · exact .inl h
  · refine .inr ⟨ad, cap, rfl, hc, fun j x hj => ?_⟩
    have h4 := hcells j x hj
    have e : (ad.add j).block = ad.block := by
      unfold Addr.add
      split <;> rfl
    rw [World.cell?_of_block (hg.block _ (World.block_lt_of_cell? w _ h4) (fun e2 => ha ad _ _ rfl (by rw [← e2, e])))]
    exact h4
theorem its_lt {w : World} {v : Value} {l : List It} (h : ItsAt w v l) (hl : l ≠ []) : ∀ ad n c, v = .slice (some ad) n c → ad.block < w.heap.size := by
  intro ad n c e
  rcases h with ⟨h, h2⟩ | ⟨ad2, cap, h, _, hcells⟩
  · exact absurd h2 hl
  · rw [h] at e
    cases e
    have hp : 0 < l.length := List.length_pos_iff.2 hl
    have h4 := hcells 0 ((itsV l)[0]'(by rw [itsV_len]; omega)) (List.getElem?_eq_getElem _)
    exact World.block_lt_of_cell? w ad (by simpa [Addr.add] using h4)

/-- append of one key. -/
theorem push_key {w : World} {base : Nat} {v : Value} {ks : List ByteArray} (h : RowS w base v ks) (hbase : base ≤ w.heap.size) (hl : ks.length ≤ 1000000) (s : ByteArray) :
    ∃ v' w', (Builtin.append_ #[107, 107] 107 #[v, .slice (some ⟨w.heap.size, 0, none⟩) 1 1]).run Tryd.prog (w.alloc (.cells #[.string s] 9)) = .ok v' w' ∧ RowS w' base v' (ks ++ [s]) ∧ (w.alloc (.cells #[.string s] 9)).grownBy w' v.ownBlock ∧ (v'.ownBlock = v.ownBlock ∨ v'.ownBlock = some (w.heap.size + 1)) := by
  obtain ⟨i0, hi, hz0, hz1, hz2⟩ := info_parts Tryd.infoStr
  obtain ⟨v', w', hr, hown, hg, _, hat⟩ := run_append_own_at (P := Tryd.prog) (w.alloc (.cells #[.string s] 9)) base 107 107 9 i0 (.string ByteArray.empty) 1 16 Tryd.underlying107 hi hz0 hz1 hz2 rfl (by decide) v ks.length (strV ks) (h.alloc _) ⟨w.heap.size, 0, none⟩ 1 1 [.string s] (by rfl) (by
      intro j u hj
      match j, hj with
      | 0, hj =>
        simp at hj
        subst hj
        simp [Addr.add]) (by
      intro u hu
      simp at hu
      subst hu
      rfl) (by unfold maxLen; omega) (by omega) (by simp; omega)
  refine ⟨v', w', hr, ?_, hg, ?_⟩
  · show w'.ownsRow base 9 1 v' (ks ++ [s]).length (strV (ks ++ [s]))
    rw [List.length_append]
    have e : strV (ks ++ [s]) = strV ks ++ [.string s] := by simp [strV]
    rw [e]
    exact hown
  · rw [show (w.alloc (.cells #[.string s] 9)).heap.size = w.heap.size + 1 by simp] at hat
    exact hat

/-- In members: the state's block, the item's, the result's. -/
structure MemIn (s : ByteArray) (w : World) (d K : Int) (key : ByteArray) (j : Nat) (v : Value) (E : Int) (W : World) : Prop where
  p : BoxS W w.heap.size (.string s) (.int .i64 (j : Int)) v (.int .i64 E)
  x : BoxR W (w.heap.size + 1) (.int .i64 d) (.int .i64 K) (.string key) (.string ByteArray.empty) (.int .i64 0)
  r : BoxS W (w.heap.size + 1 + 1) (.string ⟨#[]⟩) (.int .i64 0) (.slice none 0 0) (.int .i64 0)
  b : Below w.heap.size w W
theorem MemIn.keep {s : ByteArray} {w W W' : World} {d K : Int} {key : ByteArray} {j : Nat} {v : Value} {E : Int} (h : MemIn s w d K key j v E W) (hb : Below W.heap.size W W') : MemIn s w d K key j v E W' := ⟨h.p.keep hb, h.x.keep hb, h.r.keep hb, chain h.b hb⟩
theorem MemIn.put {s : ByteArray} {w W : World} {d K : Int} {key : ByteArray} {j : Nat} {v : Value} {E : Int} (h : MemIn s w d K key j v E W) (j' : Nat) (v' : Value) (E' : Int) : MemIn s w d K key j' v' E' (put4 W w.heap.size (.string s) (.int .i64 (j' : Int)) v' (.int .i64 E')) :=
  ⟨h.p.put _ _ _ _, h.x.putO _ (by omega) _ _ _ _, h.r.putO _ (by omega) _ _ _ _, below_put h.b (Nat.le_refl _) _ _ _ _⟩
theorem MemIn.move {s : ByteArray} {w W : World} {d K : Int} {key : ByteArray} {j : Nat} {v : Value} {E : Int} (h : MemIn s w d K key j v E W) (j' : Nat) (i : Int) (hi : i = (j' : Int)) : MemIn s w d K key j' v E (W.setCell ⟨w.heap.size, 1, none⟩ (.int .i64 i)) := by
  subst hi
  exact ⟨(h.p.set _).2.1, h.x.other _ _ (by show w.heap.size ≠ w.heap.size + 1; omega), h.r.other _ _ (by show w.heap.size ≠ w.heap.size + 1 + 1; omega), h.b.setCell (p := ⟨w.heap.size, 1, none⟩) (Nat.le_refl _) _⟩
theorem MemIn.grown {s : ByteArray} {w W W' : World} {d K : Int} {key : ByteArray} {j : Nat} {v : Value} {E : Int} {row : Option Nat} (h : MemIn s w d K key j v E W) (hg : W.grownBy W' row) (hr : ∀ g, row = some g → w.heap.size + 3 ≤ g) : MemIn s w d K key j v E W' := by
  have hb := h.b.size
  have e : ∀ i, i < w.heap.size + 3 → some i ≠ row := fun i hi e => by have := hr i e.symm; omega
  exact ⟨⟨(hg.block _ h.p.lt (e _ (by omega))).trans h.p.at_⟩, ⟨(hg.block _ h.x.lt (e _ (by omega))).trans h.x.at_⟩, ⟨(hg.block _ h.r.lt (e _ (by omega))).trans h.r.at_⟩,
    hg.os.trans h.b.os, hg.tape.trans h.b.tape, hg.output.trans h.b.output, Nat.le_trans hb hg.size, fun i hi => (hg.block i (by omega) (e i (by omega))).trans (h.b.block i hi)⟩

theorem RowS.other {w : World} {base : Nat} {v : Value} {ks : List ByteArray} (h : RowS w base v ks) (p : Addr) (u : Value) (hp : p.block < base) : RowS (w.setCell p u) base v ks := by
  obtain ⟨h1, h2⟩ := h
  refine ⟨h1, ?_⟩
  rcases h2 with h2 | ⟨g, cap, cur, e, hbg, hg, h3⟩
  · exact .inl h2
  · exact .inr ⟨g, cap, cur, e, hbg, (Below.heap_setCell _ _ _ _ (by omega)).trans hg, h3⟩
theorem RowS.put {w : World} {base : Nat} {v : Value} {ks : List ByteArray} (h : RowS w base v ks) (B : Nat) (hp : B < base) (a b c d : Value) : RowS (put4 w B a b c d) base v ks := (((h.other ⟨B, 0, none⟩ a hp).other ⟨B, 1, none⟩ b hp).other ⟨B, 2, none⟩ c hp).other ⟨B, 3, none⟩ d hp
theorem RowS.lt {w : World} {base : Nat} {v : Value} {ks : List ByteArray} (h : RowS w base v ks) : ∀ k, v.ownBlock = some k → k < w.heap.size := fun k hk => (World.ownsRow.lt h k hk).2

theorem ItsFar.put {b : Nat} {w : World} {v : Value} {l : List It} (h : ItsFar b w v l) {B : Nat} {a b' c d : Value} (hB : BoxS w B a b' c d) (a' b2 c' d' : Value) : ItsFar b (put4 w B a' b2 c' d') v l := ⟨h.1.put hB _ _ _ _, h.2⟩
theorem ItsFar.boxed {b : Nat} {w : World} {v : Value} {l : List It} (h : ItsFar b w v l) {B : Nat} {a b' c d : Value} (hB : BoxS w B a b' c d) (p : Addr) (u : Value) (hp : p.block = B) : ItsFar b (w.setCell p u) v l := ⟨h.1.boxed hB p u hp, h.2⟩

theorem mem_key_err (f d : Nat) (keys : List (List UInt8)) (l : List UInt8) (E : Nat) (u r : List UInt8) (hk : keyF keys l = (E, u, r)) (hE : E ≠ 0) : listF readD (f + 1) d true keys l = (E, [], []) := by
  rw [listF, if_pos rfl, hk, okThen_err E hE]
theorem mem_val_err (f d : Nat) (o : Bool) (keys : List (List UInt8)) (l u r : List UInt8) (E : Nat) (x : List It) (r4 : List UInt8) (hk : (if o = true then keyF keys l else (0, [], l)) = (0, u, r)) (hv : valueF readD f d u r = (E, x, r4)) (hE : E ≠ 0) : listF readD (f + 1) d o keys l = (E, [], []) := by
  rw [listF, hk, okThen_ok, hv, okThen_err E hE]
theorem mem_val (f d : Nat) (o : Bool) (keys : List (List UInt8)) (l u r : List UInt8) (x : List It) (r4 : List UInt8) (hk : (if o = true then keyF keys l else (0, [], l)) = (0, u, r)) (hv : valueF readD f d u r = (0, x, r4)) : listF readD (f + 1) d o keys l = match skipL r4 with
      | [] => (80, [], [])
      | c :: r3 => if c = shutO o then (0, x, r3) else if c.toNat = 44 then okThen (listF readD f d o (keys ++ [u]) r3) fun m r4 => (0, x ++ m, r4) else (80, [], []) := by
  rw [listF, hk, okThen_ok, hv, okThen_ok]
  cases skipL r4 <;> rfl

theorem key_skip (keys : List (List UInt8)) (l : List UInt8) : keyF keys (skipL l) = keyF keys l := by
  unfold keyF
  rw [skip_two]
theorem listF_skip (R : List UInt8 → Option Int) (f d : Nat) (o : Bool) (keys : List (List UInt8)) (l : List UInt8) : listF R f d o keys (skipL l) = listF R f d o keys l := by
  cases f with
  | zero => rw [listF, listF]
  | succ f =>
    cases o with
    | true => rw [listF, listF, if_pos rfl, if_pos rfl, key_skip]
    | false =>
      rw [listF, listF]
      simp only [Bool.false_eq_true, if_false, okThen_ok]
      rw [value_skip]
theorem RTells.of_then {s : ByteArray} {b : Nat} {l : List It} {w : World} {q : Nat × List It × List UInt8} {r : Ending} {w' : World} (h : RTells s b l w (okThen q (fun x r => (0, [] ++ x, r))) r w') : RTells s b l w q r w' := by
  obtain ⟨j, ao, m, c, hj, hr, hb, hok⟩ := h
  by_cases hq : q.1 = 0
  · have e : okThen q (fun x r => (0, [] ++ x, r)) = q := by
      unfold okThen
      rw [if_pos hq]
      exact Prod.ext hq.symm rfl
    rw [e] at hr hok
    exact ⟨j, ao, m, c, hj, hr, hb, hok⟩
  · have e : (okThen q (fun x r => (0, [] ++ x, r))).1 = q.1 := by
      unfold okThen
      rw [if_neg hq]
    rw [e] at hr
    exact ⟨j, ao, m, c, hj, hr, hb, fun h => absurd h hq⟩

theorem okThen_twice (q : Nat × List It × List UInt8) (acc y : List It) : okThen (okThen q fun m r => (0, y ++ m, r)) (fun x r => (0, acc ++ x, r)) = okThen q (fun x r => (0, (acc ++ y) ++ x, r)) := by
  by_cases hq : q.1 = 0
  · unfold okThen
    rw [if_pos hq, if_pos hq]
    simp
  · have e : okThen q (fun m r => (0, y ++ m, r)) = (q.1, [], []) := by unfold okThen; rw [if_neg hq]
    rw [e, okThen_err _ hq]
    unfold okThen
    rw [if_neg hq]

/-- What the loop holds. -/
def MemW (s : ByteArray) (nn b : Nat) (l : List It) (w : World) (d : Nat) (o : Bool) (key : ByteArray) (A : Nat × List It × List UInt8) (n : Nat) (v6 : Value) (wr : World) : Prop :=
  ∃ (j : Nat) (ao : Option Addr) (m cap : Nat) (acc : List It) (ks : List ByteArray) (kk : List (List UInt8)), MemIn s w d (kindO o) key j (.slice ao m cap) 0 wr ∧ ItsFar b wr (.slice ao m cap) (l ++ acc) ∧ RowS wr (w.heap.size + 3) v6 ks ∧ (∀ ad n c, (Value.slice ao m cap) = .slice (some ad) n c → v6.ownBlock ≠ some ad.block) ∧ j ≤ s.size ∧ (l ++ acc).length ≤ j ∧ ks.length ≤ j ∧ 2 * (s.size - j) + 2 ≤ n ∧ s.size - j ≤ nn ∧ (o = true → kk = ks.map (·.data.toList)) ∧
    okThen (listF readD n (d + 1) o kk (restB s j)) (fun x r => (0, acc ++ x, r)) = A
set_option maxRecDepth 100000 in
set_option maxHeartbeats 12800000 in
theorem rmembers_true {n : Nat} (IH : RValueOk n) (s : ByteArray) (k : Nat) (ao : Option Addr) (m cap : Nat) (l : List It) (b : Nat) (w : World) (hI : ItsFar b w (.slice ao m cap) l) (hb : b ≤ w.heap.size) (hl0 : l ≠ []) (hk : k ≤ s.size) (hs : s.size ≤ 1000000) (hl : l.length ≤ k) (d : Nat) (hd : d < 64) (key : ByteArray) (hn : s.size - k ≤ n) (f : Nat) (hf : 2 * (s.size - k) + 2 ≤ f) :
    Calls Tryd.prog 63 #[stV s k (.slice ao m cap) 0, itA d 7 key ByteArray.empty 0] w fun r w' => RTells s b l w (membF readD f (d + 1) true (restB s k)) r w' := by
  obtain ⟨A, hA⟩ : ∃ A, okThen (membF readD f (d + 1) true (restB s k)) (fun x r => (0, [] ++ x, r)) = A := ⟨_, rfl⟩
  suffices hT : Calls Tryd.prog 63 #[stV s k (.slice ao m cap) 0, itA d 7 key ByteArray.empty 0] w (fun r w' => RTells s b l w A r w') from hT.mono (fun r w' h => by rw [← hA] at h; exact h.of_then)
  obtain ⟨W, hW⟩ : ∃ W, ((w.alloc (.cells #[.string s, .int .i64 (k : Int), .slice ao m cap, .int .i64 0] 76)).alloc (.cells #[.int .i64 (d : Int), .int .i64 7, .string key, .string ByteArray.empty, .int .i64 0] 46)).alloc (.cells #[.string ⟨#[]⟩, .int .i64 0, .slice none 0 0, .int .i64 0] 76) = W := ⟨_, rfl⟩
  have hin : MemIn s w d 7 key k (.slice ao m cap) 0 W := by
    rw [← hW]
    refine ⟨(BoxS.new w _ _ _ _).keep (((Below.refl _ _).alloc (Nat.le_refl _) _).alloc (by simp) _), ?_, ?_, (((Below.refl _ _).alloc (Nat.le_refl _) _).alloc (by simp) _).alloc (by simp; omega) _⟩
    · have e := BoxR.new (w.alloc (.cells #[.string s, .int .i64 (k : Int), .slice ao m cap, .int .i64 0] 76)) (.int .i64 (d : Int)) (.int .i64 7) (.string key) (.string ByteArray.empty) (.int .i64 0)
      rw [show (w.alloc (.cells #[.string s, .int .i64 (k : Int), .slice ao m cap, .int .i64 0] 76)).heap.size = w.heap.size + 1 by simp] at e
      exact e.keep ((Below.refl _ _).alloc (Nat.le_refl _) _)
    · have e := BoxS.new ((w.alloc (.cells #[.string s, .int .i64 (k : Int), .slice ao m cap, .int .i64 0] 76)).alloc (.cells #[.int .i64 (d : Int), .int .i64 7, .string key, .string ByteArray.empty, .int .i64 0] 46)) (.string ⟨#[]⟩) (.int .i64 0) (.slice none 0 0) (.int .i64 0)
      rw [show ((w.alloc (.cells #[.string s, .int .i64 (k : Int), .slice ao m cap, .int .i64 0] 76)).alloc (.cells #[.int .i64 (d : Int), .int .i64 7, .string key, .string ByteArray.empty, .int .i64 0] 46)).heap.size = w.heap.size + 1 + 1 by simp] at e
      exact e
  have HI := Lib.hid hI
  have HIN := Lib.hid hin
  have HW := Lib.hid hW
  have HA := Lib.hid hA
  have HV := Lib.hid IH
  have HL0 := Lib.hid hl0
  obtain ⟨x0, x1, x2, x3, x4⟩ := hin.x.cells
  clear hI hin hW hA IH hl0
  unfold stV itA
  go_enter Tryd.func63, Tryd.ntmps63
  go_wp2_with fail
  rw [HW.out]
  clear x0 x1 x2 x3 x4
  refine (rskip_any s k ao m cap 0 _ hk hs).mono ?_
  rintro _ w1 ⟨j, hj, hrj, rfl, hb1⟩
  have hin1 := HIN.out.keep hb1
  have HI1 := Lib.hid (HI.out.keep hin1.b)
  have HRJ := Lib.hid hrj
  have hkj : k ≤ j := by
    have h1 := skip_len (restB s k)
    rw [← hrj, restB_len, restB_len] at h1
    omega
  obtain ⟨W2, hW2⟩ : ∃ W, ((((w1.setCell ⟨w.heap.size, 0, none⟩ (.string s)).setCell ⟨w.heap.size, 1, none⟩ (.int .i64 (j : Int))).setCell ⟨w.heap.size, 2, none⟩ (.slice ao m cap)).setCell ⟨w.heap.size, 3, none⟩ (.int .i64 0)) = W := ⟨_, rfl⟩
  have HIN2 : Hid (MemIn s w d 7 key j (.slice ao m cap) 0 W2) := by
    rw [← hW2]
    exact hin1.put j (.slice ao m cap) 0
  have HI2 : Hid (ItsFar b W2 (.slice ao m cap) l) := by
    rw [← hW2]
    exact HI1.out.put hin1.p _ _ _ _
  have HEW := Lib.hid hW2
  obtain ⟨p0, p1, p2, p3⟩ := hin1.p.cells
  have f0 := hin1.p.frozen 0
  have f1 := hin1.p.frozen 1
  have f2 := hin1.p.frozen 2
  have f3 := hin1.p.frozen 3
  clear hb1 hrj hin1 hW2 HI1 HIN
  unfold stV
  go_wp2_with fail
  rw [HEW.out]
  clear p0 p1 p2 p3 f0 f1 f2 f3 HEW
  by_cases hsh : (restB s j).head? = some (shutO true)
  · have hst : standsL [shutO true] (restB s j) = true := by rw [stands_sign, hsh]; rfl
    have HST := Lib.hid hst
    have hlt : j < s.size := by
      by_cases h : j < s.size
      · exact h
      · rw [restB_nil s j h] at hsh
        cases hsh
    have HA2 : Hid (A = (0, [], restB s (j + 1))) := by
      show _ = _
      rw [← HA.out]
      unfold membF
      rw [if_pos (by rw [← HRJ.out]; exact hsh), ← HRJ.out, restB_cons s j hlt, okThen_ok]
      rfl
    clear hst hsh HA
    refine (ris_any s j (.slice ao m cap) 0 (shutO true) 125 rfl true HST.out _ hs).mono ?_
    rintro _ w3 ⟨rfl, hb3⟩
    have hin3 := HIN2.out.keep hb3
    have hinX := hin3.move (j + 1) ((j : Int) + 1) (by omega)
    have HIX : Hid (ItsFar b (w3.setCell ⟨w.heap.size, 1, none⟩ (.int .i64 ((j : Int) + 1))) (.slice ao m cap) l) := (HI2.out.keep hb3).boxed hin3.p _ _ rfl
    obtain ⟨p0, p1, p2, p3⟩ := hin3.p.cells
    have f1 := hin3.p.frozen 1
    obtain ⟨q0, q1, q2, q3⟩ := hin3.r.cells
    have g0 := hin3.r.frozen 0
    have g1 := hin3.r.frozen 1
    have g2 := hin3.r.frozen 2
    have g3 := hin3.r.frozen 3
    have HBZ := Lib.hid hin3.b
    have HBX := Lib.hid hinX.b
    have HRX := Lib.hid hinX.r
    clear hb3 hin3 hinX HIN2
    try unfold stV
    go_wp2
    refine bodyPost_ret (v := stV s (j + 1) (.slice ao m cap) 0) (by simp [results, Tryd.results63, go_sem, q0, q1, q2, q3, stV]) rfl ?_
    rw [HA2.out]
    exact ⟨j + 1, ao, m, cap, by omega, rfl, below_put HBX.out (by omega) _ _ _ _, fun _ => ⟨rfl, by rw [List.append_nil]; exact HIX.out.put HRX.out _ _ _ _⟩⟩
  · have hst : standsL [shutO true] (restB s j) = false := by
      rw [stands_sign]
      simpa using hsh
    have HST := Lib.hid hst
    have HA2 : Hid (A = okThen (listF readD f (d + 1) true [] (restB s j)) (fun x r => (0, [] ++ x, r))) := by
      show _ = _
      rw [← HA.out]
      unfold membF
      rw [if_neg (by rw [← HRJ.out]; exact hsh), HRJ.out, listF_skip]
    clear hst hsh HA
    refine (ris_any s j (.slice ao m cap) 0 (shutO true) 125 rfl false HST.out _ hs).mono ?_
    rintro _ w3 ⟨rfl, hb3⟩
    have hin3 := HIN2.out.keep hb3
    have HSTART : Hid (MemW s n b l w d true key A f (.slice none 0 0) w3) := by
      refine ⟨j, ao, m, cap, [], [], [], hin3, by rw [List.append_nil]; exact HI2.out.keep hb3, RowS.nil _ _, (fun ad n c e h => by cases h), hj, by rw [List.append_nil]; omega, Nat.zero_le _, by omega, by omega, (fun _ => rfl), ?_⟩
      rw [HA2.out]
    clear hb3 hin3 HIN2 HI2
    go_wp2
    go_loopg [6] f (fun n6 v6 wr => MemW s n b l w d true key A n6 v6 wr)
    case atStart => exact HSTART.out
    case round =>
    obtain ⟨i, a, m2, c2, acc, ks, kk, hin, hits, hrow, hap, hi, hlen, hkz, hfu, hnn, hkk, hAA⟩ := hrel
    obtain ⟨h, rfl⟩ : ∃ h, gk = h + 1 := ⟨gk - 1, by omega⟩
    have HM := Lib.hid hin
    have HIT := Lib.hid hits
    have HROW := Lib.hid hrow
    have HAP := Lib.hid hap
    have HKK := Lib.hid hkk
    have HKQ := Lib.hid (hkk rfl)
    have HAA := Lib.hid hAA
    have hlz : (l ++ acc).length ≤ 1000000 := by omega
    have hne : l ++ acc ≠ [] := fun e => HL0.out (List.append_eq_nil_iff.1 e).1
    have HNE := Lib.hid hne
    obtain ⟨p0, p1, p2, p3⟩ := hin.p.cells
    obtain ⟨x0, x1, x2, x3, x4⟩ := hin.x.cells
    clear hin hits hrow hap hkk hAA hne HSTART x2 x3 x4 HA2 HST
    obtain ⟨E, u, r4, hq⟩ : ∃ E u r, keyF kk (restB s i) = (E, u, r) := ⟨_, _, _, rfl⟩
    have hkey := rrkey_any s i a m2 c2 u6 ks wr HROW.out.strs (by omega) hi hs kk HKQ.out
    rw [hq] at hkey
    have HKEY := Lib.hid hkey
    have HQ := Lib.hid hq
    clear hkey hq
    go_wp2_with fail
    refine HKEY.out.mono ?_
    rintro _ w4 ⟨j4, hj4, hr4, rfl, hb4⟩
    have hm4 := HM.out.keep hb4
    have HR4 := Lib.hid hr4
    have HI4 := Lib.hid (HIT.out.keep hb4)
    have HRO4 := Lib.hid (HROW.out.keep hb4)
    obtain ⟨U, hU⟩ : ∃ U, bytesOf u = U := ⟨_, rfl⟩
    have hUl : U.data.toList = u := by rw [← hU, list_bytesOf]
    rw [show (E, u, r4).2.1 = u from rfl, hU]
    have HUL := Lib.hid hUl
    clear hr4 HKEY hU hUl x1 p0 p1 p2 p3 HROW HIT
    by_cases hE : E = 0
    · subst hE
      have hrr : restB s j4 = r4 := HR4.out rfl
      have hjl : i + 1 ≤ j4 := by
        have h1 := key_len kk (restB s i) u r4 HQ.out
        rw [← hrr, restB_len, restB_len] at h1
        omega
      have HRR := Lib.hid hrr
      have ha4 := (Below.refl w4.heap.size w4).alloc (Nat.le_refl _) (.cells #[.string s, .int .i64 (j4 : Int), (.slice a m2 c2), .int .i64 0] 76)
      have hm5 := hm4.keep ha4
      have hnb := BoxS.new w4 (.string s) (.int .i64 (j4 : Int)) (.slice a m2 c2) (.int .i64 0)
      obtain ⟨W6, hW6⟩ : ∃ W, (((((w4.alloc (.cells #[.string s, .int .i64 (j4 : Int), (.slice a m2 c2), .int .i64 0] 76)).setCell ⟨w.heap.size, 0, none⟩ (.string s)).setCell ⟨w.heap.size, 1, none⟩ (.int .i64 (j4 : Int))).setCell ⟨w.heap.size, 2, none⟩ (.slice a m2 c2)).setCell ⟨w.heap.size, 3, none⟩ (.int .i64 0)) = W := ⟨_, rfl⟩
      have hm6 : MemIn s w d 7 key j4 (.slice a m2 c2) 0 W6 := by
        rw [← hW6]
        exact hm5.put j4 (.slice a m2 c2) 0
      have hi6 : ItsFar b W6 (.slice a m2 c2) (l ++ acc) := by
        rw [← hW6]
        exact (HI4.out.keep ha4).put hm5.p _ _ _ _
      have hro6 : RowS W6 (w.heap.size + 3) u6 ks := by
        rw [← hW6]
        exact (HRO4.out.keep ha4).put _ (by omega) _ _ _ _
      have hz6 : W6.heap.size = w4.heap.size + 1 := by rw [← hW6]; simp
      have hb6 : w.heap.size + 3 ≤ W6.heap.size := by
        have := hm6.r.lt
        omega
      obtain ⟨v7, w7, hrn, hro7, hg7, hat7⟩ := push_key hro6 hb6 (by omega) U
      have hm7 : MemIn s w d 7 key j4 (.slice a m2 c2) 0 w7 := (hm6.keep ((Below.refl _ _).alloc (Nat.le_refl _) _)).grown hg7 (fun g e => hro6.block g e)
      have hi7 : ItsFar b w7 (.slice a m2 c2) (l ++ acc) := ⟨(hi6.1.keep ((Below.refl _ _).alloc (Nat.le_refl _) _)).grown hg7 (HAP.out), hi6.2⟩
      rw [hz6, ← hW6] at hrn
      have HRN := Lib.hid hrn
      have HM7 := Lib.hid hm7
      have HI7 := Lib.hid hi7
      have HR7 := Lib.hid hro7
      obtain ⟨n0, n1, n2, n3⟩ := hnb.cells
      obtain ⟨p0, p1, p2, p3⟩ := hm5.p.cells
      have f0 := hm5.p.frozen 0
      have f1 := hm5.p.frozen 1
      have f2 := hm5.p.frozen 2
      have f3 := hm5.p.frozen 3
      obtain ⟨x0', x1', x2', x3', x4'⟩ := hm7.x.cells
      obtain ⟨y0, y1, y2, y3⟩ := hm7.p.cells
      have HW6 := Lib.hid hW6
      clear hm4 hm5 hm6 hi6 hro6 hz6 hb6 hrn hg7 hat7 hm7 hi7 hro7 ha4 hnb hW6 hrr HI4 HRO4 HM HR4 x0 x2' x3' x4' x1'
      unfold stV
      obtain ⟨ks7, hks7⟩ : ∃ k, ks ++ [U] = k := ⟨_, rfl⟩
      have HKS7 : Hid (kk ++ [u] = ks7.map (·.data.toList)) := by show _ = _; rw [HKQ.out, ← hks7, List.map_append, ← HUL.out]; rfl
      have hk7 : ks7.length ≤ j4 := by rw [← hks7, List.length_append]; simp; omega
      rw [hks7] at HR7
      have HKE : Hid (keyF kk (restB s i) = (0, u, r4)) := HQ.out
      clear hks7
      go_wp2_with (first | (at_builtin; refine wpList_append_run (by rfl) _ _ 107 (by rfl) (by rfl) (by rfl) HRN.out ?_))
      clear n0 n1 n2 n3 p0 p1 p2 p3 f0 f1 f2 f3 x0' y0 y1 y2 y3 HRN HW6
      obtain ⟨E5, x5, r5, hv⟩ : ∃ E x r, valueF readD h (d + 1) u r4 = (E, x, r) := ⟨_, _, _, rfl⟩
      have hval := HV.out w7 s j4 a m2 c2 (l ++ acc) (d + 1) U h HI7.out.1 hj4 hs (by omega) (by omega) (by omega) (by omega)
      rw [HUL.out, HRR.out, hv] at hval
      unfold itA at hval
      rw [show ((d + 1 : Nat) : Int) = (d : Int) + 1 by omega] at hval
      have HVAL := Lib.hid hval
      have HVF := Lib.hid hv
      have HLT := Lib.hid HR7.out.lt
      clear hval hv
      refine HVAL.out.mono ?_
      rintro r8 w8 ⟨j8, a8, m8, c8, hj8, hre8, hb8, hok8⟩
      have hre8 : r8 = .returned (stV s j8 (.slice a8 m8 c8) E5) := hre8
      subst hre8
      have hok8 : E5 = 0 → restB s j8 = r5 ∧ ItsFar w7.heap.size w8 (.slice a8 m8 c8) (l ++ acc ++ x5) := hok8
      have hm8 := HM7.out.keep hb8
      have hbz7 : b ≤ w7.heap.size := Nat.le_trans hb HM7.out.b.size
      have HR8 := Lib.hid (HR7.out.keep hb8)
      have HOK := Lib.hid hok8
      obtain ⟨p0, p1, p2, p3⟩ := hm8.p.cells
      have f0 := hm8.p.frozen 0
      have f1 := hm8.p.frozen 1
      have f2 := hm8.p.frozen 2
      have f3 := hm8.p.frozen 3
      have HM8 := Lib.hid hm8
      clear hok8 hb8 hm8 HVAL HM7 HI7 HR7
      by_cases hE5 : E5 = 0
      · subst hE5
        obtain ⟨hr8, hi8⟩ := HOK.out rfl
        have hcnt := (value_count readD h).1 (d + 1) u r4 x5 r5 HVF.out
        rw [← HRR.out, ← hr8, restB_len, restB_len] at hcnt
        have hxl : (l ++ acc ++ x5).length ≤ j8 := by rw [List.length_append]; omega
        have HR8' := Lib.hid hr8
        obtain ⟨W9, hW9⟩ : ∃ W, ((((w8.setCell ⟨w.heap.size, 0, none⟩ (.string s)).setCell ⟨w.heap.size, 1, none⟩ (.int .i64 (j8 : Int))).setCell ⟨w.heap.size, 2, none⟩ (.slice a8 m8 c8)).setCell ⟨w.heap.size, 3, none⟩ (.int .i64 0)) = W := ⟨_, rfl⟩
        have HM9 : Hid (MemIn s w d 7 key j8 (.slice a8 m8 c8) 0 W9) := by
          rw [← hW9]
          exact HM8.out.put j8 (.slice a8 m8 c8) 0
        have HI9 : Hid (ItsFar w7.heap.size W9 (.slice a8 m8 c8) (l ++ acc ++ x5)) := by
          rw [← hW9]
          exact hi8.put HM8.out.p _ _ _ _
        have HR9 : Hid (RowS W9 (w.heap.size + 3) v7 ks7) := by
          rw [← hW9]
          exact HR8.out.put _ (by omega) _ _ _ _
        have HW9 := Lib.hid hW9
        clear hr8 hi8 hW9 HOK
        unfold stV
        go_wp2_with fail
        rw [HW9.out]
        clear p0 p1 p2 p3 f0 f1 f2 f3 HW9 HM8 HR8
        refine (rskip_any s j8 a8 m8 c8 0 _ hj8 hs).mono ?_
        rintro _ w10 ⟨j9, hj9, hr9, rfl, hb10⟩
        rw [HR8'.out] at hr9
        have hj89 : j8 ≤ j9 := by
          have h1 := skip_len r5
          rw [← hr9, ← HR8'.out, restB_len, restB_len] at h1
          omega
        have HR9' := Lib.hid hr9
        have hm10 := HM9.out.keep hb10
        obtain ⟨W11, hW11⟩ : ∃ W, ((((w10.setCell ⟨w.heap.size, 0, none⟩ (.string s)).setCell ⟨w.heap.size, 1, none⟩ (.int .i64 (j9 : Int))).setCell ⟨w.heap.size, 2, none⟩ (.slice a8 m8 c8)).setCell ⟨w.heap.size, 3, none⟩ (.int .i64 0)) = W := ⟨_, rfl⟩
        have HM11 : Hid (MemIn s w d 7 key j9 (.slice a8 m8 c8) 0 W11) := by
          rw [← hW11]
          exact hm10.put j9 (.slice a8 m8 c8) 0
        have HI11 : Hid (ItsFar w7.heap.size W11 (.slice a8 m8 c8) (l ++ acc ++ x5)) := by
          rw [← hW11]
          exact (HI9.out.keep hb10).put hm10.p _ _ _ _
        have HR11 : Hid (RowS W11 (w.heap.size + 3) v7 ks7) := by
          rw [← hW11]
          exact (HR9.out.keep hb10).put _ (by omega) _ _ _ _
        have HW11 := Lib.hid hW11
        obtain ⟨p0, p1, p2, p3⟩ := hm10.p.cells
        have f0 := hm10.p.frozen 0
        have f1 := hm10.p.frozen 1
        have f2 := hm10.p.frozen 2
        have f3 := hm10.p.frozen 3
        have HLM := Lib.hid (mem_val h (d + 1) true kk (restB s i) u r4 x5 r5 ((if_pos rfl).trans HKE.out) HVF.out)
        clear hb10 hm10 hW11 hr9 HM9 HI9 HR9
        unfold stV
        go_wp2_with fail
        rw [HW11.out]
        clear p0 p1 p2 p3 f0 f1 f2 f3 HW11
        by_cases hsh : (restB s j9).head? = some (shutO true)
        · have hst : standsL [shutO true] (restB s j9) = true := by rw [stands_sign, hsh]; rfl
          have HST := Lib.hid hst
          have hlt : j9 < s.size := by
            by_cases h : j9 < s.size
            · exact h
            · rw [restB_nil s j9 h] at hsh
              cases hsh
          have HA2 : Hid (A = (0, acc ++ x5, restB s (j9 + 1))) := by
            show _ = _
            rw [← HAA.out, HLM.out, ← HR9'.out, restB_cons s j9 hlt]
            rw [restB_cons s j9 hlt] at hsh
            have hc : s[j9] = shutO true := by simpa using hsh
            simp only [hc, if_true]
            rw [okThen_ok]
          clear hst hsh
          refine (ris_any s j9 (.slice a8 m8 c8) 0 (shutO true) 125 rfl true HST.out _ hs).mono ?_
          rintro _ w12 ⟨rfl, hb12⟩
          have hm12 := HM11.out.keep hb12
          have hmX := hm12.move (j9 + 1) ((j9 : Int) + 1) (by omega)
          have HIX : Hid (ItsFar b (w12.setCell ⟨w.heap.size, 1, none⟩ (.int .i64 ((j9 : Int) + 1))) (.slice a8 m8 c8) (l ++ acc ++ x5)) := ((HI11.out.keep hb12).mono hbz7).boxed hm12.p _ _ rfl
          obtain ⟨p0, p1, p2, p3⟩ := hm12.p.cells
          have f1 := hm12.p.frozen 1
          obtain ⟨q0, q1, q2, q3⟩ := hm12.r.cells
          have g0 := hm12.r.frozen 0
          have g1 := hm12.r.frozen 1
          have g2 := hm12.r.frozen 2
          have g3 := hm12.r.frozen 3
          have HBZ := Lib.hid hm12.b
          have HBX := Lib.hid hmX.b
          have HRX := Lib.hid hmX.r
          clear hb12 hm12 hmX HM11 HI11 HR11
          try unfold stV
          go_wp2
          refine bodyPost_ret (v := stV s (j9 + 1) (.slice a8 m8 c8) 0) (by simp [results, Tryd.results63, go_sem, q0, q1, q2, q3, stV]) rfl ?_
          rw [HA2.out]
          exact ⟨j9 + 1, a8, m8, c8, by omega, rfl, below_put HBX.out (by omega) _ _ _ _, fun _ => ⟨rfl, by rw [← List.append_assoc]; exact HIX.out.put HRX.out _ _ _ _⟩⟩
        · have hst : standsL [shutO true] (restB s j9) = false := by
            rw [stands_sign]
            simpa using hsh
          have HST := Lib.hid hst
          have HSH := Lib.hid hsh
          clear hst hsh
          refine (ris_any s j9 (.slice a8 m8 c8) 0 (shutO true) 125 rfl false HST.out _ hs).mono ?_
          rintro _ w12 ⟨rfl, hb12⟩
          have hm12 := HM11.out.keep hb12
          have HM12 := Lib.hid hm12
          have HI12 := Lib.hid (HI11.out.keep hb12)
          have HR12 := Lib.hid (HR11.out.keep hb12)
          obtain ⟨p0, p1, p2, p3⟩ := hm12.p.cells
          clear hb12 hm12 HM11 HI11 HR11
          by_cases h44 : (restB s j9).head? = some 44
          · have hst : standsL [44] (restB s j9) = true := by rw [stands_sign, h44]; rfl
            have HST4 := Lib.hid hst
            have hlt : j9 < s.size := by
              by_cases h : j9 < s.size
              · exact h
              · rw [restB_nil s j9 h] at h44
                cases h44
            have HA2 : Hid (okThen (listF readD h (d + 1) true (kk ++ [u]) (restB s (j9 + 1))) (fun x r => (0, (acc ++ x5) ++ x, r)) = A) := by
              show _ = _
              rw [← HAA.out, HLM.out, ← HR9'.out, restB_cons s j9 hlt]
              rw [restB_cons s j9 hlt] at h44
              have hc : s[j9] = 44 := by simpa using h44
              simp only [hc]
              rw [if_neg (by decide), if_pos (by decide), okThen_twice]
            clear hst h44
            go_wp2_with fail
            refine (ris_any s j9 (.slice a8 m8 c8) 0 44 44 rfl true HST4.out _ hs).mono ?_
            rintro _ w13 ⟨rfl, hb13⟩
            have hm13 := HM12.out.keep hb13
            have HMX := Lib.hid (hm13.move (j9 + 1) ((j9 : Int) + 1) (by omega))
            have HIX : Hid (ItsFar b (w13.setCell ⟨w.heap.size, 1, none⟩ (.int .i64 ((j9 : Int) + 1))) (.slice a8 m8 c8) (l ++ acc ++ x5)) := ((HI12.out.keep hb13).mono hbz7).boxed hm13.p _ _ rfl
            have HRX : Hid (RowS (w13.setCell ⟨w.heap.size, 1, none⟩ (.int .i64 ((j9 : Int) + 1))) (w.heap.size + 3) v7 ks7) := (HR12.out.keep hb13).other _ _ (by show w.heap.size < w.heap.size + 3; omega)
            have HAPX : Hid (∀ ad n c, (Value.slice a8 m8 c8) = .slice (some ad) n c → v7.ownBlock ≠ some ad.block) := fun ad n c e e2 => by
              have h1 := HI12.out.2 ad n c e
              have h2 := HLT.out _ e2
              omega
            obtain ⟨p0, p1, p2, p3⟩ := hm13.p.cells
            have f1 := hm13.p.frozen 1
            clear hb13 hm13 HM12 HI12 HR12
            go_wp2
            go_roundg h
            case measure => omega
            case rel => exact ⟨j9 + 1, a8, m8, c8, acc ++ x5, ks7, kk ++ [u], HMX.out, by rw [← List.append_assoc]; exact HIX.out, HRX.out, HAPX.out, by omega, by rw [← List.append_assoc]; omega, by omega, by omega, by omega, fun _ => HKS7.out, HA2.out⟩
          · have hst : standsL [44] (restB s j9) = false := by
              rw [stands_sign]
              simpa using h44
            have HST4 := Lib.hid hst
            have HA2 : Hid (A = (80, [], [])) := by
              show _ = _
              rw [← HAA.out, HLM.out, ← HR9'.out]
              by_cases hlt : j9 < s.size
              · have hsh := HSH.out
                rw [restB_cons s j9 hlt] at h44 hsh ⊢
                have c1 : ¬ s[j9] = shutO true := fun e => hsh (by rw [e]; rfl)
                have c2 : ¬ s[j9].toNat = 44 := fun e => h44 (by show some s[j9] = some 44; rw [show s[j9] = 44 from UInt8.toNat.inj e])
                simp only [c1, c2, if_false]
                rw [okThen_err 80 (by decide)]
              · rw [restB_nil s j9 hlt, okThen_err 80 (by decide)]
            clear hst h44
            go_wp2_with fail
            refine (ris_any s j9 (.slice a8 m8 c8) 0 44 44 rfl false HST4.out _ hs).mono ?_
            rintro _ w13 ⟨rfl, hb13⟩
            have hm13 := HM12.out.keep hb13
            have HM13 := Lib.hid hm13
            obtain ⟨p0, p1, p2, p3⟩ := hm13.p.cells
            clear hb13 hm13 HM12 HI12 HR12
            go_wp2_with fail
            refine (ramiss_any s j9 a8 m8 c8 0 80 _).mono ?_
            rintro _ wz ⟨rfl, hbz⟩
            have hmz := HM13.out.keep hbz
            clear hbz
            obtain ⟨q0, q1, q2, q3⟩ := hmz.r.cells
            have g0 := hmz.r.frozen 0
            have g1 := hmz.r.frozen 1
            have g2 := hmz.r.frozen 2
            have g3 := hmz.r.frozen 3
            have HBZ := Lib.hid hmz.b
            try unfold stV
            go_wp2
            refine bodyPost_ret (v := stV s j9 (.slice a8 m8 c8) 80) (by simp [results, Tryd.results63, go_sem, q0, q1, q2, q3, stV]) rfl ?_
            rw [HA2.out]
            exact ⟨j9, a8, m8, c8, hj9, rfl, below_put HBZ.out (by omega) _ _ _ _, fun h => by cases h⟩
      · have z1 : ((E5 : Int) == 0) = false := by rw [beq_eq_false_iff_ne]; omega
        have z2 : ((E5 : Int) != 0) = true := by simp; omega
        have z3 : ¬ (E5 : Int) = 0 := by omega
        have HNE5 := Lib.hid hE5
        have HA2 : Hid (A = (E5, [], [])) := by
          show _ = _
          rw [← HAA.out, mem_val_err h (d + 1) true kk (restB s i) u r4 E5 x5 r5 ((if_pos rfl).trans HKE.out) HVF.out hE5, okThen_err E5 hE5]
        have hmX := HM8.out.put j8 (.slice a8 m8 c8) (E5 : Int)
        obtain ⟨q0, q1, q2, q3⟩ := HM8.out.r.cells
        have g0 := HM8.out.r.frozen 0
        have g1 := HM8.out.r.frozen 1
        have g2 := HM8.out.r.frozen 2
        have g3 := HM8.out.r.frozen 3
        have HBZ := Lib.hid HM8.out.b
        have HBX := Lib.hid hmX.b
        clear hE5 hmX HM8 HR8 HOK
        try unfold stV
        go_wp2
        refine bodyPost_ret (v := stV s j8 (.slice a8 m8 c8) E5) (by simp [results, Tryd.results63, go_sem, q0, q1, q2, q3, stV]) rfl ?_
        rw [HA2.out]
        exact ⟨j8, a8, m8, c8, hj8, rfl, below_put HBX.out (by omega) _ _ _ _, fun h => absurd h HNE5.out⟩
    · have z1 : ((E : Int) == 0) = false := by rw [beq_eq_false_iff_ne]; omega
      have z2 : ((E : Int) != 0) = true := by simp; omega
      have z3 : ¬ (E : Int) = 0 := by omega
      have HNE0 := Lib.hid hE
      have HA2 : Hid (A = (E, [], [])) := by
        show _ = _
        rw [← HAA.out, mem_key_err h (d + 1) kk (restB s i) E u r4 HQ.out hE, okThen_err E hE]
      have hm5 := hm4.keep ((Below.refl w4.heap.size w4).alloc (Nat.le_refl _) (.cells #[.string s, .int .i64 (j4 : Int), (.slice a m2 c2), .int .i64 (E : Int)] 76))
      have hnb := BoxS.new w4 (.string s) (.int .i64 (j4 : Int)) (.slice a m2 c2) (.int .i64 (E : Int))
      obtain ⟨n0, n1, n2, n3⟩ := hnb.cells
      obtain ⟨q0, q1, q2, q3⟩ := hm5.r.cells
      have g0 := hm5.r.frozen 0
      have g1 := hm5.r.frozen 1
      have g2 := hm5.r.frozen 2
      have g3 := hm5.r.frozen 3
      have HBZ := Lib.hid hm5.b
      have HBX := Lib.hid hm5.b
      clear hE hm4 hm5 hnb HM HR4 HI4 HRO4
      try unfold stV
      go_wp2
      refine bodyPost_ret (v := stV s j4 (.slice a m2 c2) E) (by simp [results, Tryd.results63, go_sem, q0, q1, q2, q3, stV]) rfl ?_
      rw [HA2.out]
      exact ⟨j4, a, m2, c2, hj4, rfl, below_put HBX.out (by omega) _ _ _ _, fun h => absurd h HNE0.out⟩
set_option maxRecDepth 100000 in
set_option maxHeartbeats 12800000 in
theorem rmembers_false {n : Nat} (IH : RValueOk n) (s : ByteArray) (k : Nat) (ao : Option Addr) (m cap : Nat) (l : List It) (b : Nat) (w : World) (hI : ItsFar b w (.slice ao m cap) l) (hb : b ≤ w.heap.size) (hl0 : l ≠ []) (hk : k ≤ s.size) (hs : s.size ≤ 1000000) (hl : l.length ≤ k) (d : Nat) (hd : d < 64) (key : ByteArray) (hn : s.size - k ≤ n) (f : Nat) (hf : 2 * (s.size - k) + 2 ≤ f) :
    Calls Tryd.prog 63 #[stV s k (.slice ao m cap) 0, itA d 6 key ByteArray.empty 0] w fun r w' => RTells s b l w (membF readD f (d + 1) false (restB s k)) r w' := by
  obtain ⟨A, hA⟩ : ∃ A, okThen (membF readD f (d + 1) false (restB s k)) (fun x r => (0, [] ++ x, r)) = A := ⟨_, rfl⟩
  suffices hT : Calls Tryd.prog 63 #[stV s k (.slice ao m cap) 0, itA d 6 key ByteArray.empty 0] w (fun r w' => RTells s b l w A r w') from hT.mono (fun r w' h => by rw [← hA] at h; exact h.of_then)
  obtain ⟨W, hW⟩ : ∃ W, ((w.alloc (.cells #[.string s, .int .i64 (k : Int), .slice ao m cap, .int .i64 0] 76)).alloc (.cells #[.int .i64 (d : Int), .int .i64 6, .string key, .string ByteArray.empty, .int .i64 0] 46)).alloc (.cells #[.string ⟨#[]⟩, .int .i64 0, .slice none 0 0, .int .i64 0] 76) = W := ⟨_, rfl⟩
  have hin : MemIn s w d 6 key k (.slice ao m cap) 0 W := by
    rw [← hW]
    refine ⟨(BoxS.new w _ _ _ _).keep (((Below.refl _ _).alloc (Nat.le_refl _) _).alloc (by simp) _), ?_, ?_, (((Below.refl _ _).alloc (Nat.le_refl _) _).alloc (by simp) _).alloc (by simp; omega) _⟩
    · have e := BoxR.new (w.alloc (.cells #[.string s, .int .i64 (k : Int), .slice ao m cap, .int .i64 0] 76)) (.int .i64 (d : Int)) (.int .i64 6) (.string key) (.string ByteArray.empty) (.int .i64 0)
      rw [show (w.alloc (.cells #[.string s, .int .i64 (k : Int), .slice ao m cap, .int .i64 0] 76)).heap.size = w.heap.size + 1 by simp] at e
      exact e.keep ((Below.refl _ _).alloc (Nat.le_refl _) _)
    · have e := BoxS.new ((w.alloc (.cells #[.string s, .int .i64 (k : Int), .slice ao m cap, .int .i64 0] 76)).alloc (.cells #[.int .i64 (d : Int), .int .i64 6, .string key, .string ByteArray.empty, .int .i64 0] 46)) (.string ⟨#[]⟩) (.int .i64 0) (.slice none 0 0) (.int .i64 0)
      rw [show ((w.alloc (.cells #[.string s, .int .i64 (k : Int), .slice ao m cap, .int .i64 0] 76)).alloc (.cells #[.int .i64 (d : Int), .int .i64 6, .string key, .string ByteArray.empty, .int .i64 0] 46)).heap.size = w.heap.size + 1 + 1 by simp] at e
      exact e
  have HI := Lib.hid hI
  have HIN := Lib.hid hin
  have HW := Lib.hid hW
  have HA := Lib.hid hA
  have HV := Lib.hid IH
  have HL0 := Lib.hid hl0
  obtain ⟨x0, x1, x2, x3, x4⟩ := hin.x.cells
  clear hI hin hW hA IH hl0
  unfold stV itA
  go_enter Tryd.func63, Tryd.ntmps63
  go_wp2_with fail
  rw [HW.out]
  clear x0 x1 x2 x3 x4
  refine (rskip_any s k ao m cap 0 _ hk hs).mono ?_
  rintro _ w1 ⟨j, hj, hrj, rfl, hb1⟩
  have hin1 := HIN.out.keep hb1
  have HI1 := Lib.hid (HI.out.keep hin1.b)
  have HRJ := Lib.hid hrj
  have hkj : k ≤ j := by
    have h1 := skip_len (restB s k)
    rw [← hrj, restB_len, restB_len] at h1
    omega
  obtain ⟨W2, hW2⟩ : ∃ W, ((((w1.setCell ⟨w.heap.size, 0, none⟩ (.string s)).setCell ⟨w.heap.size, 1, none⟩ (.int .i64 (j : Int))).setCell ⟨w.heap.size, 2, none⟩ (.slice ao m cap)).setCell ⟨w.heap.size, 3, none⟩ (.int .i64 0)) = W := ⟨_, rfl⟩
  have HIN2 : Hid (MemIn s w d 6 key j (.slice ao m cap) 0 W2) := by
    rw [← hW2]
    exact hin1.put j (.slice ao m cap) 0
  have HI2 : Hid (ItsFar b W2 (.slice ao m cap) l) := by
    rw [← hW2]
    exact HI1.out.put hin1.p _ _ _ _
  have HEW := Lib.hid hW2
  obtain ⟨p0, p1, p2, p3⟩ := hin1.p.cells
  have f0 := hin1.p.frozen 0
  have f1 := hin1.p.frozen 1
  have f2 := hin1.p.frozen 2
  have f3 := hin1.p.frozen 3
  clear hb1 hrj hin1 hW2 HI1 HIN
  unfold stV
  go_wp2_with fail
  rw [HEW.out]
  clear p0 p1 p2 p3 f0 f1 f2 f3 HEW
  by_cases hsh : (restB s j).head? = some (shutO false)
  · have hst : standsL [shutO false] (restB s j) = true := by rw [stands_sign, hsh]; rfl
    have HST := Lib.hid hst
    have hlt : j < s.size := by
      by_cases h : j < s.size
      · exact h
      · rw [restB_nil s j h] at hsh
        cases hsh
    have HA2 : Hid (A = (0, [], restB s (j + 1))) := by
      show _ = _
      rw [← HA.out]
      unfold membF
      rw [if_pos (by rw [← HRJ.out]; exact hsh), ← HRJ.out, restB_cons s j hlt, okThen_ok]
      rfl
    clear hst hsh HA
    refine (ris_any s j (.slice ao m cap) 0 (shutO false) 93 rfl true HST.out _ hs).mono ?_
    rintro _ w3 ⟨rfl, hb3⟩
    have hin3 := HIN2.out.keep hb3
    have hinX := hin3.move (j + 1) ((j : Int) + 1) (by omega)
    have HIX : Hid (ItsFar b (w3.setCell ⟨w.heap.size, 1, none⟩ (.int .i64 ((j : Int) + 1))) (.slice ao m cap) l) := (HI2.out.keep hb3).boxed hin3.p _ _ rfl
    obtain ⟨p0, p1, p2, p3⟩ := hin3.p.cells
    have f1 := hin3.p.frozen 1
    obtain ⟨q0, q1, q2, q3⟩ := hin3.r.cells
    have g0 := hin3.r.frozen 0
    have g1 := hin3.r.frozen 1
    have g2 := hin3.r.frozen 2
    have g3 := hin3.r.frozen 3
    have HBZ := Lib.hid hin3.b
    have HBX := Lib.hid hinX.b
    have HRX := Lib.hid hinX.r
    clear hb3 hin3 hinX HIN2
    try unfold stV
    go_wp2
    refine bodyPost_ret (v := stV s (j + 1) (.slice ao m cap) 0) (by simp [results, Tryd.results63, go_sem, q0, q1, q2, q3, stV]) rfl ?_
    rw [HA2.out]
    exact ⟨j + 1, ao, m, cap, by omega, rfl, below_put HBX.out (by omega) _ _ _ _, fun _ => ⟨rfl, by rw [List.append_nil]; exact HIX.out.put HRX.out _ _ _ _⟩⟩
  · have hst : standsL [shutO false] (restB s j) = false := by
      rw [stands_sign]
      simpa using hsh
    have HST := Lib.hid hst
    have HA2 : Hid (A = okThen (listF readD f (d + 1) false [] (restB s j)) (fun x r => (0, [] ++ x, r))) := by
      show _ = _
      rw [← HA.out]
      unfold membF
      rw [if_neg (by rw [← HRJ.out]; exact hsh), HRJ.out, listF_skip]
    clear hst hsh HA
    refine (ris_any s j (.slice ao m cap) 0 (shutO false) 93 rfl false HST.out _ hs).mono ?_
    rintro _ w3 ⟨rfl, hb3⟩
    have hin3 := HIN2.out.keep hb3
    have HSTART : Hid (MemW s n b l w d false key A f (.slice none 0 0) w3) := by
      refine ⟨j, ao, m, cap, [], [], [], hin3, by rw [List.append_nil]; exact HI2.out.keep hb3, RowS.nil _ _, (fun ad n c e h => by cases h), hj, by rw [List.append_nil]; omega, Nat.zero_le _, by omega, by omega, (fun _ => rfl), ?_⟩
      rw [HA2.out]
    clear hb3 hin3 HIN2 HI2
    go_wp2
    go_loopg [6] f (fun n6 v6 wr => MemW s n b l w d false key A n6 v6 wr)
    case atStart => exact HSTART.out
    case round =>
    obtain ⟨i, a, m2, c2, acc, ks, kk, hin, hits, hrow, hap, hi, hlen, hkz, hfu, hnn, hkk, hAA⟩ := hrel
    obtain ⟨h, rfl⟩ : ∃ h, gk = h + 1 := ⟨gk - 1, by omega⟩
    have HM := Lib.hid hin
    have HIT := Lib.hid hits
    have HROW := Lib.hid hrow
    have HAP := Lib.hid hap
    have HKK := Lib.hid hkk
    skip
    have HAA := Lib.hid hAA
    have hlz : (l ++ acc).length ≤ 1000000 := by omega
    have hne : l ++ acc ≠ [] := fun e => HL0.out (List.append_eq_nil_iff.1 e).1
    have HNE := Lib.hid hne
    obtain ⟨p0, p1, p2, p3⟩ := hin.p.cells
    obtain ⟨x0, x1, x2, x3, x4⟩ := hin.x.cells
    clear hin hits hrow hap hkk hAA hne HSTART x2 x3 x4 HA2 HST
    have HUL : Hid (ByteArray.empty.data.toList = ([] : List UInt8)) := rfl
    have HM7 := Lib.hid HM.out
    have HI7 := Lib.hid HIT.out
    have HR7 := Lib.hid HROW.out
    clear HM HIT HROW
    obtain ⟨E5, x5, r5, hv⟩ : ∃ E x r, valueF readD h (d + 1) ([] : List UInt8) (restB s i) = (E, x, r) := ⟨_, _, _, rfl⟩
    have hval := HV.out wr s i a m2 c2 (l ++ acc) (d + 1) ByteArray.empty h HI7.out.1 hi hs (by omega) (by omega) (by omega) (by omega)
    rw [HUL.out, hv] at hval
    unfold itA at hval
    rw [show ((d + 1 : Nat) : Int) = (d : Int) + 1 by omega] at hval
    have HVAL := Lib.hid hval
    have HVF := Lib.hid hv
    have HLT := Lib.hid HR7.out.lt
    clear hval hv
    go_wp2_with fail
    clear p0 p1 p2 p3 x0 x1
    refine HVAL.out.mono ?_
    rintro r8 w8 ⟨j8, a8, m8, c8, hj8, hre8, hb8, hok8⟩
    have hre8 : r8 = .returned (stV s j8 (.slice a8 m8 c8) E5) := hre8
    subst hre8
    have hok8 : E5 = 0 → restB s j8 = r5 ∧ ItsFar wr.heap.size w8 (.slice a8 m8 c8) (l ++ acc ++ x5) := hok8
    have hm8 := HM7.out.keep hb8
    have hbz7 : b ≤ wr.heap.size := Nat.le_trans hb HM7.out.b.size
    have HR8 := Lib.hid (HR7.out.keep hb8)
    have HOK := Lib.hid hok8
    obtain ⟨p0, p1, p2, p3⟩ := hm8.p.cells
    have f0 := hm8.p.frozen 0
    have f1 := hm8.p.frozen 1
    have f2 := hm8.p.frozen 2
    have f3 := hm8.p.frozen 3
    have HM8 := Lib.hid hm8
    clear hok8 hb8 hm8 HVAL HM7 HI7 HR7
    by_cases hE5 : E5 = 0
    · subst hE5
      obtain ⟨hr8, hi8⟩ := HOK.out rfl
      have hcnt := (value_count readD h).1 (d + 1) ([] : List UInt8) (restB s i) x5 r5 HVF.out
      rw [← hr8, restB_len, restB_len] at hcnt
      have hxl : (l ++ acc ++ x5).length ≤ j8 := by rw [List.length_append]; omega
      have HR8' := Lib.hid hr8
      obtain ⟨W9, hW9⟩ : ∃ W, ((((w8.setCell ⟨w.heap.size, 0, none⟩ (.string s)).setCell ⟨w.heap.size, 1, none⟩ (.int .i64 (j8 : Int))).setCell ⟨w.heap.size, 2, none⟩ (.slice a8 m8 c8)).setCell ⟨w.heap.size, 3, none⟩ (.int .i64 0)) = W := ⟨_, rfl⟩
      have HM9 : Hid (MemIn s w d 6 key j8 (.slice a8 m8 c8) 0 W9) := by
        rw [← hW9]
        exact HM8.out.put j8 (.slice a8 m8 c8) 0
      have HI9 : Hid (ItsFar wr.heap.size W9 (.slice a8 m8 c8) (l ++ acc ++ x5)) := by
        rw [← hW9]
        exact hi8.put HM8.out.p _ _ _ _
      have HR9 : Hid (RowS W9 (w.heap.size + 3) u6 ks) := by
        rw [← hW9]
        exact HR8.out.put _ (by omega) _ _ _ _
      have HW9 := Lib.hid hW9
      clear hr8 hi8 hW9 HOK
      unfold stV
      go_wp2_with fail
      rw [HW9.out]
      clear p0 p1 p2 p3 f0 f1 f2 f3 HW9 HM8 HR8
      refine (rskip_any s j8 a8 m8 c8 0 _ hj8 hs).mono ?_
      rintro _ w10 ⟨j9, hj9, hr9, rfl, hb10⟩
      rw [HR8'.out] at hr9
      have hj89 : j8 ≤ j9 := by
        have h1 := skip_len r5
        rw [← hr9, ← HR8'.out, restB_len, restB_len] at h1
        omega
      have HR9' := Lib.hid hr9
      have hm10 := HM9.out.keep hb10
      obtain ⟨W11, hW11⟩ : ∃ W, ((((w10.setCell ⟨w.heap.size, 0, none⟩ (.string s)).setCell ⟨w.heap.size, 1, none⟩ (.int .i64 (j9 : Int))).setCell ⟨w.heap.size, 2, none⟩ (.slice a8 m8 c8)).setCell ⟨w.heap.size, 3, none⟩ (.int .i64 0)) = W := ⟨_, rfl⟩
      have HM11 : Hid (MemIn s w d 6 key j9 (.slice a8 m8 c8) 0 W11) := by
        rw [← hW11]
        exact hm10.put j9 (.slice a8 m8 c8) 0
      have HI11 : Hid (ItsFar wr.heap.size W11 (.slice a8 m8 c8) (l ++ acc ++ x5)) := by
        rw [← hW11]
        exact (HI9.out.keep hb10).put hm10.p _ _ _ _
      have HR11 : Hid (RowS W11 (w.heap.size + 3) u6 ks) := by
        rw [← hW11]
        exact (HR9.out.keep hb10).put _ (by omega) _ _ _ _
      have HW11 := Lib.hid hW11
      obtain ⟨p0, p1, p2, p3⟩ := hm10.p.cells
      have f0 := hm10.p.frozen 0
      have f1 := hm10.p.frozen 1
      have f2 := hm10.p.frozen 2
      have f3 := hm10.p.frozen 3
      have HLM := Lib.hid (mem_val h (d + 1) false kk (restB s i) ([] : List UInt8) (restB s i) x5 r5 (if_neg (by simp)) HVF.out)
      clear hb10 hm10 hW11 hr9 HM9 HI9 HR9
      unfold stV
      go_wp2_with fail
      rw [HW11.out]
      clear p0 p1 p2 p3 f0 f1 f2 f3 HW11
      by_cases hsh : (restB s j9).head? = some (shutO false)
      · have hst : standsL [shutO false] (restB s j9) = true := by rw [stands_sign, hsh]; rfl
        have HST := Lib.hid hst
        have hlt : j9 < s.size := by
          by_cases h : j9 < s.size
          · exact h
          · rw [restB_nil s j9 h] at hsh
            cases hsh
        have HA2 : Hid (A = (0, acc ++ x5, restB s (j9 + 1))) := by
          show _ = _
          rw [← HAA.out, HLM.out, ← HR9'.out, restB_cons s j9 hlt]
          rw [restB_cons s j9 hlt] at hsh
          have hc : s[j9] = shutO false := by simpa using hsh
          simp only [hc, if_true]
          rw [okThen_ok]
        clear hst hsh
        refine (ris_any s j9 (.slice a8 m8 c8) 0 (shutO false) 93 rfl true HST.out _ hs).mono ?_
        rintro _ w12 ⟨rfl, hb12⟩
        have hm12 := HM11.out.keep hb12
        have hmX := hm12.move (j9 + 1) ((j9 : Int) + 1) (by omega)
        have HIX : Hid (ItsFar b (w12.setCell ⟨w.heap.size, 1, none⟩ (.int .i64 ((j9 : Int) + 1))) (.slice a8 m8 c8) (l ++ acc ++ x5)) := ((HI11.out.keep hb12).mono hbz7).boxed hm12.p _ _ rfl
        obtain ⟨p0, p1, p2, p3⟩ := hm12.p.cells
        have f1 := hm12.p.frozen 1
        obtain ⟨q0, q1, q2, q3⟩ := hm12.r.cells
        have g0 := hm12.r.frozen 0
        have g1 := hm12.r.frozen 1
        have g2 := hm12.r.frozen 2
        have g3 := hm12.r.frozen 3
        have HBZ := Lib.hid hm12.b
        have HBX := Lib.hid hmX.b
        have HRX := Lib.hid hmX.r
        clear hb12 hm12 hmX HM11 HI11 HR11
        try unfold stV
        go_wp2
        refine bodyPost_ret (v := stV s (j9 + 1) (.slice a8 m8 c8) 0) (by simp [results, Tryd.results63, go_sem, q0, q1, q2, q3, stV]) rfl ?_
        rw [HA2.out]
        exact ⟨j9 + 1, a8, m8, c8, by omega, rfl, below_put HBX.out (by omega) _ _ _ _, fun _ => ⟨rfl, by rw [← List.append_assoc]; exact HIX.out.put HRX.out _ _ _ _⟩⟩
      · have hst : standsL [shutO false] (restB s j9) = false := by
          rw [stands_sign]
          simpa using hsh
        have HST := Lib.hid hst
        have HSH := Lib.hid hsh
        clear hst hsh
        refine (ris_any s j9 (.slice a8 m8 c8) 0 (shutO false) 93 rfl false HST.out _ hs).mono ?_
        rintro _ w12 ⟨rfl, hb12⟩
        have hm12 := HM11.out.keep hb12
        have HM12 := Lib.hid hm12
        have HI12 := Lib.hid (HI11.out.keep hb12)
        have HR12 := Lib.hid (HR11.out.keep hb12)
        obtain ⟨p0, p1, p2, p3⟩ := hm12.p.cells
        clear hb12 hm12 HM11 HI11 HR11
        by_cases h44 : (restB s j9).head? = some 44
        · have hst : standsL [44] (restB s j9) = true := by rw [stands_sign, h44]; rfl
          have HST4 := Lib.hid hst
          have hlt : j9 < s.size := by
            by_cases h : j9 < s.size
            · exact h
            · rw [restB_nil s j9 h] at h44
              cases h44
          have HA2 : Hid (okThen (listF readD h (d + 1) false (kk ++ [([] : List UInt8)]) (restB s (j9 + 1))) (fun x r => (0, (acc ++ x5) ++ x, r)) = A) := by
            show _ = _
            rw [← HAA.out, HLM.out, ← HR9'.out, restB_cons s j9 hlt]
            rw [restB_cons s j9 hlt] at h44
            have hc : s[j9] = 44 := by simpa using h44
            simp only [hc]
            rw [if_neg (by decide), if_pos (by decide), okThen_twice]
          clear hst h44
          go_wp2_with fail
          refine (ris_any s j9 (.slice a8 m8 c8) 0 44 44 rfl true HST4.out _ hs).mono ?_
          rintro _ w13 ⟨rfl, hb13⟩
          have hm13 := HM12.out.keep hb13
          have HMX := Lib.hid (hm13.move (j9 + 1) ((j9 : Int) + 1) (by omega))
          have HIX : Hid (ItsFar b (w13.setCell ⟨w.heap.size, 1, none⟩ (.int .i64 ((j9 : Int) + 1))) (.slice a8 m8 c8) (l ++ acc ++ x5)) := ((HI12.out.keep hb13).mono hbz7).boxed hm13.p _ _ rfl
          have HRX : Hid (RowS (w13.setCell ⟨w.heap.size, 1, none⟩ (.int .i64 ((j9 : Int) + 1))) (w.heap.size + 3) u6 ks) := (HR12.out.keep hb13).other _ _ (by show w.heap.size < w.heap.size + 3; omega)
          have HAPX : Hid (∀ ad n c, (Value.slice a8 m8 c8) = .slice (some ad) n c → u6.ownBlock ≠ some ad.block) := fun ad n c e e2 => by
            have h1 := HI12.out.2 ad n c e
            have h2 := HLT.out _ e2
            omega
          obtain ⟨p0, p1, p2, p3⟩ := hm13.p.cells
          have f1 := hm13.p.frozen 1
          clear hb13 hm13 HM12 HI12 HR12
          go_wp2
          go_roundg h
          case measure => omega
          case rel => exact ⟨j9 + 1, a8, m8, c8, acc ++ x5, ks, kk ++ [([] : List UInt8)], HMX.out, by rw [← List.append_assoc]; exact HIX.out, HRX.out, HAPX.out, by omega, by rw [← List.append_assoc]; omega, by omega, by omega, by omega, (fun h => by cases h), HA2.out⟩
        · have hst : standsL [44] (restB s j9) = false := by
            rw [stands_sign]
            simpa using h44
          have HST4 := Lib.hid hst
          have HA2 : Hid (A = (80, [], [])) := by
            show _ = _
            rw [← HAA.out, HLM.out, ← HR9'.out]
            by_cases hlt : j9 < s.size
            · have hsh := HSH.out
              rw [restB_cons s j9 hlt] at h44 hsh ⊢
              have c1 : ¬ s[j9] = shutO false := fun e => hsh (by rw [e]; rfl)
              have c2 : ¬ s[j9].toNat = 44 := fun e => h44 (by show some s[j9] = some 44; rw [show s[j9] = 44 from UInt8.toNat.inj e])
              simp only [c1, c2, if_false]
              rw [okThen_err 80 (by decide)]
            · rw [restB_nil s j9 hlt, okThen_err 80 (by decide)]
          clear hst h44
          go_wp2_with fail
          refine (ris_any s j9 (.slice a8 m8 c8) 0 44 44 rfl false HST4.out _ hs).mono ?_
          rintro _ w13 ⟨rfl, hb13⟩
          have hm13 := HM12.out.keep hb13
          have HM13 := Lib.hid hm13
          obtain ⟨p0, p1, p2, p3⟩ := hm13.p.cells
          clear hb13 hm13 HM12 HI12 HR12
          go_wp2_with fail
          refine (ramiss_any s j9 a8 m8 c8 0 80 _).mono ?_
          rintro _ wz ⟨rfl, hbz⟩
          have hmz := HM13.out.keep hbz
          clear hbz
          obtain ⟨q0, q1, q2, q3⟩ := hmz.r.cells
          have g0 := hmz.r.frozen 0
          have g1 := hmz.r.frozen 1
          have g2 := hmz.r.frozen 2
          have g3 := hmz.r.frozen 3
          have HBZ := Lib.hid hmz.b
          try unfold stV
          go_wp2
          refine bodyPost_ret (v := stV s j9 (.slice a8 m8 c8) 80) (by simp [results, Tryd.results63, go_sem, q0, q1, q2, q3, stV]) rfl ?_
          rw [HA2.out]
          exact ⟨j9, a8, m8, c8, hj9, rfl, below_put HBZ.out (by omega) _ _ _ _, fun h => by cases h⟩
    · have z1 : ((E5 : Int) == 0) = false := by rw [beq_eq_false_iff_ne]; omega
      have z2 : ((E5 : Int) != 0) = true := by simp; omega
      have z3 : ¬ (E5 : Int) = 0 := by omega
      have HNE5 := Lib.hid hE5
      have HA2 : Hid (A = (E5, [], [])) := by
        show _ = _
        rw [← HAA.out, mem_val_err h (d + 1) false kk (restB s i) ([] : List UInt8) (restB s i) E5 x5 r5 (if_neg (by simp)) HVF.out hE5, okThen_err E5 hE5]
      have hmX := HM8.out.put j8 (.slice a8 m8 c8) (E5 : Int)
      obtain ⟨q0, q1, q2, q3⟩ := HM8.out.r.cells
      have g0 := HM8.out.r.frozen 0
      have g1 := HM8.out.r.frozen 1
      have g2 := HM8.out.r.frozen 2
      have g3 := HM8.out.r.frozen 3
      have HBZ := Lib.hid HM8.out.b
      have HBX := Lib.hid hmX.b
      clear hE5 hmX HM8 HR8 HOK
      try unfold stV
      go_wp2
      refine bodyPost_ret (v := stV s j8 (.slice a8 m8 c8) E5) (by simp [results, Tryd.results63, go_sem, q0, q1, q2, q3, stV]) rfl ?_
      rw [HA2.out]
      exact ⟨j8, a8, m8, c8, hj8, rfl, below_put HBX.out (by omega) _ _ _ _, fun h => absurd h HNE5.out⟩
end Go.Proofs.YtmnigdcgdebgoaaDoor
