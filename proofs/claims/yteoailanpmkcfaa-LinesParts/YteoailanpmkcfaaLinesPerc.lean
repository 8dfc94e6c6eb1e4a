/-
  The document's own Percent (package cracknelref06): its contract.
-/
import Derived.Test.YteoailanpmkcfaaLinesUnpct
import Derived.Deep.RegionHeld3
import Derived.Deep.AppendLies
import Derived.IntWalk
namespace Go.Proofs.Yteoailanpmkcfaa
open Go.RowKit
set_option linter.unusedVariables false

/-- append of three bytes, in a region that draws. -/
theorem step_push3 {w : World} {ops : Array Oper} {o : Oper} {a : Act} {K : Act → World → Prop} {Q : Exit → Act → World → Prop} {E : Prop} (hgd : o.guard = none) (s x : Operand)
    (ho : o.op = .call { callee := .builtin .append, args := #[s, x], argTypes := #[39, 39] }) {base : Nat} {v : Value} {l : List UInt8} (hown : RowB w base v l) {c0 c1 c2 : UInt8} {i0 i1 i2 : Int} (h0 : i0 = (c0.toNat : Int)) (h1 : i1 = (c1.toNat : Int)) (h2 : i2 = (c2.toNat : Int))
    (hs : a.eval s = v) (hx : a.eval x = .slice (some ⟨w.heap.size, 0, none⟩) 3 3) (hl : l.length + 3 ≤ 140737488355328) (hbase : base ≤ w.heap.size)
    (h : ∀ v' w', RowB w' base v' (l ++ [c0, c1, c2]) → (∀ B a0, Below B a0 w → B ≤ base → Below B a0 w') → base ≤ w'.heap.size → K (a.put o.dst v') w') :
    if Region.wanted o (yielded ops a.tmps) = true then Oper.wp Try.prog o a (w.alloc (.cells #[.int .u8 i0, .int .u8 i1, .int .u8 i2] 5)) K Q else E := by
  subst h0 h1 h2
  obtain ⟨i0, hi, hz0, hz1, hz2⟩ := info_parts Try.infoU8
  refine step_append_lies (P := Try.prog) _ hgd s x 39 ho base 5 i0 (.int .u8 0) 1 1 Try.underlying39 hi hz0 hz1 hz2 rfl (by decide) v l.length (u8s l) hs (hown.alloc _) ⟨w.heap.size, 0, none⟩ 3 3 [.int .u8 (c0.toNat : Int), .int .u8 (c1.toNat : Int), .int .u8 (c2.toNat : Int)] hx rfl ?_ ?_ (by decide) ?_ ?_ ?_ _ rfl ?_
  · intro j u hj
    match j, hj with
    | 0, hj => simp at hj; subst hj; simp [Addr.add]
    | 1, hj => simp at hj; subst hj; simp [Addr.add]
    | 2, hj => simp at hj; subst hj; simp [Addr.add]
  · intro u hu
    simp at hu
    rcases hu with rfl | rfl | rfl <;> rfl
  · unfold maxLen; omega
  · omega
  · simp; omega
  · intro g cap w' hown' hgrow _ _
    refine h _ w' ?_ ?_ ?_
    · show w'.ownsRow base 5 1 _ (l ++ [c0, c1, c2]).length (u8s (l ++ [c0, c1, c2]))
      rw [List.length_append]
      have e : u8s (l ++ [c0, c1, c2]) = u8s l ++ [.int .u8 (c0.toNat : Int), .int .u8 (c1.toNat : Int), .int .u8 (c2.toNat : Int)] := by simp [u8s]
      rw [e]
      exact hown'
    · intro B a0 hB hle
      refine (hB.alloc (by omega) _).grown hgrow (by simp; omega) (fun k hk => ?_)
      have := hown.block k hk
      omega
    · have := hgrow.size
      simp at this
      omega

/-- What Percent holds at place k. -/
def PctAt (s : ByteArray) (g : Nat) (w0 : World) (out i : Value) (wr : World) : Prop :=
  ∃ k : Nat, k ≤ s.size ∧ i = .int .i64 (k : Int) ∧ RowB wr g out (pctL (s.data.toList.take k)) ∧ Below g w0 wr ∧ g ≤ wr.heap.size

theorem pctL_le (l : List UInt8) : (pctL l).length ≤ 3 * l.length := by
  induction l with
  | nil => simp [pctL]
  | cons c t ih =>
    have : (pct c).length ≤ 3 := by
      unfold pct
      split <;> simp
    show (pct c ++ pctL t).length ≤ 3 * (t.length + 1)
    rw [List.length_append]
    omega

theorem pct_safe (s : ByteArray) (k : Nat) (hk : k < s.size) (h : safeN s[k].toNat = true) : pctL (s.data.toList.take (k + 1)) = pctL (s.data.toList.take k) ++ [s[k]] := by
  rw [take_snoc s k hk, pctL_append]
  congr 1
  show pct s[k] ++ [] = _
  unfold pct
  rw [if_pos h]
  rfl
theorem pct_other (s : ByteArray) (k : Nat) (hk : k < s.size) (h : safeN s[k].toNat = false) : pctL (s.data.toList.take (k + 1)) = pctL (s.data.toList.take k) ++ [37, UInt8.ofNat (hexN (s[k].toNat / 16)), UInt8.ofNat (hexN (s[k].toNat % 16))] := by
  rw [take_snoc s k hk, pctL_append]
  congr 1
  show pct s[k] ++ [] = _
  unfold pct
  rw [if_neg (by simp [h])]
  rfl

theorem at_rsign (n : Nat) (C V : Int) (w : World) (hC : C = (n : Int)) (hn : n < 16) (hV : (hexN n : Int) = V) :
    Calls Try.prog 46 #[.int .u8 C] w fun e w' => e = .returned (.int .u8 V) ∧ w' = w := by
  subst hV
  exact (rsign_any n C w hC hn).mono fun _ _ h => ⟨h.1, h.2.symm⟩

set_option maxRecDepth 100000 in
set_option maxHeartbeats 1600000 in
theorem rpercent_any (s : ByteArray) (w : World) (hs : s.size ≤ 1000000000000) :
    Calls Try.prog 28 #[.string s] w fun e w' => e = .returned (.string ⟨(pctL s.data.toList).toArray⟩) ∧ Below w.heap.size w w' := by
  have HLE := Lib.hid (list_len s)
  go_enter Try.func28, Try.ntmps28
  go_wp2
  go_loopw [3, 4] (fun out i wr => PctAt s w.heap.size w out i wr) (fun _ i _ => s.size - (intOf i).toNat)
  case atStart => exact ⟨0, by omega, rfl, by simpa [pctL] using RowB.nil _ _, Below.refl _ _, Nat.le_refl _⟩
  case round =>
    obtain ⟨k, hk, rfl, hrow, hbe, hsz⟩ := hrel
    have HR := Lib.hid hrow
    have hpl := pctL_le (s.data.toList.take k)
    rw [List.length_take, HLE.out] at hpl
    have hp2 : (pctL (s.data.toList.take k)).length ≤ 3000000000000 := by omega
    have HPL := Lib.hid hp2
    clear hrow hpl hp2
    by_cases hlt : k < s.size
    · cases hsf : safeN s[k].toNat with
      | true =>
        have HN := Lib.hid (pct_safe s k hlt hsf)
        have HS := Lib.hid hsf
        clear hsf
        go_wp2_with fail
        refine (at_rsafe _ _ true _ rfl HS.out).mono ?_
        rintro _ w1 ⟨rfl, rfl⟩
        clear HS
        go_wp2_with (at_builtin; refine wpList_push rfl _ _ rfl HR.out (c := s[k]) rfl rfl rfl (by have := HPL.out; omega) hsz ?_; intro v' w2 hrow' hB' hsz')
        have hbe2 := hB' _ _ hbe (Nat.le_refl _)
        rw [← HN.out] at hrow'
        have HR2 := Lib.hid hrow'
        clear hB' hrow' HR
        go_wp2
        go_roundw
        case rel => exact ⟨k + 1, by omega, by go_num, HR2.out, hbe2, hsz'⟩
        case measure => simp [intOf]; omega
      | false =>
        have HN := Lib.hid (pct_other s k hlt hsf)
        have HS := Lib.hid hsf
        have hb8 := s[k].toNat_lt
        obtain ⟨p, hp⟩ : ∃ p, p = s[k].toNat / 16 := ⟨_, rfl⟩
        obtain ⟨q, hq⟩ : ∃ q, q = s[k].toNat % 16 := ⟨_, rfl⟩
        have p1 : p < 16 := by omega
        have q1 : q < 16 := by omega
        have HU := Lib.hid (u8p _ (hexN_lt p p1))
        have HV := Lib.hid (u8p _ (hexN_lt q q1))
        have HP1 := Lib.hid p1
        have HQ1 := Lib.hid q1
        have hw1 : IntKind.u8.wrap ((s[k].toNat : Int) / 16) = (p : Int) := by
          rw [IntWalk.u8_in _ (by omega)]
          omega
        have hw2 : (s[k].toNat : Int) % 16 = (q : Int) := by omega
        have hw3 : (s[k].toNat : Int).tmod 16 = (q : Int) := by
          rw [IntWalk.rem_in _ _ (by omega)]
          exact hw2
        have hw4 : IntKind.u8.wrap (q : Int) = (q : Int) := IntWalk.u8_in _ (by omega)
        have HE1 : Hid ((hexN p : Int) = ((UInt8.ofNat (hexN p)).toNat : Int)) := by show _ = _; rw [HU.out]
        have HE2 : Hid ((hexN q : Int) = ((UInt8.ofNat (hexN q)).toNat : Int)) := by show _ = _; rw [HV.out]
        rw [← hp, ← hq] at HN
        have HRd := Lib.hid (HR.out.keep (Below.refl _ _).drew)
        have hbd : Below w.heap.size w wr.drew := hbe.drew
        have HPZ : Hid ((pctL (s.data.toList.take k)).length + 3 ≤ 140737488355328) := by show _ ≤ _; have := HPL.out; omega
        have hszd : w.heap.size ≤ wr.drew.heap.size := hsz
        clear hsf hp hq p1 q1 hb8 hbe hsz HR HU HV
        go_wp2_with fail
        refine (at_rsafe _ _ false _ rfl HS.out).mono ?_
        rintro _ w1 ⟨rfl, rfl⟩
        clear HS
        go_wp2_with fail
        go_region_held3 (fun _ => True) (first | trivial) (first
          | (go_at_call 46; with_reducible refine (at_rsign p _ _ _ rfl HP1.out rfl).mono ?_; rintro _ _ ⟨rfl, rfl⟩)
          | (go_at_call 46; with_reducible refine (at_rsign q _ _ _ rfl HQ1.out rfl).mono ?_; rintro _ _ ⟨rfl, rfl⟩)
          | ((refine step_push3 (w := wr.drew) (by rfl) _ _ (by rfl) HRd.out (c0 := 37) (by rfl) HE1.out HE2.out (by rfl) (by rfl) HPZ.out hszd ?_; intro v' w2 hrow' hB' hsz')))
        all_goals
          have hbe2 := hB' _ _ hbd (Nat.le_refl _)
          rw [← HN.out] at hrow'
          have HR2 := Lib.hid hrow'
          clear hB' hrow' HRd
          go_wp2
          go_roundw
          case rel => exact ⟨k + 1, by omega, by go_num, HR2.out, hbe2, hsz'⟩
          case measure => simp [intOf]; omega
    · have e : s.data.toList.take k = s.data.toList := List.take_of_length_le (by rw [HLE.out]; omega)
      have hcv := HR.out.back
      rw [e] at hcv
      clear HR e HPL
      go_wp2
      go_ret
      exact ⟨rfl, hbe⟩
end Go.Proofs.Yteoailanpmkcfaa
