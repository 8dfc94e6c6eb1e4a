/-
  Lower of package ascii and the document's own Lower: contracts.
-/
import Derived.Test.YtecgdibpfbnfgaaTrim
import Derived.Laws.IdiomStrings
namespace Go.Proofs.Ytecgdibpfbnfgaa
open Go.RowKit

/-- The small letter in place of a great one. -/
def lowC (c : UInt8) : UInt8 := if 65 ≤ c.toNat ∧ c.toNat ≤ 90 then c + 32 else c

def lowB (s : ByteArray) : ByteArray := ⟨(s.data.toList.map lowC).toArray⟩

/-- The first bytes of block g are l, and may be written. -/
def BytesAt (w : World) (g : Nat) (l : List UInt8) : Prop :=
  (∀ j (hj : j < l.length), w.cell? ⟨g, j, none⟩ = some (.int .u8 (l[j].toNat : Int))) ∧ (∀ j, j < l.length → w.frozen? ⟨g, j, none⟩ = false)

theorem BytesAt.set {w : World} {g : Nat} {l : List UInt8} (h : BytesAt w g l) (k : Nat) (hk : k < l.length) (c : UInt8) (v : Int) (hv : v = (c.toNat : Int)) :
    BytesAt (w.setCell ⟨g, k, none⟩ (.int .u8 v)) g (l.set k c) := by
  subst hv
  refine ⟨fun j hj => ?_, fun j hj => ?_⟩
  · have hj' : j < l.length := by simpa using hj
    by_cases e : j = k
    · subst e
      rw [World.cell?_setCell_same w _ _ (h.1 j hj')]
      simp
    · rw [World.cell?_setCell_other w _ _ _ (fun h => e (by injection h; omega)), h.1 j hj', List.getElem_set_ne (by omega)]
  · rw [World.frozen?_setCell]
    exact h.2 j (by simpa using hj)

theorem BytesAt.of_owned {w : World} {base g n : Nat} (h : w.ownsRow base 5 1 (.slice (some ⟨g, 0, none⟩) n n) n (madeCells (Value.int .u8 0).cells (n * 1)).toList) : BytesAt w g (List.replicate n 0) := by
  refine ⟨fun j hj => ?_, fun j _ => h.frozenAt j⟩
  have hj' : j < n := by simpa using hj
  rw [h.cellAt j (by omega)]
  show (madeCells #[Value.int .u8 0] (n * 1)).toList[j]? = _
  rw [toList_madeCells_one]
  simp [hj']

/-- The first k of a, then b's. -/
def mixed (a b : List UInt8) (k : Nat) : List UInt8 := a.take k ++ b.drop k

theorem mixed_len (a b : List UInt8) (k : Nat) (h : a.length = b.length) (hk : k ≤ a.length) : (mixed a b k).length = a.length := by
  simp [mixed]; omega

theorem mixed_set (a b : List UInt8) (k : Nat) (h : a.length = b.length) (hk : k < a.length) : (mixed a b k).set k a[k] = mixed a b (k + 1) := by
  apply List.ext_getElem
  · simp [mixed]; omega
  · intro j h1 h2
    simp only [mixed, List.getElem_set, List.getElem_append, List.length_take, List.getElem_take, List.getElem_drop]
    by_cases e : k = j
    · subst e
      simp; omega
    · rw [if_neg e]
      by_cases e2 : j < k
      · rw [dif_pos (by omega), dif_pos (by omega)]
      · rw [dif_neg (by omega), dif_neg (by omega)]
        congr 1
        omega

theorem mixed_all (a b : List UInt8) (h : a.length = b.length) : mixed a b a.length = a := by
  unfold mixed
  rw [List.take_length, List.drop_of_length_le (by omega), List.append_nil]

theorem mixed_at (a b : List UInt8) (k : Nat) (h : a.length = b.length) (hk : k < b.length) (hm : k < (mixed a b k).length) : (mixed a b k)[k] = b[k] := by
  simp only [mixed, List.getElem_append, List.length_take, List.getElem_drop]
  rw [dif_neg (by omega)]
  congr 1
  omega

theorem mixed_keep (a b : List UInt8) (k : Nat) (h : a.length = b.length) (hk : k < a.length) (he : a[k] = b[k]'(by omega)) : mixed a b (k + 1) = mixed a b k := by
  rw [← mixed_set a b k h hk, he, ← mixed_at a b k h (by omega) (by rw [mixed_len a b k h (by omega)]; omega), List.set_getElem_self]

theorem upL_iff (c : Int) : inSpans upL c = (decide (65 ≤ c) && decide (c ≤ 90)) := by simp [inSpans, upL]

theorem lowC_up (c : UInt8) (h1 : 65 ≤ c.toNat) (h2 : c.toNat ≤ 90) : ((lowC c).toNat : Int) = (c.toNat : Int) + 32 := by
  have e : lowC c = c + 32 := by unfold lowC; rw [if_pos ⟨h1, h2⟩]
  rw [e, UInt8.toNat_add]
  simp
  omega

theorem lowC_not (c : UInt8) (h : ¬ (65 ≤ c.toNat ∧ c.toNat ≤ 90)) : lowC c = c := by unfold lowC; rw [if_neg h]

theorem Try.info5 : (Try.prog.info? 5).map (fun i => (i.zero, i.size, i.bytes)) = some (some (.int .u8 0), 1, 1) := by kernel_rfl

theorem back_any (w : World) (g n cap : Nat) (l : List UInt8) (hn : n = l.length) (h : BytesAt w g l) : Sem.run Try.prog (convert 30 9 (.slice (some ⟨g, 0, none⟩) n cap)) w = .ok (.string ⟨l.toArray⟩) w := by
  subst hn
  exact run_convert_bytes_back w 30 9 5 ⟨g, 0, none⟩ cap l Try.underlying30 Try.underlying5 Try.underlying9 (fun j hj => by have := h.1 j hj; cases j <;> simpa [Addr.add] using this)

set_option maxHeartbeats 1600000 in
theorem lower_any (s : ByteArray) (w : World) (hs : s.size ≤ 281474976710656) :
    Calls Try.prog 9 #[.string s] w fun e w' => e = .returned (.string (lowB s)) ∧ Below w.heap.size w w' := by
  have HC : Hid (∀ w1 c, Below ((w.alloc (.cells #[.int .u8 65, .int .u8 90] 35)).alloc (.cells #[.slice (some ⟨w.heap.size, 0, none⟩) 1 1] 38)).heap.size ((w.alloc (.cells #[.int .u8 65, .int .u8 90] 35)).alloc (.cells #[.slice (some ⟨w.heap.size, 0, none⟩) 1 1] 38)) w1 → Calls Try.prog 30 #[.int .u8 c, .pointer (some ⟨w.heap.size + 1, 0, none⟩)] w1 fun e w' => e = .returned (.bool (inSpans upL c)) ∧ w1 = w') :=
    Lib.hid fun w1 c hb => spans_calls upL (cellsOf upL) w (by decide) (has_cellsOf _) 1 rfl _ c hb
  have HB : Below w.heap.size w ((w.alloc (.cells #[.int .u8 65, .int .u8 90] 35)).alloc (.cells #[.slice (some ⟨w.heap.size, 0, none⟩) 1 1] 38)) := ((Below.refl _ _).alloc (Nat.le_refl _) _).alloc (by simp) _
  obtain ⟨i0, hi, hz0, hz1, hz2⟩ := info_parts Try.info5
  go_enter Try.func9, Try.ntmps9
  go_wp2_with fail
  refine (among_any _ _ _ _).mono ?_
  rintro e w' ⟨rfl, rfl⟩
  generalize ((w.alloc (.cells #[.int .u8 65, .int .u8 90] 35)).alloc (.cells #[.slice (some ⟨w.heap.size, 0, none⟩) 1 1] 38)) = W at HC HB ⊢
  go_wp2_with (at_make; refine wpList_make_full _ rfl _ _ 30 rfl W.heap.size 5 i0 (.int .u8 0) 1 Try.underlying30 hi hz0 hz1 .i64 .i64 s.size s.size s.size rfl rfl rfl rfl (by rw [hz2]; omega) (by unfold maxLen; omega) (Nat.le_refl _) ?_; intro w1 hown hgrow)
  have hb1 := BytesAt.of_owned hown
  have hB1 : Below W.heap.size W w1 := (Below.refl _ _).grown hgrow (Nat.le_refl _) (fun j hj => by cases hj)
  clear hown hgrow hi hz0 hz1 hz2
  go_loopw [14] (fun i wr => ∃ k : Nat, k ≤ s.size ∧ i = .int .i64 k ∧ BytesAt wr W.heap.size (mixed (s.data.toList.map lowC) (List.replicate s.size 0) k) ∧ Below W.heap.size W wr) (fun i _ => s.size - (intOf i).toNat)
  case atStart => exact ⟨0, Nat.zero_le _, rfl, by simpa [mixed] using hb1, hB1⟩
  case round =>
    obtain ⟨k, hk, rfl, hby, hbe⟩ := hrel
    clear hb1 hB1
    have hlen : (s.data.toList.map lowC).length = (List.replicate s.size (0 : UInt8)).length := by simp
    by_cases hlt : k < s.size
    · have hml : k < (mixed (s.data.toList.map lowC) (List.replicate s.size 0) k).length := by rw [mixed_len _ _ _ hlen (by simpa using hk)]; simpa using hlt
      have c0 := hby.1 k hml
      have f0 := hby.2 k hml
      have hg := Lib.hid (bget s k hlt)
      have hms := Lib.hid (mixed_set _ _ k hlen (by simpa using hlt))
      have Hlen := Lib.hid hlen
      have hst := Lib.hid (hby.set k hml s[k] _ rfl)
      clear hlen
      go_wp2_with fail
      refine (HC.out _ _ (hbe.setCell (Nat.le_refl _) _)).mono ?_
      rintro _ w' ⟨rfl, rfl⟩
      rw [upL_iff]
      have hst1 := hst.out
      by_cases hu : 65 ≤ s[k].toNat ∧ s[k].toNat ≤ 90
      · obtain ⟨hu1, hu2⟩ := hu
        have d1 : decide ((65 : Int) ≤ (s[k].toNat : Int)) = true := by simp; omega
        have d2 : decide ((s[k].toNat : Int) ≤ 90) = true := by simp; omega
        rw [d1, d2]
        have hv := Lib.hid (lowC_up s[k] hu1 hu2)
        have hst2 := Lib.hid (hst1.set k (by simpa using hml) (lowC s[k]) _ hv.out.symm)
        clear hst1 d1 d2
        go_wp2
        go_roundw
        case rel =>
          refine ⟨k + 1, by omega, by go_num, ?_, (hbe.setCell (Nat.le_refl _) _).setCell (Nat.le_refl _) _⟩
          have h := hst2.out
          rw [List.set_set] at h
          rw [← hms.out, List.getElem_map, hg.out]
          exact h
        case measure => simp [intOf]; omega
      · have hd : (decide ((65 : Int) ≤ (s[k].toNat : Int)) && decide ((s[k].toNat : Int) ≤ 90)) = false := by simp; omega
        rw [hd]
        have hv := Lib.hid (lowC_not s[k] hu)
        clear hst1 hd hu
        go_wp2
        go_roundw
        case rel =>
          refine ⟨k + 1, by omega, by go_num, ?_, (hbe.setCell (Nat.le_refl _) _)⟩
          have h := hst.out
          rw [← hms.out, List.getElem_map, hg.out, hv.out]
          exact h
        case measure => simp [intOf]; omega
    · have e : k = s.size := by omega
      subst e
      have hcv := back_any wr W.heap.size s.size s.size (s.data.toList.map lowC) (by simp) (by
        have h := hby
        have e2 : s.size = (s.data.toList.map lowC).length := by simp
        rw [e2, mixed_all _ _ (by simp)] at h
        exact h)
      clear hlen
      go_wp2
      go_ret
      exact ⟨rfl, HB.trans (hbe.mono HB.size)⟩

theorem bytes_made (s : ByteArray) (w : World) (cap : Nat) (_hc : s.size ≤ cap) : BytesAt ((w.alloc (.cells (bytesRow s cap) 5 ((bytesRow s cap).size, (bytesRow s cap).size + 1))).drew) w.heap.size s.data.toList := by
  refine ⟨fun j hj => ?_, fun j hj => ?_⟩
  · have hj' : j < s.data.size := by simpa using hj
    show (w.alloc (.cells (bytesRow s cap) 5 _)).cell? _ = _
    rw [World.cell?_alloc_mark, bytesRow_at s cap j hj']
    simp
  · show (w.alloc (.cells (bytesRow s cap) 5 _)).frozen? _ = _
    rw [World.frozen?_alloc_mark]
    have hz : (bytesRow s cap).size = s.data.size + (cap - s.size) := by simp [bytesRow]
    have hj' : j < s.data.size := by simpa using hj
    have hj2 : j < s.size := hj'
    rw [hz]
    have e1 : decide (s.data.size + (cap - s.size) ≤ j) = false := by simp; omega
    rw [e1]
    rfl

set_option maxHeartbeats 1600000 in
theorem rlower_any (s : ByteArray) (w : World) (hs : s.size ≤ 281474976710656) :
    Calls Try.prog 11 #[.string s] w fun e w' => e = .returned (.string (lowB s)) ∧ Below w.heap.size w w' := by
  have hcv2 := run_bytes_of_string (P := Try.prog) w 9 30 5 s Try.underlying9 Try.underlying30 Try.underlying5
  have HB := bytes_made s w (grownCap w s.size 0 5) (grownCap_ge _ _ _ _)
  have HW : Below w.heap.size w ((w.alloc (.cells (bytesRow s (grownCap w s.size 0 5)) 5 ((bytesRow s (grownCap w s.size 0 5)).size, (bytesRow s (grownCap w s.size 0 5)).size + 1))).drew) := ((Below.refl _ _).alloc (Nat.le_refl _) _).drew
  go_enter Try.func11, Try.ntmps11
  go_wp2
  clear hcv2
  generalize ((w.alloc (.cells (bytesRow s (grownCap w s.size 0 5)) 5 ((bytesRow s (grownCap w s.size 0 5)).size, (bytesRow s (grownCap w s.size 0 5)).size + 1))).drew) = W at HB HW ⊢
  generalize grownCap w s.size 0 5 = cap
  go_loopw [4] (fun i wr => ∃ k : Nat, k ≤ s.size ∧ i = .int .i64 k ∧ BytesAt wr w.heap.size (mixed (s.data.toList.map lowC) s.data.toList k) ∧ Below w.heap.size w wr) (fun i _ => s.size - (intOf i).toNat)
  case atStart => exact ⟨0, Nat.zero_le _, rfl, by simpa [mixed] using HB, HW⟩
  case round =>
    obtain ⟨k, hk, rfl, hby, hbe⟩ := hrel
    clear HB HW
    have hlen : (s.data.toList.map lowC).length = s.data.toList.length := by simp
    by_cases hlt : k < s.size
    · have hml : k < (mixed (s.data.toList.map lowC) s.data.toList k).length := by rw [mixed_len _ _ _ hlen (by simpa using hk)]; simpa using hlt
      have hg0 : (mixed (s.data.toList.map lowC) s.data.toList k)[k] = s[k] := by
        rw [mixed_at _ _ _ hlen (by simpa using hlt), bget s k hlt]
      have c0 := hby.1 k hml
      have f0 := hby.2 k hml
      rw [hg0] at c0
      have hg := Lib.hid (bget s k hlt)
      have hms := Lib.hid (mixed_set _ _ k hlen (by simpa using hlt))
      have Hlen := Lib.hid hlen
      clear hlen hg0
      by_cases hu : 65 ≤ s[k].toNat ∧ s[k].toNat ≤ 90
      · obtain ⟨hu1, hu2⟩ := hu
        have hv := Lib.hid (lowC_up s[k] hu1 hu2)
        have hst2 := Lib.hid (hby.set k hml (lowC s[k]) _ hv.out.symm)
        go_wp2
        go_roundw
        case rel =>
          refine ⟨k + 1, by omega, by go_num, ?_, (hbe.setCell (Nat.le_refl _) _)⟩
          have h := hst2.out
          rw [← hms.out, List.getElem_map, hg.out]
          exact h
        case measure => simp [intOf]; omega
      · have hv := Lib.hid (lowC_not s[k] hu)
        have hkeep := Lib.hid (mixed_keep (s.data.toList.map lowC) s.data.toList k Hlen.out (by simpa using hlt) (by rw [List.getElem_map, hg.out, hv.out]))
        rcases (show s[k].toNat < 65 ∨ 90 < s[k].toNat from by omega) with h1 | h1
        all_goals
          clear hu
          go_wp2
          go_roundw
          case rel => exact ⟨k + 1, by omega, by go_num, by rw [hkeep.out]; exact hby, hbe⟩
          case measure => simp [intOf]; omega
    · have e : k = s.size := by omega
      subst e
      have hcv := back_any wr w.heap.size s.size cap (s.data.toList.map lowC) (by simp) (by
        have h := hby
        have e2 : s.size = (s.data.toList.map lowC).length := by simp
        rw [e2, mixed_all _ _ (by simp)] at h
        exact h)
      clear hlen
      go_wp2
      go_ret
      exact ⟨rfl, hbe⟩

theorem lowB_size (s : ByteArray) : (lowB s).size = s.size := by
  show (s.data.toList.map lowC).toArray.size = s.size
  simp

theorem lowC_idem (c : UInt8) : lowC (lowC c) = lowC c := by
  by_cases h : 65 ≤ c.toNat ∧ c.toNat ≤ 90
  · have e := lowC_up c h.1 h.2
    exact lowC_not _ (by omega)
  · rw [lowC_not c h, lowC_not c h]

theorem lowB_idem (s : ByteArray) : lowB (lowB s) = lowB s := by
  unfold lowB
  simp [lowC_idem]

theorem lowB_list (s : ByteArray) : (lowB s).toList = s.toList.map lowC := by
  rw [ByteArray.toList_eq s]
  exact ByteArray.toList_mk _

set_option maxHeartbeats 400000 in
theorem same_any (s t : ByteArray) (w : World) (hs : s.size ≤ 281474976710656) (ht : t.size ≤ 281474976710656) :
    Calls Try.prog 12 #[.string s, .string t] w fun e w' => e = .returned (.bool ((lowB s).toList == (lowB t).toList)) ∧ Below w.heap.size w w' := by
  go_enter Try.func12, Try.ntmps12
  go_wp2_with fail
  refine (lower_any s _ hs).mono ?_
  rintro _ w1 ⟨rfl, hb1⟩
  go_wp2_with fail
  refine (lower_any t _ ht).mono ?_
  rintro _ w2 ⟨rfl, hb2⟩
  go_wp2
  go_ret
  exact ⟨rfl, hb1.trans (hb2.mono hb1.size)⟩
end Go.Proofs.Ytecgdibpfbnfgaa
