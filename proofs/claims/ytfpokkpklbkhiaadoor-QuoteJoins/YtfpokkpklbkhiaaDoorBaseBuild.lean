/-
  strings.Builder, made by a call itself: what it holds; copyCheck, WriteByte, WriteString and String of it, at this program.
-/
import Derived.Test.YtfpokkpklbkhiaaDoorBaseBytes
import Derived.Shelf.Strings.BuilderK
namespace Go.Proofs.YtfpokkpklbkhiaaDoor
open Go.RowKit Go.Shelf
set_option linter.unusedVariables false

/-- The builder in block b holds the bytes l. -/
def Bld (w : World) (b : Nat) (l : List UInt8) : Prop := Lib.IsBuilderF 38 5 b b (Lib.byteCells l) w

theorem Bld.fresh (w : World) : Bld (w.alloc (.cells #[.pointer none, .slice none 0 0] 38)) w.heap.size [] := Lib.IsBuilderF.of (Lib.fresh_isBuilder 38 5 w)

theorem Bld.lt {w : World} {b : Nat} {l : List UInt8} (h : Bld w b l) : b < w.heap.size := h.elim (·.lt) (·.lt)

theorem Bld.keep {w w' : World} {b : Nat} {l : List UInt8} (h : Bld w b l) (hb : Below w.heap.size w w') : Bld w' b l := by
  have one : ∀ p, Lib.BuilderAtF 38 5 b b p (Lib.byteCells l) w → Lib.BuilderAtF 38 5 b b p (Lib.byteCells l) w' := by
    rintro p ⟨h1, v, h2, ⟨h3, h4⟩, h5⟩
    have hlt : b < w.heap.size := (Array.getElem?_eq_some_iff.1 h2).1
    refine ⟨h1, v, by rw [hb.block b hlt]; exact h2, ⟨h3, ?_⟩, h5⟩
    rcases h4 with h4 | ⟨g, cap, cur, fz, e, hbg, hg, h6⟩
    · exact .inl h4
    · have hlg : g < w.heap.size := (Array.getElem?_eq_some_iff.1 hg).1
      exact .inr ⟨g, cap, cur, fz, e, hbg, by rw [hb.block g hlg]; exact hg, h6⟩
  exact h.imp (one _) (one _)

theorem Tryd.sizeBld : (Tryd.prog.info? 38).map (fun i => i.size) = some 2 := by kernel_rfl
theorem Tryd.liesBld : liesAt Tryd.prog Tryd.prog.depth 38 (2 / Tryd.prog.cellsOf 38) 0 38 1 = true := by kernel_rfl

/-- Its pointer, made an unsafe one, handed through, and made a pointer again. -/
theorem bld_out (w : World) (b : Nat) (hsh : w.shape? b = some (38, 2)) : Sem.run Tryd.prog (convert 36 61 (.pointer (some ⟨b, 0, none⟩))) w = .ok (.pointer (some ⟨b, 0, none⟩)) w := by
  obtain ⟨j, hj, hjs⟩ := Option.map_eq_some_iff.1 Tryd.sizeBld
  exact Lib.run_to_unsafe w ⟨b, 0, none⟩ Tryd.underlying36 Tryd.underlying61 hj (by rw [hjs]; decide) hsh (Nat.zero_lt_succ 1)
theorem bld_in (w : World) (b : Nat) (hsh : w.shape? b = some (38, 2)) : Sem.run Tryd.prog (convert 61 36 (.pointer (some ⟨b, 0, none⟩))) w = .ok (.pointer (some ⟨b, 0, none⟩)) w := by
  obtain ⟨j, hj, hjs⟩ := Option.map_eq_some_iff.1 Tryd.sizeBld
  exact Lib.run_from_unsafe w ⟨b, 0, none⟩ Tryd.underlying61 Tryd.underlying36 hj hsh Tryd.liesBld
theorem bld_same (w : World) (x : Value) : Sem.run Tryd.prog (callFunc 40 #[x]) w = .ok (.value x) w := by
  rw [run_callFunc_extern Tryd.func40 (by kernel_rfl) (by kernel_rfl) (by kernel_rfl) (e := Extern.AbiNoEscape.same) (by kernel_rfl), Lib.run_noEscape]
  rfl

set_option maxRecDepth 100000 in
set_option maxHeartbeats 1000000 in
theorem check_any (b : Nat) (l : List UInt8) (w : World) (h : Bld w b l) :
    Calls Tryd.prog 31 #[.pointer (some ⟨b, 0, none⟩)] w fun e w' => e = .returned (.tuple #[]) ∧ Lib.BuilderAtF 38 5 b b (.pointer (some ⟨b, 0, none⟩)) (Lib.byteCells l) w' ∧ Below b w w' := by
  rcases h with h | h
  · have h0 := h.cell0
    have hf := h.frozen0
    have h1 := bld_out w b h.shape
    have h2 := bld_in w b h.shape
    have h3 := bld_same w
    go_enter Tryd.func31, Tryd.ntmps31
    go_wp2
    go_end0
    exact ⟨rfl, h.used _, (Below.refl b w).setCell (p := ⟨b, 0, none⟩) (Nat.le_refl _) _⟩
  · have h0 := h.cell0
    have H := Lib.hid h
    clear h
    obtain ⟨j, hj, hjs⟩ := Option.map_eq_some_iff.1 Tryd.sizeBld
    have hn := Lib.run_neq_ptr_same w (⟨b, 0, none⟩ : Addr) Tryd.underlying36 hj
    clear hj hjs
    go_enter Tryd.func31, Tryd.ntmps31
    go_wp2
    go_end0
    exact ⟨rfl, H.out, Below.refl b _⟩

/-- What the append leaves, stored back into the builder. -/
theorem bld_put {w2 : World} {b n : Nat} {v v' : Value} {bs : List Value} (l : List UInt8) (hb : w2.heap[b]? = some (.cells #[.pointer (some ⟨b, 0, none⟩), v] 38 (0, 0))) (e : bs = Lib.byteCells l) (hn : n = l.length) (hown : w2.ownsRowF b 5 1 v' n bs) : Bld (w2.setCell ⟨b, 1, none⟩ v') b l := by
  subst e hn
  exact .inr (Lib.BuilderAtF.put (T := 38) (e := 5) (Nat.le_refl b) hb (by rw [Lib.byteCells_length]; exact hown) (by decide))

theorem cells_snoc (l : List UInt8) (c : UInt8) : Lib.byteCells l ++ [.int .u8 (c.toNat : Int)] = Lib.byteCells (l ++ [c]) := by
  rw [Lib.byteCells_append]
  rfl
theorem cells_str (l : List UInt8) (s : ByteArray) : Lib.byteCells l ++ Lib.strCells s = Lib.byteCells (l ++ s.data.toList) := by
  rw [Lib.byteCells_append]
  rfl

set_option maxRecDepth 100000 in
set_option maxHeartbeats 1000000 in
theorem wbyte_any (b : Nat) (l : List UInt8) (c : UInt8) (C : Int) (w : World) (hC : C = (c.toNat : Int)) (h : Bld w b l) (hl : l.length + 1 ≤ 140737488355328) :
    Calls Tryd.prog 18 #[.pointer (some ⟨b, 0, none⟩), .int .u8 C] w fun e w' => e = .returned .nilIface ∧ Bld w' b (l ++ [c]) ∧ Below b w w' := by
  subst hC
  have hlt := h.lt
  have HB := Lib.hid h
  clear h
  go_enter Tryd.func18, Tryd.ntmps18
  go_wp2_with (go_at_call 31; refine (check_any b l w HB.out).mono ?_)
  rintro e w1 ⟨rfl, h1, hb1⟩
  obtain ⟨_, v, hbk, hown, hne⟩ := h1
  have hz1 := hb1.size
  have hlt1 : b < w1.heap.size := (Array.getElem?_eq_some_iff.1 hbk).1
  have c1 : w1.cell? ⟨b, 1, none⟩ = some v := by rw [Lib.cell_of_heap hbk]; rfl
  have HK := Lib.hid hbk
  have HO := Lib.hid hown
  have HN := Lib.hid hne
  rw [Lib.byteCells_length] at hown
  have HL := Lib.hid hown
  clear hbk hown hne HB
  obtain ⟨i0, hi, hz0, hs1, hs2⟩ := info_parts Tryd.infoU8
  go_wp2_with (at_builtin; refine wpList_append_ownF _ rfl _ _ 32 rfl b 5 i0 (.int .u8 0) 1 1 Tryd.underlying32 hi hz0 hs1 hs2 rfl (by decide) _ _ _ rfl (HL.out.alloc _) ⟨w1.heap.size, 0, none⟩ 1 1 [.int .u8 (c.toNat : Int)] rfl rfl ?c1 ?c2 ?c3 ?c4 ?c5 ?_)
  case c1 =>
    intro j u hj
    match j, hj with
    | 0, hj => simp at hj; subst hj; simp [Addr.add]
  case c2 => intro u hu; simp at hu; subst hu; rfl
  case c3 => unfold maxLen; omega
  case c4 => omega
  case c5 => simp; omega
  intro v' w2 hown' hgrow _
  have hb2 : w2.heap[b]? = some (.cells #[.pointer (some ⟨b, 0, none⟩), v] 38 (0, 0)) := by
    rw [hgrow.block b (by simp; omega) (fun e => HN.out e.symm), Lib.alloc_old w1 _ b hlt1]
    exact HK.out
  have d1 : w2.cell? ⟨b, 1, none⟩ = some v := by rw [Lib.cell_of_heap hb2]; rfl
  have f1 : w2.frozen? ⟨b, 1, none⟩ = false := Lib.frozen_of_heap hb2 1
  have HP := Lib.hid (bld_put (l ++ [c]) hb2 (cells_snoc l c) (by simp) hown')
  have HB2 := Lib.hid (((hb1.alloc (by omega) (.cells #[.int .u8 (c.toNat : Int)] 5)).grown hgrow (by simp; omega) (fun k hk => (HO.out.lt k hk).1)).setCell (p := ⟨b, 1, none⟩) (Nat.le_refl _) v')
  obtain ⟨g, cap, rfl⟩ : ∃ g cap, v' = .slice (some ⟨g, 0, none⟩) (l.length + 1) cap := by
    rcases hown'.2 with ⟨_, h0⟩ | ⟨g, cap, cur, fz, hv, _⟩
    · omega
    · exact ⟨g, cap, hv⟩
  clear hown' hgrow hb2 HK HO HN HL hi hz0 hs1 hs2
  go_wp2
  go_ret
  exact ⟨rfl, HP.out, HB2.out⟩

set_option maxRecDepth 100000 in
set_option maxHeartbeats 1000000 in
theorem wstr_any (b : Nat) (l : List UInt8) (s : ByteArray) (w : World) (h : Bld w b l) (hl : l.length + s.size ≤ 140737488355328) :
    Calls Tryd.prog 19 #[.pointer (some ⟨b, 0, none⟩), .string s] w fun e w' => e = .returned (.tuple #[.int .i64 (s.size : Int), .nilIface]) ∧ Bld w' b (l ++ s.data.toList) ∧ Below b w w' := by
  have hlt := h.lt
  have HB := Lib.hid h
  clear h
  go_enter Tryd.func19, Tryd.ntmps19
  go_wp2_with (go_at_call 31; refine (check_any b l w HB.out).mono ?_)
  rintro e w1 ⟨rfl, h1, hb1⟩
  obtain ⟨_, v, hbk, hown, hne⟩ := h1
  have hz1 := hb1.size
  have hlt1 : b < w1.heap.size := (Array.getElem?_eq_some_iff.1 hbk).1
  have c1 : w1.cell? ⟨b, 1, none⟩ = some v := by rw [Lib.cell_of_heap hbk]; rfl
  have HK := Lib.hid hbk
  have HO := Lib.hid hown
  have HN := Lib.hid hne
  rw [Lib.byteCells_length] at hown
  have HL := Lib.hid hown
  clear hbk hown hne HB
  obtain ⟨i0, hi, hz0, hs1, hs2⟩ := info_parts Tryd.infoU8
  go_wp2_with (at_builtin; refine Lib.wpList_append_own_stringF _ rfl _ _ 32 9 rfl b 5 i0 Tryd.underlying32 Tryd.underlying9 hi hz0 hs1 hs2 _ _ _ rfl HL.out s rfl ?c3 ?c4 ?c5 ?_)
  case c3 => unfold maxLen; omega
  case c4 => omega
  case c5 => omega
  intro v' w2 hown' hgrow _
  have hb2 : w2.heap[b]? = some (.cells #[.pointer (some ⟨b, 0, none⟩), v] 38 (0, 0)) := by
    rw [hgrow.block b hlt1 (fun e => HN.out e.symm)]
    exact HK.out
  have d1 : w2.cell? ⟨b, 1, none⟩ = some v := by rw [Lib.cell_of_heap hb2]; rfl
  have f1 : w2.frozen? ⟨b, 1, none⟩ = false := Lib.frozen_of_heap hb2 1
  have HP := Lib.hid (bld_put (l ++ s.data.toList) hb2 (cells_str l s) (by simp) hown')
  have HB2 := Lib.hid ((hb1.grown hgrow (by omega) (fun k hk => (HO.out.lt k hk).1)).setCell (p := ⟨b, 1, none⟩) (Nat.le_refl _) v')
  obtain ⟨ao, n', cap, rfl⟩ : ∃ ao n' cap, v' = .slice ao n' cap := by
    rcases hown'.2 with ⟨hv, _⟩ | ⟨g, cap, cur, fz, hv, _⟩
    · exact ⟨_, _, _, hv⟩
    · exact ⟨_, _, _, hv⟩
  clear hown' hgrow hb2 HK HO HN HL hi hz0 hs1 hs2
  go_wp2
  go_ret2
  exact ⟨rfl, HP.out, HB2.out⟩
end Go.Proofs.YtfpokkpklbkhiaaDoor
