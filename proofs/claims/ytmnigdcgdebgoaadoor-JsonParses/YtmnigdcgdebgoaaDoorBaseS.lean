/-
  strings.IndexByte: the library's own contract of it, at this program.
  strings.HasPrefix: the library's own contract of it, at this program.
  strings.HasSuffix: the library's own contract of it, at this program.
  strings.TrimLeft at signs below 128: the library's own contract of it, at this program.
  strings.Builder, made by a call itself: what it holds; copyCheck, WriteByte, WriteString and String of it, at this program.
  strings.Builder: WriteByte and WriteString leave every block that is neither the builder's nor one of bytes.
  strings.Builder's String: the library's own contract of it, at this program.
  A map[string]bool that a call has made, as the list of its keys.
-/
import Derived.Test.YtmnigdcgdebgoaaDoorBaseM
import Derived.Shelf.Small.Strs
import Derived.Shelf.Strings.Prefix
import Derived.Shelf.Strings.SlTrimAscii
import Derived.Shelf.Strings.BuilderK
import Derived.Maps.OwnSet
import Derived.Maps.Views
namespace Go.Proofs.YtmnigdcgdebgoaaDoor
open Go.RowKit Go.Shelf
set_option linter.unusedVariables false

def numb137 : Go.Shelf.Ren := ⟨fun | 137 => 82 | 217 => 96 | 266 => 110 | n => n, fun | 9 => 9 | 5 => 5 | 3 => 3 | n => n, fun | n => n⟩
theorem lays137 : Go.Proofs.Lays.n137 Tryd.prog numb137 := {
  mixed := by kernel_rfl
  f137 := Tryd.func82.trans (congrArg some (by kernel_rfl))
  f217 := Tryd.func96.trans (congrArg some (by kernel_rfl))
  f266 := Tryd.func110.trans (congrArg some (by kernel_rfl))
  t3 := Tryd.underlying3
  a3 := Tryd.isAgg3
  z3 := Tryd.sizeOf3
  v3 := Tryd.zeroValue3
  t5 := Tryd.underlying5
  a5 := Tryd.isAgg5
  z5 := Tryd.sizeOf5
  v5 := Tryd.zeroValue5
  t9 := Tryd.underlying9
  a9 := Tryd.isAgg9
  z9 := Tryd.sizeOf9
  v9 := Tryd.zeroValue9 }

theorem index_any (s : ByteArray) (c : UInt8) (C i : Int) (w : World) (hC : C = (c.toNat : Int)) (hi : Lib.indexByte s.data.toList c = i) :
    Calls Tryd.prog 82 #[.string s, .int .u8 C] w fun e w' => e = .returned (.int .i64 i) ∧ w = w' := by
  subst hC hi
  have k : Calls Tryd.prog 82 #[.string s, .int .u8 (c.toNat : Int)] w _ := Any.strings_IndexByte lays137 s (c.toNat : Int) w
  refine k.mono fun e w' ⟨h1, h2⟩ => ⟨?_, h2.symm⟩
  rw [h1]
  simp

/-- The place of a byte in a text is -1 just if the text has it not. -/
theorem indexByte_none (l : List UInt8) (c : UInt8) (h : l.contains c = false) : Lib.indexByte l c = -1 := by
  induction l with
  | nil => rfl
  | cons b t ih =>
    simp only [List.contains_cons, Bool.or_eq_false_iff, beq_eq_false_iff_ne] at h
    have hb : (b == c) = false := by
      rw [beq_eq_false_iff_ne]
      exact fun e => h.1 e.symm
    unfold Lib.indexByte
    rw [ih h.2, hb]
    rfl
theorem indexByte_some (l : List UInt8) (c : UInt8) (h : l.contains c = true) : 0 ≤ Lib.indexByte l c := by
  induction l with
  | nil => cases h
  | cons b t ih =>
    unfold Lib.indexByte
    by_cases hb : b = c
    · rw [hb]
      simp
    · have ht : t.contains c = true := by
        simp only [List.contains_cons, Bool.or_eq_true, beq_iff_eq] at h
        exact h.resolve_left (fun e => hb e.symm)
      have := ih ht
      rw [if_neg (by simpa using hb), if_neg (by simp; omega)]
      omega
end Go.Proofs.YtmnigdcgdebgoaaDoor
namespace Go.Proofs.YtmnigdcgdebgoaaDoor
open Go.RowKit Go.Shelf
set_option linter.unusedVariables false

def numb99 : Go.Shelf.Ren := ⟨fun | 99 => 45 | 206 => 69 | n => n, fun | 9 => 9 | 4 => 4 | 3 => 3 | n => n, fun | n => n⟩
theorem lays99 : Go.Proofs.Lays.n99 Tryd.prog numb99 := {
  mixed := by kernel_rfl
  f99 := Tryd.func45.trans (congrArg some (by kernel_rfl))
  f206 := Tryd.func69.trans (congrArg some (by kernel_rfl))
  t3 := Tryd.underlying3
  a3 := Tryd.isAgg3
  z3 := Tryd.sizeOf3
  v3 := Tryd.zeroValue3
  t4 := Tryd.underlying4
  a4 := Tryd.isAgg4
  z4 := Tryd.sizeOf4
  v4 := Tryd.zeroValue4
  t9 := Tryd.underlying9
  a9 := Tryd.isAgg9
  z9 := Tryd.sizeOf9
  v9 := Tryd.zeroValue9 }

theorem prefix_at (s p : ByteArray) (b : Bool) (w : World) (h : Lib.hasPrefix s.data.toList p.data.toList = b) :
    Calls Tryd.prog 45 #[.string s, .string p] w fun e w' => e = .returned (.bool b) ∧ w = w' := by
  have k : Calls Tryd.prog 45 #[.string s, .string p] w _ := Any.strings_HasPrefix lays99 s p w
  refine k.mono fun e w' ⟨h1, h2⟩ => ⟨?_, h2.symm⟩
  rw [h1, h]
end Go.Proofs.YtmnigdcgdebgoaaDoor
namespace Go.Proofs.YtmnigdcgdebgoaaDoor
open Go.RowKit Go.Shelf
set_option linter.unusedVariables false

def numb100 : Go.Shelf.Ren := ⟨fun | 100 => 33 | 207 => 53 | n => n, fun | 3 => 3 | 4 => 4 | 9 => 9 | n => n, fun | n => n⟩
theorem lays100 : Go.Proofs.Lays.n100 Tryd.prog numb100 := {
  mixed := by kernel_rfl
  f100 := Tryd.func33.trans (congrArg some (by kernel_rfl))
  f207 := Tryd.func53.trans (congrArg some (by kernel_rfl))
  t3 := Tryd.underlying3
  a3 := Tryd.isAgg3
  z3 := Tryd.sizeOf3
  v3 := Tryd.zeroValue3
  t4 := Tryd.underlying4
  a4 := Tryd.isAgg4
  z4 := Tryd.sizeOf4
  v4 := Tryd.zeroValue4
  t9 := Tryd.underlying9
  a9 := Tryd.isAgg9
  z9 := Tryd.sizeOf9
  v9 := Tryd.zeroValue9 }

theorem suffix_at (s p : ByteArray) (b : Bool) (w : World) (hs : s.size ≤ 9223372036854775807) (h : Lib.hasSuffix s.data.toList p.data.toList = b) :
    Calls Tryd.prog 33 #[.string s, .string p] w fun e w' => e = .returned (.bool b) ∧ w = w' := by
  have k : Calls Tryd.prog 33 #[.string s, .string p] w _ := Any.strings_HasSuffix lays100 s p w hs
  refine k.mono fun e w' ⟨h1, h2⟩ => ⟨?_, h2.symm⟩
  rw [h1, h]
end Go.Proofs.YtmnigdcgdebgoaaDoor
namespace Go.Proofs.YtmnigdcgdebgoaaDoor
open Go.RowKit Go.Shelf
set_option linter.unusedVariables false

def numb161 : Go.Shelf.Ren := ⟨fun | 119 => 127 | 137 => 82 | 151 => 117 | 152 => 123 | 161 => 94 | 197 => 102 | 217 => 96 | 224 => 128 | 225 => 129 | 227 => 105 | 228 => 116 | 231 => 104 | 233 => 106 | 235 => 107 | 260 => 113 | 266 => 110 | n => n, fun | 0 => 0 | 3 => 3 | 4 => 4 | 5 => 5 | 9 => 9 | 21 => 21 | 46 => 79 | 105 => 130 | 116 => 134 | 117 => 135 | 119 => 149 | 124 => 138 | 138 => 151 | 139 => 152 | n => n, fun | 3 => 1 | 4 => 2 | n => n⟩
theorem lays161 : Go.Proofs.Lays.n161 Tryd.prog numb161 := {
  mixed := by kernel_rfl
  f119 := Tryd.func127.trans (congrArg some (by kernel_rfl))
  f137 := Tryd.func82.trans (congrArg some (by kernel_rfl))
  f151 := Tryd.func117.trans (congrArg some (by kernel_rfl))
  f152 := Tryd.func123.trans (congrArg some (by kernel_rfl))
  f161 := Tryd.func94.trans (congrArg some (by kernel_rfl))
  f197 := Tryd.func102.trans (congrArg some (by kernel_rfl))
  f217 := Tryd.func96.trans (congrArg some (by kernel_rfl))
  f224 := Tryd.func128.trans (congrArg some (by kernel_rfl))
  f225 := Tryd.func129.trans (congrArg some (by kernel_rfl))
  f227 := Tryd.func105.trans (congrArg some (by kernel_rfl))
  f228 := Tryd.func116.trans (congrArg some (by kernel_rfl))
  f231 := Tryd.func104.trans (congrArg some (by kernel_rfl))
  f233 := Tryd.func106.trans (congrArg some (by kernel_rfl))
  f235 := Tryd.func107.trans (congrArg some (by kernel_rfl))
  f260 := Tryd.func113.trans (congrArg some (by kernel_rfl))
  f266 := Tryd.func110.trans (congrArg some (by kernel_rfl))
  t0 := Tryd.underlying0
  a0 := Tryd.isAgg0
  z0 := Tryd.sizeOf0
  v0 := Tryd.zeroValue0
  t3 := Tryd.underlying3
  a3 := Tryd.isAgg3
  z3 := Tryd.sizeOf3
  v3 := Tryd.zeroValue3
  t4 := Tryd.underlying4
  a4 := Tryd.isAgg4
  z4 := Tryd.sizeOf4
  v4 := Tryd.zeroValue4
  t5 := Tryd.underlying5
  a5 := Tryd.isAgg5
  z5 := Tryd.sizeOf5
  v5 := Tryd.zeroValue5
  t9 := Tryd.underlying9
  a9 := Tryd.isAgg9
  z9 := Tryd.sizeOf9
  v9 := Tryd.zeroValue9
  t21 := Tryd.underlying21
  a21 := Tryd.isAgg21
  z21 := Tryd.sizeOf21
  v21 := Tryd.zeroValue21
  t46 := Tryd.underlying79
  a46 := Tryd.isAgg79
  z46 := Tryd.sizeOf79
  v46 := Tryd.zeroValue79
  t105 := Tryd.underlying130
  a105 := Tryd.isAgg130
  z105 := Tryd.sizeOf130
  v105 := Tryd.zeroValue130
  t116 := Tryd.underlying134
  a116 := Tryd.isAgg134
  z116 := Tryd.sizeOf134
  t117 := Tryd.underlying135
  a117 := Tryd.isAgg135
  z117 := Tryd.sizeOf135
  v117 := Tryd.zeroValue135
  t119 := Tryd.underlying149
  a119 := Tryd.isAgg149
  z119 := Tryd.sizeOf149
  t124 := Tryd.underlying138
  a124 := Tryd.isAgg138
  z124 := Tryd.sizeOf138
  v124 := Tryd.zeroValue138
  t138 := Tryd.underlying151
  a138 := Tryd.isAgg151
  z138 := Tryd.sizeOf151
  v138 := Tryd.zeroValue151
  t139 := Tryd.underlying152
  a139 := Tryd.isAgg152
  z139 := Tryd.sizeOf152
  v139 := Tryd.zeroValue152
  g3 := by kernel_rfl
  g4 := by kernel_rfl }

theorem trimleft_any (s cut : ByteArray) (w : World) (hc : cut.size < 4294967281) (ha : ∀ (j : Nat) b, cut.data.toList[j]? = some b → b.toNat < 128) :
    Calls Tryd.prog 94 #[.string s, .string cut] w fun e w' => e = .returned (.string ⟨(Lib.trimLeftS s.data.toList cut.data.toList).toArray⟩) ∧ Below w.heap.size w w' :=
  Any.strings_TrimLeft_laid lays161 (by kernel_rfl) s cut w hc ha
end Go.Proofs.YtmnigdcgdebgoaaDoor
namespace Go.Proofs.YtmnigdcgdebgoaaDoor
open Go.RowKit Go.Shelf
set_option linter.unusedVariables false

/-- The builder in block b holds the bytes l. -/
def Bld (w : World) (b : Nat) (l : List UInt8) : Prop := Lib.IsBuilderF 60 5 b b (Lib.byteCells l) w

theorem Bld.fresh (w : World) : Bld (w.alloc (.cells #[.pointer none, .slice none 0 0] 60)) w.heap.size [] := Lib.IsBuilderF.of (Lib.fresh_isBuilder 60 5 w)

theorem Bld.lt {w : World} {b : Nat} {l : List UInt8} (h : Bld w b l) : b < w.heap.size := h.elim (·.lt) (·.lt)

theorem Bld.keep {w w' : World} {b : Nat} {l : List UInt8} (h : Bld w b l) (hb : Below w.heap.size w w') : Bld w' b l := by
  have one : ∀ p, Lib.BuilderAtF 60 5 b b p (Lib.byteCells l) w → Lib.BuilderAtF 60 5 b b p (Lib.byteCells l) w' := by
    rintro p ⟨h1, v, h2, ⟨h3, h4⟩, h5⟩
    have hlt : b < w.heap.size := (Array.getElem?_eq_some_iff.1 h2).1
    refine ⟨h1, v, by rw [hb.block b hlt]; exact h2, ⟨h3, ?_⟩, h5⟩
    rcases h4 with h4 | ⟨g, cap, cur, fz, e, hbg, hg, h6⟩
    · exact .inl h4
    · have hlg : g < w.heap.size := (Array.getElem?_eq_some_iff.1 hg).1
      exact .inr ⟨g, cap, cur, fz, e, hbg, by rw [hb.block g hlg]; exact hg, h6⟩
  exact h.imp (one _) (one _)

theorem Tryd.sizeBld : (Tryd.prog.info? 60).map (fun i => i.size) = some 2 := by kernel_rfl
theorem Tryd.liesBld : liesAt Tryd.prog Tryd.prog.depth 60 (2 / Tryd.prog.cellsOf 60) 0 60 1 = true := by kernel_rfl

/-- Its pointer, made an unsafe one, handed through, and made a pointer again. -/
theorem bld_out (w : World) (b : Nat) (hsh : w.shape? b = some (60, 2)) : Sem.run Tryd.prog (convert 57 101 (.pointer (some ⟨b, 0, none⟩))) w = .ok (.pointer (some ⟨b, 0, none⟩)) w := by
  obtain ⟨j, hj, hjs⟩ := Option.map_eq_some_iff.1 Tryd.sizeBld
  exact Lib.run_to_unsafe w ⟨b, 0, none⟩ Tryd.underlying57 Tryd.underlying101 hj (by rw [hjs]; decide) hsh (Nat.zero_lt_succ 1)
theorem bld_in (w : World) (b : Nat) (hsh : w.shape? b = some (60, 2)) : Sem.run Tryd.prog (convert 101 57 (.pointer (some ⟨b, 0, none⟩))) w = .ok (.pointer (some ⟨b, 0, none⟩)) w := by
  obtain ⟨j, hj, hjs⟩ := Option.map_eq_some_iff.1 Tryd.sizeBld
  exact Lib.run_from_unsafe w ⟨b, 0, none⟩ Tryd.underlying101 Tryd.underlying57 hj hsh Tryd.liesBld
theorem bld_same (w : World) (x : Value) : Sem.run Tryd.prog (callFunc 73 #[x]) w = .ok (.value x) w := by
  rw [run_callFunc_extern Tryd.func73 (by kernel_rfl) (by kernel_rfl) (by kernel_rfl) (e := Extern.AbiNoEscape.same) (by kernel_rfl), Lib.run_noEscape]
  rfl

set_option maxRecDepth 100000 in
set_option maxHeartbeats 1000000 in
theorem check_any (b : Nat) (l : List UInt8) (w : World) (h : Bld w b l) :
    Calls Tryd.prog 52 #[.pointer (some ⟨b, 0, none⟩)] w fun e w' => e = .returned (.tuple #[]) ∧ Lib.BuilderAtF 60 5 b b (.pointer (some ⟨b, 0, none⟩)) (Lib.byteCells l) w' ∧ Below b w w' := by
  rcases h with h | h
  · have h0 := h.cell0
    have hf := h.frozen0
    have h1 := bld_out w b h.shape
    have h2 := bld_in w b h.shape
    have h3 := bld_same w
    go_enter Tryd.func52, Tryd.ntmps52
    go_wp2
    go_end0
    exact ⟨rfl, h.used _, (Below.refl b w).setCell (p := ⟨b, 0, none⟩) (Nat.le_refl _) _⟩
  · have h0 := h.cell0
    have H := Lib.hid h
    clear h
    obtain ⟨j, hj, hjs⟩ := Option.map_eq_some_iff.1 Tryd.sizeBld
    have hn := Lib.run_neq_ptr_same w (⟨b, 0, none⟩ : Addr) Tryd.underlying57 hj
    clear hj hjs
    go_enter Tryd.func52, Tryd.ntmps52
    go_wp2
    go_end0
    exact ⟨rfl, H.out, Below.refl b _⟩

/-- What the append leaves, stored back into the builder. -/
theorem bld_put {w2 : World} {b n : Nat} {v v' : Value} {bs : List Value} (l : List UInt8) (hb : w2.heap[b]? = some (.cells #[.pointer (some ⟨b, 0, none⟩), v] 60 (0, 0))) (e : bs = Lib.byteCells l) (hn : n = l.length) (hown : w2.ownsRowF b 5 1 v' n bs) : Bld (w2.setCell ⟨b, 1, none⟩ v') b l := by
  subst e hn
  exact .inr (Lib.BuilderAtF.put (T := 60) (e := 5) (Nat.le_refl b) hb (by rw [Lib.byteCells_length]; exact hown) (by decide))

theorem cells_snoc (l : List UInt8) (c : UInt8) : Lib.byteCells l ++ [.int .u8 (c.toNat : Int)] = Lib.byteCells (l ++ [c]) := by
  rw [Lib.byteCells_append]
  rfl
theorem cells_str (l : List UInt8) (s : ByteArray) : Lib.byteCells l ++ Lib.strCells s = Lib.byteCells (l ++ s.data.toList) := by
  rw [Lib.byteCells_append]
  rfl

set_option maxRecDepth 100000 in
set_option maxHeartbeats 1000000 in
theorem wbyte_any (b : Nat) (l : List UInt8) (c : UInt8) (C : Int) (w : World) (hC : C = (c.toNat : Int)) (h : Bld w b l) (hl : l.length + 1 ≤ 140737488355328) :
    Calls Tryd.prog 32 #[.pointer (some ⟨b, 0, none⟩), .int .u8 C] w fun e w' => e = .returned .nilIface ∧ Bld w' b (l ++ [c]) ∧ Below b w w' := by
  subst hC
  have hlt := h.lt
  have HB := Lib.hid h
  clear h
  go_enter Tryd.func32, Tryd.ntmps32
  go_wp2_with (go_at_call 52; refine (check_any b l w HB.out).mono ?_)
  rintro e w1 ⟨rfl, h1, hb1⟩
  obtain ⟨_, v, hbk, hown, hne⟩ := h1
  have hz1 := hb1.size
  have hlt1 : b < w1.heap.size := (Array.getElem?_eq_some_iff.1 hbk).1
  have c1 : w1.cell? ⟨b, 1, none⟩ = some v := by rw [Lib.cell_of_heap hbk]; rfl
  have HK := Lib.hid hbk
  have HO := Lib.hid hown
  have HN := Lib.hid hne
  rw [Lib.byteCells_length] at hown
  have HL := Lib.hid hown
  clear hbk hown hne HB
  obtain ⟨i0, hi, hz0, hs1, hs2⟩ := info_parts Tryd.infoU8
  go_wp2_with (at_builtin; refine wpList_append_ownF _ rfl _ _ 58 rfl b 5 i0 (.int .u8 0) 1 1 Tryd.underlying58 hi hz0 hs1 hs2 rfl (by decide) _ _ _ rfl (HL.out.alloc _) ⟨w1.heap.size, 0, none⟩ 1 1 [.int .u8 (c.toNat : Int)] rfl rfl ?c1 ?c2 ?c3 ?c4 ?c5 ?_)
  case c1 =>
    intro j u hj
    match j, hj with
    | 0, hj => simp at hj; subst hj; simp [Addr.add]
  case c2 => intro u hu; simp at hu; subst hu; rfl
  case c3 => unfold maxLen; omega
  case c4 => omega
  case c5 => simp; omega
  intro v' w2 hown' hgrow _
  have hb2 : w2.heap[b]? = some (.cells #[.pointer (some ⟨b, 0, none⟩), v] 60 (0, 0)) := by
    rw [hgrow.block b (by simp; omega) (fun e => HN.out e.symm), Lib.alloc_old w1 _ b hlt1]
    exact HK.out
  have d1 : w2.cell? ⟨b, 1, none⟩ = some v := by rw [Lib.cell_of_heap hb2]; rfl
  have f1 : w2.frozen? ⟨b, 1, none⟩ = false := Lib.frozen_of_heap hb2 1
  have HP := Lib.hid (bld_put (l ++ [c]) hb2 (cells_snoc l c) (by simp) hown')
  have HB2 := Lib.hid (((hb1.alloc (by omega) (.cells #[.int .u8 (c.toNat : Int)] 5)).grown hgrow (by simp; omega) (fun k hk => (HO.out.lt k hk).1)).setCell (p := ⟨b, 1, none⟩) (Nat.le_refl _) v')
  obtain ⟨g, cap, rfl⟩ : ∃ g cap, v' = .slice (some ⟨g, 0, none⟩) (l.length + 1) cap := by
    rcases hown'.2 with ⟨_, h0⟩ | ⟨g, cap, cur, fz, hv, _⟩
    · omega
    · exact ⟨g, cap, hv⟩
  clear hown' hgrow hb2 HK HO HN HL hi hz0 hs1 hs2
  go_wp2
  go_ret
  exact ⟨rfl, HP.out, HB2.out⟩

set_option maxRecDepth 100000 in
set_option maxHeartbeats 1000000 in
theorem wstr_any (b : Nat) (l : List UInt8) (s : ByteArray) (w : World) (h : Bld w b l) (hl : l.length + s.size ≤ 140737488355328) :
    Calls Tryd.prog 34 #[.pointer (some ⟨b, 0, none⟩), .string s] w fun e w' => e = .returned (.tuple #[.int .i64 (s.size : Int), .nilIface]) ∧ Bld w' b (l ++ s.data.toList) ∧ Below b w w' := by
  have hlt := h.lt
  have HB := Lib.hid h
  clear h
  go_enter Tryd.func34, Tryd.ntmps34
  go_wp2_with (go_at_call 52; refine (check_any b l w HB.out).mono ?_)
  rintro e w1 ⟨rfl, h1, hb1⟩
  obtain ⟨_, v, hbk, hown, hne⟩ := h1
  have hz1 := hb1.size
  have hlt1 : b < w1.heap.size := (Array.getElem?_eq_some_iff.1 hbk).1
  have c1 : w1.cell? ⟨b, 1, none⟩ = some v := by rw [Lib.cell_of_heap hbk]; rfl
  have HK := Lib.hid hbk
  have HO := Lib.hid hown
  have HN := Lib.hid hne
  rw [Lib.byteCells_length] at hown
  have HL := Lib.hid hown
  clear hbk hown hne HB
  obtain ⟨i0, hi, hz0, hs1, hs2⟩ := info_parts Tryd.infoU8
  go_wp2_with (at_builtin; refine Lib.wpList_append_own_stringF _ rfl _ _ 58 9 rfl b 5 i0 Tryd.underlying58 Tryd.underlying9 hi hz0 hs1 hs2 _ _ _ rfl HL.out s rfl ?c3 ?c4 ?c5 ?_)
  case c3 => unfold maxLen; omega
  case c4 => omega
  case c5 => omega
  intro v' w2 hown' hgrow _
  have hb2 : w2.heap[b]? = some (.cells #[.pointer (some ⟨b, 0, none⟩), v] 60 (0, 0)) := by
    rw [hgrow.block b hlt1 (fun e => HN.out e.symm)]
    exact HK.out
  have d1 : w2.cell? ⟨b, 1, none⟩ = some v := by rw [Lib.cell_of_heap hb2]; rfl
  have f1 : w2.frozen? ⟨b, 1, none⟩ = false := Lib.frozen_of_heap hb2 1
  have HP := Lib.hid (bld_put (l ++ s.data.toList) hb2 (cells_str l s) (by simp) hown')
  have HB2 := Lib.hid ((hb1.grown hgrow (by omega) (fun k hk => (HO.out.lt k hk).1)).setCell (p := ⟨b, 1, none⟩) (Nat.le_refl _) v')
  obtain ⟨ao, n', cap, rfl⟩ : ∃ ao n' cap, v' = .slice ao n' cap := by
    rcases hown'.2 with ⟨hv, _⟩ | ⟨g, cap, cur, fz, hv, _⟩
    · exact ⟨_, _, _, hv⟩
    · exact ⟨_, _, _, hv⟩
  clear hown' hgrow hb2 HK HO HN HL hi hz0 hs1 hs2
  go_wp2
  go_ret2
  exact ⟨rfl, HP.out, HB2.out⟩
end Go.Proofs.YtmnigdcgdebgoaaDoor
namespace Go.Proofs.YtmnigdcgdebgoaaDoor
open Go.RowKit Go.Shelf
set_option linter.unusedVariables false

/-- All blocks but the builder's, and those of bytes, are as they were. -/
structure FrT (b : Nat) (w w' : World) : Prop where
  size : w.heap.size ≤ w'.heap.size
  block : ∀ i, i < w.heap.size → i ≠ b → (∀ cs fz, w.heap[i]? ≠ some (.cells cs 5 fz)) → w'.heap[i]? = w.heap[i]?
theorem FrT.refl (b : Nat) (w : World) : FrT b w w := ⟨Nat.le_refl _, fun _ _ _ _ => rfl⟩
theorem FrT.trans {b : Nat} {w w1 w2 : World} (h : FrT b w w1) (k : FrT b w1 w2) : FrT b w w2 :=
  ⟨Nat.le_trans h.size k.size, fun i hi hb ht => (k.block i (Nat.lt_of_lt_of_le hi h.size) hb (by rw [h.block i hi hb ht]; exact ht)).trans (h.block i hi hb ht)⟩
theorem FrT.of_below {b : Nat} {w w' : World} (h : Below w.heap.size w w') : FrT b w w' := ⟨h.size, fun i hi _ _ => h.block i hi⟩
theorem FrT.setB (b : Nat) (w : World) (o : Nat) (u : Value) : FrT b w (w.setCell ⟨b, o, none⟩ u) := ⟨by simp, fun i _ hb _ => Below.heap_setCell _ _ _ _ hb⟩
theorem FrT.grown {b : Nat} {w w' : World} {v : Value} {n : Nat} {xs : List Value} {base : Nat} (hg : w.grownBy w' v.ownBlock) (ho : w.ownsRowF base 5 1 v n xs) : FrT b w w' := by
  refine ⟨hg.size, fun i hi _ ht => hg.block i hi (fun e => ?_)⟩
  rcases ho.2 with ⟨rfl, _⟩ | ⟨g, cap, cur, fz, rfl, _, hgh, _⟩
  · cases e
  · have : i = g := Option.some.inj e
    subst this
    exact ht cur fz hgh

set_option maxRecDepth 100000 in
set_option maxHeartbeats 1000000 in
theorem check_fr (b : Nat) (l : List UInt8) (w : World) (h : Bld w b l) :
    Calls Tryd.prog 52 #[.pointer (some ⟨b, 0, none⟩)] w fun e w' => e = .returned (.tuple #[]) ∧ Lib.BuilderAtF 60 5 b b (.pointer (some ⟨b, 0, none⟩)) (Lib.byteCells l) w' ∧ Below b w w' ∧ FrT b w w' := by
  rcases h with h | h
  · have h0 := h.cell0
    have hf := h.frozen0
    have h1 := bld_out w b h.shape
    have h2 := bld_in w b h.shape
    have h3 := bld_same w
    go_enter Tryd.func52, Tryd.ntmps52
    go_wp2
    go_end0
    exact ⟨rfl, h.used _, (Below.refl b w).setCell (p := ⟨b, 0, none⟩) (Nat.le_refl _) _, FrT.setB b w 0 _⟩
  · have h0 := h.cell0
    have H := Lib.hid h
    clear h
    obtain ⟨j, hj, hjs⟩ := Option.map_eq_some_iff.1 Tryd.sizeBld
    have hn := Lib.run_neq_ptr_same w (⟨b, 0, none⟩ : Addr) Tryd.underlying57 hj
    clear hj hjs
    go_enter Tryd.func52, Tryd.ntmps52
    go_wp2
    go_end0
    exact ⟨rfl, H.out, Below.refl b _, FrT.refl b _⟩

set_option maxRecDepth 100000 in
set_option maxHeartbeats 1000000 in
theorem wbyte_fr (b : Nat) (l : List UInt8) (c : UInt8) (C : Int) (w : World) (hC : C = (c.toNat : Int)) (h : Bld w b l) (hl : l.length + 1 ≤ 140737488355328) :
    Calls Tryd.prog 32 #[.pointer (some ⟨b, 0, none⟩), .int .u8 C] w fun e w' => e = .returned .nilIface ∧ Bld w' b (l ++ [c]) ∧ Below b w w' ∧ FrT b w w' := by
  subst hC
  have hlt := h.lt
  have HB := Lib.hid h
  clear h
  go_enter Tryd.func32, Tryd.ntmps32
  go_wp2_with (go_at_call 52; refine (check_fr b l w HB.out).mono ?_)
  rintro e w1 ⟨rfl, h1, hb1, hfr1⟩
  obtain ⟨_, v, hbk, hown, hne⟩ := h1
  have hz1 := hb1.size
  have hlt1 : b < w1.heap.size := (Array.getElem?_eq_some_iff.1 hbk).1
  have c1 : w1.cell? ⟨b, 1, none⟩ = some v := by rw [Lib.cell_of_heap hbk]; rfl
  have HK := Lib.hid hbk
  have HO := Lib.hid hown
  have HN := Lib.hid hne
  rw [Lib.byteCells_length] at hown
  have HL := Lib.hid hown
  clear hbk hown hne HB
  obtain ⟨i0, hi, hz0, hs1, hs2⟩ := info_parts Tryd.infoU8
  go_wp2_with (at_builtin; refine wpList_append_ownF _ rfl _ _ 58 rfl b 5 i0 (.int .u8 0) 1 1 Tryd.underlying58 hi hz0 hs1 hs2 rfl (by decide) _ _ _ rfl (HL.out.alloc _) ⟨w1.heap.size, 0, none⟩ 1 1 [.int .u8 (c.toNat : Int)] rfl rfl ?c1 ?c2 ?c3 ?c4 ?c5 ?_)
  case c1 =>
    intro j u hj
    match j, hj with
    | 0, hj => simp at hj; subst hj; simp [Addr.add]
  case c2 => intro u hu; simp at hu; subst hu; rfl
  case c3 => unfold maxLen; omega
  case c4 => omega
  case c5 => simp; omega
  intro v' w2 hown' hgrow _
  have hb2 : w2.heap[b]? = some (.cells #[.pointer (some ⟨b, 0, none⟩), v] 60 (0, 0)) := by
    rw [hgrow.block b (by simp; omega) (fun e => HN.out e.symm), Lib.alloc_old w1 _ b hlt1]
    exact HK.out
  have d1 : w2.cell? ⟨b, 1, none⟩ = some v := by rw [Lib.cell_of_heap hb2]; rfl
  have f1 : w2.frozen? ⟨b, 1, none⟩ = false := Lib.frozen_of_heap hb2 1
  have HP := Lib.hid (bld_put (l ++ [c]) hb2 (cells_snoc l c) (by simp) hown')
  have HB2 := Lib.hid (((hb1.alloc (by omega) (.cells #[.int .u8 (c.toNat : Int)] 5)).grown hgrow (by simp; omega) (fun k hk => (HO.out.lt k hk).1)).setCell (p := ⟨b, 1, none⟩) (Nat.le_refl _) v')
  have HF2 := Lib.hid ((hfr1.trans (FrT.of_below ((Below.refl w1.heap.size w1).alloc (Nat.le_refl _) (.cells #[.int .u8 (c.toNat : Int)] 5)))).trans ((FrT.grown (b := b) hgrow (HO.out.alloc _)).trans (FrT.setB b w2 1 v')))
  obtain ⟨g, cap, rfl⟩ : ∃ g cap, v' = .slice (some ⟨g, 0, none⟩) (l.length + 1) cap := by
    rcases hown'.2 with ⟨_, h0⟩ | ⟨g, cap, cur, fz, hv, _⟩
    · omega
    · exact ⟨g, cap, hv⟩
  clear hown' hgrow hb2 hfr1 HK HO HN HL hi hz0 hs1 hs2
  go_wp2
  go_ret
  exact ⟨rfl, HP.out, HB2.out, HF2.out⟩

set_option maxRecDepth 100000 in
set_option maxHeartbeats 1000000 in
theorem wstr_fr (b : Nat) (l : List UInt8) (s : ByteArray) (w : World) (h : Bld w b l) (hl : l.length + s.size ≤ 140737488355328) :
    Calls Tryd.prog 34 #[.pointer (some ⟨b, 0, none⟩), .string s] w fun e w' => e = .returned (.tuple #[.int .i64 (s.size : Int), .nilIface]) ∧ Bld w' b (l ++ s.data.toList) ∧ Below b w w' ∧ FrT b w w' := by
  have hlt := h.lt
  have HB := Lib.hid h
  clear h
  go_enter Tryd.func34, Tryd.ntmps34
  go_wp2_with (go_at_call 52; refine (check_fr b l w HB.out).mono ?_)
  rintro e w1 ⟨rfl, h1, hb1, hfr1⟩
  obtain ⟨_, v, hbk, hown, hne⟩ := h1
  have hz1 := hb1.size
  have hlt1 : b < w1.heap.size := (Array.getElem?_eq_some_iff.1 hbk).1
  have c1 : w1.cell? ⟨b, 1, none⟩ = some v := by rw [Lib.cell_of_heap hbk]; rfl
  have HK := Lib.hid hbk
  have HO := Lib.hid hown
  have HN := Lib.hid hne
  rw [Lib.byteCells_length] at hown
  have HL := Lib.hid hown
  clear hbk hown hne HB
  obtain ⟨i0, hi, hz0, hs1, hs2⟩ := info_parts Tryd.infoU8
  go_wp2_with (at_builtin; refine Lib.wpList_append_own_stringF _ rfl _ _ 58 9 rfl b 5 i0 Tryd.underlying58 Tryd.underlying9 hi hz0 hs1 hs2 _ _ _ rfl HL.out s rfl ?c3 ?c4 ?c5 ?_)
  case c3 => unfold maxLen; omega
  case c4 => omega
  case c5 => omega
  intro v' w2 hown' hgrow _
  have hb2 : w2.heap[b]? = some (.cells #[.pointer (some ⟨b, 0, none⟩), v] 60 (0, 0)) := by
    rw [hgrow.block b hlt1 (fun e => HN.out e.symm)]
    exact HK.out
  have d1 : w2.cell? ⟨b, 1, none⟩ = some v := by rw [Lib.cell_of_heap hb2]; rfl
  have f1 : w2.frozen? ⟨b, 1, none⟩ = false := Lib.frozen_of_heap hb2 1
  have HP := Lib.hid (bld_put (l ++ s.data.toList) hb2 (cells_str l s) (by simp) hown')
  have HB2 := Lib.hid ((hb1.grown hgrow (by omega) (fun k hk => (HO.out.lt k hk).1)).setCell (p := ⟨b, 1, none⟩) (Nat.le_refl _) v')
  have HF2 := Lib.hid (hfr1.trans ((FrT.grown (b := b) hgrow HO.out).trans (FrT.setB b w2 1 v')))
  obtain ⟨ao, n', cap, rfl⟩ : ∃ ao n' cap, v' = .slice ao n' cap := by
    rcases hown'.2 with ⟨hv, _⟩ | ⟨g, cap, cur, fz, hv, _⟩
    · exact ⟨_, _, _, hv⟩
    · exact ⟨_, _, _, hv⟩
  clear hown' hgrow hb2 hfr1 HK HO HN HL hi hz0 hs1 hs2
  go_wp2
  go_ret2
  exact ⟨rfl, HP.out, HB2.out, HF2.out⟩
end Go.Proofs.YtmnigdcgdebgoaaDoor
namespace Go.Proofs.YtmnigdcgdebgoaaDoor
open Go.RowKit Go.Shelf
set_option linter.unusedVariables false

def numb169 : Go.Shelf.Ren := ⟨fun | 169 => 38 | n => n, fun | 70 => 57 | 9 => 9 | 0 => 0 | 72 => 60 | 37 => 58 | 127 => 85 | 3 => 3 | 5 => 5 | n => n, fun | n => n⟩
theorem lays169 : Go.Proofs.Lays.n169 Tryd.prog numb169 := {
  mixed := by kernel_rfl
  f169 := Tryd.func38.trans (congrArg some (by kernel_rfl))
  t0 := Tryd.underlying0
  a0 := Tryd.isAgg0
  z0 := Tryd.sizeOf0
  v0 := Tryd.zeroValue0
  t3 := Tryd.underlying3
  a3 := Tryd.isAgg3
  z3 := Tryd.sizeOf3
  v3 := Tryd.zeroValue3
  t9 := Tryd.underlying9
  a9 := Tryd.isAgg9
  z9 := Tryd.sizeOf9
  v9 := Tryd.zeroValue9
  t37 := Tryd.underlying58
  a37 := Tryd.isAgg58
  z37 := Tryd.sizeOf58
  v37 := Tryd.zeroValue58
  t70 := Tryd.underlying57
  a70 := Tryd.isAgg57
  z70 := Tryd.sizeOf57
  v70 := Tryd.zeroValue57
  t72 := Tryd.underlying60
  a72 := Tryd.isAgg60
  z72 := Tryd.sizeOf60
  v72 := Tryd.zeroValue60
  t127 := Tryd.underlying85
  a127 := Tryd.isAgg85
  z127 := Tryd.sizeOf85
  v127 := Tryd.zeroValue85 }
theorem Builder_Extra_169 : Builder.Extra Tryd.prog numb169 := {
  sizeBuilder := by kernel_rfl
  liesBuilder := by kernel_rfl
  t5 := Tryd.underlying5
  a5 := Tryd.isAgg5
  z5 := Tryd.sizeOf5
  v5 := Tryd.zeroValue5
  infoByte := by kernel_rfl
  cellsByte := by kernel_rfl
  sizeByte := by kernel_rfl
  neB5 := by decide }

theorem bstring_any (b : Nat) (l : List UInt8) (w : World) (h : Bld w b l) :
    Calls Tryd.prog 38 #[.pointer (some ⟨b, 0, none⟩)] w fun e w' => e = .returned (.string ⟨l.toArray⟩) ∧ Below b w w' := by
  have c : Calls Tryd.prog 38 #[.pointer (some ⟨b, 0, none⟩)] w _ := Any.Builder_String_any_k lays169 Builder_Extra_169 b b l w h (Nat.le_of_lt h.lt)
  exact c.mono fun e w' ⟨h1, _, h3, _⟩ => ⟨h1, h3⟩
end Go.Proofs.YtmnigdcgdebgoaaDoor
namespace Go.Proofs.YtmnigdcgdebgoaaDoor
open Go.RowKit Go.Maps Go.ChangeMaps Go.MapKept Go.WideMaps
set_option linter.unusedVariables false

theorem setLaw : Keyed Tryd.prog 9 := string_keyed Tryd.underlying9
theorem zeroBool (w : World) : (zeroValue 4).run Tryd.prog w = .ok (.bool false) w := by kernel_rfl

/-- The map in block M has just these keys, each of them with true. -/
def SetAt (w : World) (M : Nat) (ks : List (List UInt8)) : Prop :=
  ∃ D : DataW Unit, w.ownsMap Tryd.prog 9 (plainElem Tryd.prog 4) M ks.length D ∧ ∀ k : List UInt8, D.atKey (.string k) (.lit (.bool false)) = .lit (.bool (ks.contains k))

theorem SetAt.new (w : World) : SetAt (w.alloc (.map #[] 0)) w.heap.size [] :=
  ⟨.map [], World.ownsMap_made w Tryd.prog 9 _, fun k => rfl⟩
theorem SetAt.lt {w : World} {M : Nat} {ks : List (List UInt8)} (h : SetAt w M ks) : M < w.heap.size := by
  obtain ⟨D, h, _⟩ := h
  exact h.lt
theorem SetAt.block {w w' : World} {M : Nat} {ks : List (List UInt8)} (h : SetAt w M ks) (hb : w'.heap[M]? = w.heap[M]?) : SetAt w' M ks := by
  obtain ⟨D, ⟨es, clock, h1, h2⟩, h3⟩ := h
  exact ⟨D, ⟨es, clock, hb.trans h1, h2⟩, h3⟩
theorem SetAt.keep {w w' : World} {M : Nat} {ks : List (List UInt8)} (h : SetAt w M ks) (hb : Below w.heap.size w w') : SetAt w' M ks := h.block (hb.block M h.lt)

theorem plainElem_bool_inv {P : Program} {e : TypeId} (he : P.underlying e = some .bool) {v : Value} {z : DataW Unit × List MemPlace} (h : plainElem P e v = some z) : ∃ b, v = .bool b ∧ z = (.lit (.bool b), []) := by
  unfold plainElem at h
  rw [he] at h
  cases v <;> simp at h
  exact ⟨_, rfl, h.symm⟩

theorem SetAt.lookup {w : World} {M : Nat} {ks : List (List UInt8)} (h : SetAt w M ks) (s : ByteArray) (hs : s.size ≤ 140737488355328) : (Instr.lookup 51 (.map (some M)) (.string s) false).run Tryd.prog w = .ok (.bool (ks.contains s.data.toList)) w := by
  obtain ⟨D, h1, h2⟩ := h
  obtain ⟨v, ps, hr, hv⟩ := h1.lookup setLaw Tryd.underlying51 (zeroBool w) (plainElem_bool Tryd.underlying4 false) (keyOf_string_mk Tryd.underlying9 (s := s) (by unfold maxLen; omega))
  rw [h2] at hv
  obtain ⟨b, rfl, hz⟩ := plainElem_bool_inv Tryd.underlying4 hv
  simp only [Prod.mk.injEq, DataW.lit.injEq, Lit.bool.injEq] at hz
  rw [hr, hz.1]

theorem SetAt.update {w : World} {M : Nat} {ks : List (List UInt8)} (h : SetAt w M ks) (s : ByteArray) (hs : s.size ≤ 140737488355328) (hn : ks.length ≤ 140737488355328) :
    ∃ w', (Instr.mapUpdate 51 (.map (some M)) (.string s) (.bool true)).run Tryd.prog w = .ok () w' ∧ SetAt w' M (ks ++ [s.data.toList]) ∧ w.grownBy w' (some M) := by
  obtain ⟨D, h1, h2⟩ := h
  obtain ⟨w', hr, ho, hg⟩ := h1.update setLaw Tryd.underlying51 (by unfold maxLen; omega) (keyOf_string_mk Tryd.underlying9 (s := s) (by unfold maxLen; omega)) (plainElem_bool Tryd.underlying4 true)
  refine ⟨w', hr, ⟨_, by rw [List.length_append]; exact ho, fun k => ?_⟩, hg⟩
  by_cases e : k = s.data.toList
  · rw [e, atKey_put_same h1.isMap (by trivial)]
    simp
  · rw [atKey_put_other (by simpa using e), h2]
    simp [e]
end Go.Proofs.YtmnigdcgdebgoaaDoor
