/-
  strings.Split, at a text to split by that has one byte: the library's own contracts, at this program.
-/
import Derived.Test.YtkpdejnhjbojpaaDoorBaseOfL
import Derived.Test.YtkpdejnhjbojpaaDoorCutMath
import Derived.Shelf.Strings.Split
namespace Go.Proofs.YtkpdejnhjbojpaaDoor
open Go.RowKit Go.Shelf
set_option linter.unusedVariables false

def numb221 : Go.Shelf.Ren := ⟨fun | 138 => 91 | 143 => 92 | 195 => 95 | 197 => 96 | 217 => 101 | 218 => 97 | 219 => 98 | 221 => 87 | 224 => 103 | 225 => 102 | 260 => 100 | 266 => 105 | 267 => 104 | 268 => 90 | 314 => 106 | n => n, fun | 0 => 0 | 3 => 3 | 4 => 4 | 5 => 5 | 9 => 9 | 21 => 21 | 31 => 53 | 46 => 89 | 51 => 104 | 105 => 93 | 119 => 100 | 138 => 102 | 139 => 103 | 146 => 105 | n => n, fun | 1 => 0 | 3 => 1 | 4 => 2 | n => n⟩
theorem lays221 : Go.Proofs.Lays.n221 Tryd.prog numb221 := {
  mixed := by kernel_rfl
  f138 := Tryd.func91.trans (congrArg some (by kernel_rfl))
  f143 := Tryd.func92.trans (congrArg some (by kernel_rfl))
  f195 := Tryd.func95.trans (congrArg some (by kernel_rfl))
  f197 := Tryd.func96.trans (congrArg some (by kernel_rfl))
  f217 := Tryd.func101.trans (congrArg some (by kernel_rfl))
  f218 := Tryd.func97.trans (congrArg some (by kernel_rfl))
  f219 := Tryd.func98.trans (congrArg some (by kernel_rfl))
  f221 := Tryd.func87.trans (congrArg some (by kernel_rfl))
  f224 := Tryd.func103.trans (congrArg some (by kernel_rfl))
  f225 := Tryd.func102.trans (congrArg some (by kernel_rfl))
  f260 := Tryd.func100.trans (congrArg some (by kernel_rfl))
  f266 := Tryd.func105.trans (congrArg some (by kernel_rfl))
  f267 := Tryd.func104.trans (congrArg some (by kernel_rfl))
  f268 := Tryd.func90.trans (congrArg some (by kernel_rfl))
  f314 := Tryd.func106.trans (congrArg some (by kernel_rfl))
  t0 := Tryd.underlying0
  a0 := Tryd.isAgg0
  z0 := Tryd.sizeOf0
  v0 := Tryd.zeroValue0
  t3 := Tryd.underlying3
  a3 := Tryd.isAgg3
  z3 := Tryd.sizeOf3
  v3 := Tryd.zeroValue3
  t4 := Tryd.underlying4
  a4 := Tryd.isAgg4
  z4 := Tryd.sizeOf4
  v4 := Tryd.zeroValue4
  t5 := Tryd.underlying5
  a5 := Tryd.isAgg5
  z5 := Tryd.sizeOf5
  v5 := Tryd.zeroValue5
  t9 := Tryd.underlying9
  a9 := Tryd.isAgg9
  z9 := Tryd.sizeOf9
  v9 := Tryd.zeroValue9
  t21 := Tryd.underlying21
  a21 := Tryd.isAgg21
  z21 := Tryd.sizeOf21
  v21 := Tryd.zeroValue21
  t31 := Tryd.underlying53
  a31 := Tryd.isAgg53
  z31 := Tryd.sizeOf53
  v31 := Tryd.zeroValue53
  t46 := Tryd.underlying89
  a46 := Tryd.isAgg89
  z46 := Tryd.sizeOf89
  v46 := Tryd.zeroValue89
  t51 := Tryd.underlying104
  a51 := Tryd.isAgg104
  z51 := Tryd.sizeOf104
  v51 := Tryd.zeroValue104
  t105 := Tryd.underlying93
  a105 := Tryd.isAgg93
  z105 := Tryd.sizeOf93
  v105 := Tryd.zeroValue93
  t119 := Tryd.underlying100
  a119 := Tryd.isAgg100
  z119 := Tryd.sizeOf100
  t138 := Tryd.underlying102
  a138 := Tryd.isAgg102
  z138 := Tryd.sizeOf102
  v138 := Tryd.zeroValue102
  t139 := Tryd.underlying103
  a139 := Tryd.isAgg103
  z139 := Tryd.sizeOf103
  v139 := Tryd.zeroValue103
  t146 := Tryd.underlying105
  a146 := Tryd.isAgg105
  z146 := Tryd.sizeOf105
  v146 := Tryd.zeroValue105
  g1 := by kernel_rfl
  g3 := by kernel_rfl
  g4 := by kernel_rfl }

theorem indexByte_off (c : UInt8) (l : List UInt8) (h : c ∉ l) : Lib.indexByte l c = -1 := by
  induction l with
  | nil => rfl
  | cons b t ih =>
    unfold Lib.indexByte
    rw [ih (fun e => h (List.mem_cons_of_mem _ e)), if_neg (by simp; exact fun e => h (by rw [e]; simp))]
    rfl

theorem indexByte_first (c : UInt8) (a b : List UInt8) (h : c ∉ a) : Lib.indexByte (a ++ c :: b) c = (a.length : Int) := by
  induction a with
  | nil => simp [Lib.indexByte]
  | cons x t ih =>
    rw [List.cons_append]
    unfold Lib.indexByte
    rw [ih (fun e => h (List.mem_cons_of_mem _ e)), if_neg (by simp; exact fun e => h (by rw [e]; simp)), if_neg (by simp <;> omega)]
    simp

theorem splitK_cut (c : UInt8) : ∀ (k : Nat) (l : List UInt8), l.count c = k → Lib.splitK [c] 0 k l = cutG c [] l
  | 0, l, h => by
    have hn : c ∉ l := List.count_eq_zero.1 h
    rw [cutG_none c l [] hn]
    rfl
  | k + 1, l, h => by
    have hm : c ∈ l := by
      rw [← List.count_pos_iff]
      omega
    obtain ⟨a, b, rfl, ha⟩ := List.eq_append_cons_of_mem hm
    have hc : b.count c = k := by
      rw [List.count_append, List.count_cons_self, List.count_eq_zero.2 ha] at h
      omega
    rw [cutG_first c a b [] ha, Lib.splitK, Lib.index_one, indexByte_first c a b ha, if_neg (by simp <;> omega), List.nil_append]
    rw [show (((a.length : Int)).toNat + 0) = a.length by omega, show (((a.length : Int)).toNat + [c].length) = a.length + 1 by simp, List.take_left, ← splitK_cut c k b hc]
    congr 2
    rw [show a ++ c :: b = (a ++ [c]) ++ b by simp, show a.length + 1 = (a ++ [c]).length by simp, List.drop_left]

theorem split_eq (s : ByteArray) (c : UInt8) : Lib.splitB ⟨#[c]⟩ 0 (Lib.countB s ⟨#[c]⟩) s = ofLs (cutG c [] s.data.toList) := by
  have e : (Lib.splitB ⟨#[c]⟩ 0 (Lib.countB s ⟨#[c]⟩) s).map (·.data.toList) = cutG c [] s.data.toList := by
    rw [Lib.splitB_data]
    have h1 : Lib.countB s ⟨#[c]⟩ = s.data.toList.count c := Lib.count_one c s.data.toList
    rw [h1]
    exact splitK_cut c _ _ rfl
  rw [← e]
  unfold ofLs
  rw [List.map_map]
  exact (List.map_id _).symm.trans (List.map_congr_left fun x _ => (ofL_list x).symm)

theorem index_byte (x : ByteArray) (c : UInt8) (w : World) : Calls Tryd.prog 92 #[.string x, .string ⟨#[c]⟩] w fun e w' => e = .returned (.int .i64 (Lib.indexB x ⟨#[c]⟩)) ∧ w' = w := by
  have k : Calls Tryd.prog 92 #[.string x, .string ⟨#[c]⟩] w _ := Any.strings_Index_one (ρ := numb221) { lays221 with } x c w
  refine k.mono fun e w' ⟨h1, h2⟩ => ⟨?_, h2⟩
  rw [h1]
  show _ = Ending.returned (.int .i64 (Lib.index x.data.toList [c]))
  rw [Lib.index_one]

theorem count_byte (s : ByteArray) (c : UInt8) (w : World) : Calls Tryd.prog 91 #[.string s, .string ⟨#[c]⟩] w fun e w' => e = .returned (.int .i64 (Lib.countB s ⟨#[c]⟩)) ∧ w' = w := by
  have k : Calls Tryd.prog 91 #[.string s, .string ⟨#[c]⟩] w _ := Any.strings_Count_one (ρ := numb221) { lays221 with } s c w
  refine k.mono fun e w' ⟨h1, h2⟩ => ⟨?_, h2⟩
  rw [h1]
  show _ = Ending.returned (Value.int .i64 ((Lib.count s.data.toList [c] : Nat) : Int))
  rw [Lib.count_one]
  rfl

theorem gen_any (s : ByteArray) (c : UInt8) (w : World) (hs : s.size < 4294967281) :
    Calls Tryd.prog 87 #[.string s, .string ⟨#[c]⟩, .int .i64 0, .int .i64 (-1)] w fun e w' =>
      e = .returned (.slice (some ⟨w.heap.size, 0, none⟩) (ofLs (cutG c [] s.data.toList)).length (ofLs (cutG c [] s.data.toList)).length) ∧ w' = w.alloc (.cells ((ofLs (cutG c [] s.data.toList)).map Value.string).toArray 9) := by
  have h1 : 1 ≤ (⟨#[c]⟩ : ByteArray).size := Nat.le_refl 1
  have hle := Lib.countB_le ⟨#[c]⟩ h1 s.size s (Nat.le_refl _)
  have hlen := Lib.splitB_all ⟨#[c]⟩ h1 0 _ s rfl
  have k : Calls Tryd.prog 87 #[.string s, .string ⟨#[c]⟩, .int .i64 0, .int .i64 (-1)] w _ :=
    Any.strings_genSplit_core lays221 (by kernel_rfl) s ⟨#[c]⟩ 0 (-1) (Lib.countB s ⟨#[c]⟩ + 1) w hs h1 (Nat.zero_le _)
      (fun x cs hx => index_byte x c _) (count_byte s c w) (by decide) (by decide) (by rw [if_pos (by decide)]; omega)
  rw [Nat.add_sub_cancel, ← hlen, Lib.cellsOf_full, split_eq] at k
  exact k

theorem split_any (s : ByteArray) (c : UInt8) (w : World) (hs : s.size < 4294967281) :
    Calls Tryd.prog 73 #[.string s, .string ⟨#[c]⟩] w fun e w' =>
      e = .returned (.slice (some ⟨w.heap.size, 0, none⟩) (ofLs (cutG c [] s.data.toList)).length (ofLs (cutG c [] s.data.toList)).length) ∧ w' = w.alloc (.cells ((ofLs (cutG c [] s.data.toList)).map Value.string).toArray 9) := by
  have HG := Lib.hid (gen_any s c w hs)
  go_enter Tryd.func73, Tryd.ntmps73
  go_wp2_with (go_at_call 87; refine HG.out.mono ?_; rintro _ w1 ⟨rfl, rfl⟩)
  go_ret
  exact ⟨rfl, rfl⟩

/-- The parts lie in their own block. -/
theorem split_at {w : World} {ls : List ByteArray} : StrsAt (w.alloc (.cells (ls.map Value.string).toArray 9)) (.slice (some ⟨w.heap.size, 0, none⟩) ls.length ls.length) ls := by
  refine .inr ⟨⟨w.heap.size, 0, none⟩, ls.length, rfl, Nat.le_refl _, fun j hj => ?_⟩
  have e : (⟨w.heap.size, 0, none⟩ : Addr).add j = ⟨w.heap.size, j, none⟩ := by simp [Addr.add]; omega
  rw [e, World.cell?_alloc_at _ _ _ _ rfl, List.getElem?_toArray, List.getElem?_map, List.getElem?_eq_getElem hj]
  rfl
end Go.Proofs.YtkpdejnhjbojpaaDoor
