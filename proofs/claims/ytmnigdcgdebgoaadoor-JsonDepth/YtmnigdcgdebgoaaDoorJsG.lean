/-
  strings.Repeat: the library's own contract of it, at this program.
  Values as rows of items (json): so many arrays, or objects, one in the other: plain facts, by reckoning.
-/
import Derived.Test.YtmnigdcgdebgoaaDoorBaseM
import Derived.Test.YtmnigdcgdebgoaaDoorJsF
import Derived.Shelf.Strings.Repeat
namespace Go.Proofs.YtmnigdcgdebgoaaDoor
open Go.RowKit Go.Shelf
set_option linter.unusedVariables false

def numb105 : Go.Shelf.Ren := ⟨fun | 99 => 45 | 105 => 22 | 165 => 46 | 166 => 34 | 169 => 38 | 170 => 47 | 206 => 69 | 212 => 44 | 240 => 52 | 241 => 70 | 263 => 67 | 264 => 68 | 276 => 73 | 277 => 86 | n => n, fun | 0 => 0 | 3 => 3 | 4 => 4 | 5 => 5 | 9 => 9 | 20 => 20 | 37 => 58 | 46 => 79 | 51 => 92 | 53 => 95 | 70 => 57 | 72 => 60 | 75 => 63 | 76 => 66 | 80 => 70 | 109 => 80 | 127 => 85 | 146 => 93 | 148 => 96 | 164 => 101 | n => n, fun | n => n⟩
theorem lays105 : Go.Proofs.Lays.n105 Tryd.prog numb105 := {
  mixed := by kernel_rfl
  f99 := Tryd.func45.trans (congrArg some (by kernel_rfl))
  f105 := Tryd.func22.trans (congrArg some (by kernel_rfl))
  f165 := Tryd.func46.trans (congrArg some (by kernel_rfl))
  f166 := Tryd.func34.trans (congrArg some (by kernel_rfl))
  f169 := Tryd.func38.trans (congrArg some (by kernel_rfl))
  f170 := Tryd.func47.trans (congrArg some (by kernel_rfl))
  f206 := Tryd.func69.trans (congrArg some (by kernel_rfl))
  f212 := Tryd.func44.trans (congrArg some (by kernel_rfl))
  f240 := Tryd.func52.trans (congrArg some (by kernel_rfl))
  f241 := Tryd.func70.trans (congrArg some (by kernel_rfl))
  f263 := Tryd.func67.trans (congrArg some (by kernel_rfl))
  f264 := Tryd.func68.trans (congrArg some (by kernel_rfl))
  f276 := Tryd.func73.trans (congrArg some (by kernel_rfl))
  f277 := Tryd.func86.trans (congrArg some (by kernel_rfl))
  t0 := Tryd.underlying0
  a0 := Tryd.isAgg0
  z0 := Tryd.sizeOf0
  v0 := Tryd.zeroValue0
  t3 := Tryd.underlying3
  a3 := Tryd.isAgg3
  z3 := Tryd.sizeOf3
  v3 := Tryd.zeroValue3
  t4 := Tryd.underlying4
  a4 := Tryd.isAgg4
  z4 := Tryd.sizeOf4
  v4 := Tryd.zeroValue4
  t5 := Tryd.underlying5
  a5 := Tryd.isAgg5
  z5 := Tryd.sizeOf5
  v5 := Tryd.zeroValue5
  t9 := Tryd.underlying9
  a9 := Tryd.isAgg9
  z9 := Tryd.sizeOf9
  v9 := Tryd.zeroValue9
  t20 := Tryd.underlying20
  a20 := Tryd.isAgg20
  z20 := Tryd.sizeOf20
  v20 := Tryd.zeroValue20
  t37 := Tryd.underlying58
  a37 := Tryd.isAgg58
  z37 := Tryd.sizeOf58
  v37 := Tryd.zeroValue58
  t46 := Tryd.underlying79
  a46 := Tryd.isAgg79
  z46 := Tryd.sizeOf79
  v46 := Tryd.zeroValue79
  t51 := Tryd.underlying92
  a51 := Tryd.isAgg92
  z51 := Tryd.sizeOf92
  v51 := Tryd.zeroValue92
  t53 := Tryd.underlying95
  a53 := Tryd.isAgg95
  z53 := Tryd.sizeOf95
  v53 := Tryd.zeroValue95
  t70 := Tryd.underlying57
  a70 := Tryd.isAgg57
  z70 := Tryd.sizeOf57
  v70 := Tryd.zeroValue57
  t72 := Tryd.underlying60
  a72 := Tryd.isAgg60
  z72 := Tryd.sizeOf60
  v72 := Tryd.zeroValue60
  t75 := Tryd.underlying63
  a75 := Tryd.isAgg63
  z75 := Tryd.sizeOf63
  v75 := Tryd.zeroValue63
  t76 := Tryd.underlying66
  a76 := Tryd.isAgg66
  z76 := Tryd.sizeOf66
  v76 := Tryd.zeroValue66
  t109 := Tryd.underlying80
  a109 := Tryd.isAgg80
  z109 := Tryd.sizeOf80
  v109 := Tryd.zeroValue80
  t127 := Tryd.underlying85
  a127 := Tryd.isAgg85
  z127 := Tryd.sizeOf85
  v127 := Tryd.zeroValue85
  t146 := Tryd.underlying93
  a146 := Tryd.isAgg93
  z146 := Tryd.sizeOf93
  v146 := Tryd.zeroValue93
  t148 := Tryd.underlying96
  a148 := Tryd.isAgg96
  z148 := Tryd.sizeOf96
  v148 := Tryd.zeroValue96
  t164 := Tryd.underlying101
  a164 := Tryd.isAgg101
  z164 := Tryd.sizeOf101
  v164 := Tryd.zeroValue101 }

theorem Builder_Extra_105 : Builder.Extra Tryd.prog numb105 := {
  sizeBuilder := by kernel_rfl
  liesBuilder := by kernel_rfl
  t5 := Tryd.underlying5
  a5 := Tryd.isAgg5
  z5 := Tryd.sizeOf5
  v5 := Tryd.zeroValue5
  infoByte := by kernel_rfl
  cellsByte := by kernel_rfl
  sizeByte := by kernel_rfl
  neB5 := by decide }

theorem repeat_at (s t : ByteArray) (c : Nat) (C : Int) (w : World) (hC : C = (c : Int)) (hs : s.size ≤ 10) (hc : c ≤ 1000) (ht : (⟨(Lib.repeatL s.data.toList c).toArray⟩ : ByteArray) = t) :
    Calls Tryd.prog 22 #[.string s, .int .i64 C] w fun e w' => e = .returned (.string t) ∧ Below w.heap.size w w' := by
  subst hC ht
  have h : s.size * c ≤ 10 * 1000 := Nat.mul_le_mul hs hc
  exact Any.strings_Repeat lays105 Builder_Extra_105 s c w (by omega) (by omega)
end Go.Proofs.YtmnigdcgdebgoaaDoor
namespace Go.Proofs.YtmnigdcgdebgoaaDoor
open Go.RowKit
set_option linter.unusedVariables false

def deepA (m : Nat) : List UInt8 := Lib.repeatL [91] (m + 1) ++ Lib.repeatL [93] (m + 1)
def deepO (m : Nat) : List UInt8 := (Lib.repeatL [123, 34, 34, 58] m ++ [123, 125]) ++ Lib.repeatL [125] m
def deepT (o : Bool) (m : Nat) : List UInt8 := if o then deepO m else deepA m
/-- What is to be of m + 1 of them. -/
def deepB (o : Bool) (m : Nat) : Bool :=
  if 64 ≤ m then decide (parseL readD (deepT o m) = (81, [])) else decide ((parseL readD (deepT o m)).1 = 0) && decide ((parseL readD (deepT o m)).2.length = m + 1) && decide ((parseL readD (deepT o m)).2[m]?.map (·.depth) = some (m : Int)) && decide (printU (parseL readD (deepT o m)).2 = deepT o m)
set_option maxRecDepth 1000000 in
theorem deep_arr : ∀ m : Fin 200, deepB false m.val = true := by decide +kernel
set_option maxRecDepth 1000000 in
theorem deep_obj : ∀ m : Fin 200, deepB true m.val = true := by decide +kernel
theorem deep_all (o : Bool) (m : Nat) (h : m < 200) : deepB o m = true := by
  cases o
  · exact deep_arr ⟨m, h⟩
  · exact deep_obj ⟨m, h⟩
theorem deep_far (o : Bool) (m : Nat) (h : m < 200) (h2 : 64 ≤ m) : parseL readD (deepT o m) = (81, []) := by
  have := deep_all o m h
  unfold deepB at this
  rw [if_pos h2] at this
  simpa using this
theorem deep_near (o : Bool) (m : Nat) (h : ¬ 64 ≤ m) : ∃ l, parseL readD (deepT o m) = (0, l) ∧ l.length = m + 1 ∧ l[m]?.map (·.depth) = some (m : Int) ∧ printU l = deepT o m := by
  have := deep_all o m (by omega)
  unfold deepB at this
  rw [if_neg h] at this
  simp only [Bool.and_eq_true, decide_eq_true_eq] at this
  obtain ⟨⟨⟨h1, h2⟩, h3⟩, h4⟩ := this
  exact ⟨_, Prod.ext h1 rfl, h2, h3, h4⟩
theorem deep_len (o : Bool) (m : Nat) (h : m < 200) : (deepT o m).length ≤ 2000 := by
  unfold deepT deepO deepA
  cases o <;> simp [Lib.repeatL_length] <;> omega
end Go.Proofs.YtmnigdcgdebgoaaDoor
