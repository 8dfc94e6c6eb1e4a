/-
  The document's own answers (package cracknelref13): number, bit, Text: contracts.
  The document's own answers (package cracknelref13): Of, Keys: contracts.
  The document's own answers (package cracknelref13): Live: a contract.
-/
import Derived.Test.YtkpdejnhjbojpaaDoorCkVal
import Derived.BigQuiet
import Derived.Deep.QuietTactic
import Derived.Deep.LoopGhost
import Derived.Laws.ResultCell
namespace Go.Proofs.YtkpdejnhjbojpaaDoor
open Go.RowKit
set_option linter.unusedVariables false

set_option maxRecDepth 100000 in
theorem rnumber_any (a b : Int) (w : World) :
    Calls Tryd.prog 44 #[.int .i64 a, .int .i64 b] w fun e w' => e = .returned (.int .i64 (cmpN a b)) ∧ w' = w := by
  by_cases h1 : a < b
  · have HV : Hid (cmpN a b = -1) := by show _ = _; unfold cmpN; rw [if_pos h1]
    go_enter Tryd.func44, Tryd.ntmps44
    go_wp2
    go_ret
    exact ⟨ret_i64 HV.out.symm, rfl⟩
  · by_cases h2 : b < a
    · have HV : Hid (cmpN a b = 1) := by show _ = _; unfold cmpN; rw [if_neg h1, if_pos h2]
      go_enter Tryd.func44, Tryd.ntmps44
      go_wp2
      go_ret
      exact ⟨ret_i64 HV.out.symm, rfl⟩
    · have HV : Hid (cmpN a b = 0) := by show _ = _; unfold cmpN; rw [if_neg h1, if_neg h2]
      go_enter Tryd.func44, Tryd.ntmps44
      go_wp2
      go_ret
      exact ⟨ret_i64 HV.out.symm, rfl⟩

set_option maxRecDepth 100000 in
theorem rbit_any (b : Bool) (w : World) :
    Calls Tryd.prog 45 #[.bool b] w fun e w' => e = .returned (.int .i64 (bitN b)) ∧ w' = w := by
  cases b
  · go_enter Tryd.func45, Tryd.ntmps45
    go_wp2
    go_ret
    exact ⟨rfl, rfl⟩
  · go_enter Tryd.func45, Tryd.ntmps45
    go_wp2
    go_ret
    exact ⟨rfl, rfl⟩

theorem cmpT_nil_left (b : List UInt8) : cmpT [] b = cmpN 0 (b.length : Int) := by
  cases b with
  | nil => rfl
  | cons y ys => show (-1 : Int) = _; unfold cmpN; rw [if_pos (by rw [List.length_cons]; omega)]
theorem cmpT_nil_right (a : List UInt8) : cmpT a [] = cmpN (a.length : Int) 0 := by
  cases a with
  | nil => rfl
  | cons y ys => show (1 : Int) = _; unfold cmpN; rw [if_neg (by rw [List.length_cons]; omega), if_pos (by rw [List.length_cons]; omega)]

theorem cmpT_end (a b : ByteArray) (k : Nat) (h : a.size ≤ k ∨ b.size ≤ k) (hk : k ≤ a.size) (hk2 : k ≤ b.size) : cmpT (a.data.toList.drop k) (b.data.toList.drop k) = cmpN (a.size : Int) (b.size : Int) := by
  have key : ∀ x y : Int, cmpN (x - k) (y - k) = cmpN x y := by
    intro x y
    unfold cmpN
    by_cases h1 : x < y
    · rw [if_pos (by omega), if_pos h1]
    · rw [if_neg (by omega), if_neg h1]
      by_cases h2 : y < x
      · rw [if_pos (by omega), if_pos h2]
      · rw [if_neg (by omega), if_neg h2]
  rcases h with h | h
  · rw [List.drop_eq_nil_of_le (by rw [list_len]; exact h), cmpT_nil_left, List.length_drop, list_len, ← key (a.size : Int) (b.size : Int), show ((b.size - k : Nat) : Int) = (b.size : Int) - (k : Int) by omega, show (a.size : Int) - (k : Int) = 0 by omega]
  · rw [show b.data.toList.drop k = [] from List.drop_eq_nil_of_le (by rw [list_len]; exact h), cmpT_nil_right, List.length_drop, list_len, ← key (a.size : Int) (b.size : Int), show ((a.size - k : Nat) : Int) = (a.size : Int) - (k : Int) by omega, show (b.size : Int) - (k : Int) = 0 by omega]

theorem cmpT_at (a b : ByteArray) (k : Nat) (h1 : k < a.size) (h2 : k < b.size) : cmpT (a.data.toList.drop k) (b.data.toList.drop k) = if a[k].toNat < b[k].toNat then -1 else if b[k].toNat < a[k].toNat then 1 else cmpT (a.data.toList.drop (k + 1)) (b.data.toList.drop (k + 1)) := by
  rw [drop_cons a k h1, drop_cons b k h2, cmpT_cons]

def TxtCmp (a b : ByteArray) (w0 : World) (gk : Nat) (i : Value) (wr : World) : Prop :=
  ∃ k : Nat, i = .int .i64 (k : Int) ∧ k + gk = a.size + 1 ∧ 1 ≤ gk ∧ k ≤ b.size ∧ cmpT a.data.toList b.data.toList = cmpT (a.data.toList.drop k) (b.data.toList.drop k) ∧ Below w0.heap.size w0 wr

set_option maxRecDepth 100000 in
set_option maxHeartbeats 1600000 in
theorem rtextc_any (a b : ByteArray) (w : World) (ha : a.size ≤ 9223372036854775807) (hb : b.size ≤ 9223372036854775807) :
    Calls Tryd.prog 38 #[.string a, .string b] w fun e w' => e = .returned (.int .i64 (cmpT a.data.toList b.data.toList)) ∧ Below w.heap.size w w' := by
  go_enter Tryd.func38, Tryd.ntmps38
  go_wp2
  go_loopg [5] (a.size + 1) (fun gk i wr => TxtCmp a b w gk i wr)
  case atStart => exact ⟨0, rfl, by omega, by omega, by omega, rfl, Below.refl _ _⟩
  case round =>
    obtain ⟨k, rfl, hk, hg, hkb, hinv, hbe⟩ := hrel
    have HI := Lib.hid hinv
    clear hinv
    by_cases hlt : k < a.size ∧ k < b.size
    · obtain ⟨h1, h2⟩ := hlt
      have HC := Lib.hid (cmpT_at a b k h1 h2)
      have d1 : decide (k < a.size) = true := by simpa using h1
      have d2 : decide (k < b.size) = true := by simpa using h2
      have d3 : decide ((k : Int) < (a.size : Int)) = true := by simp; omega
      have d4 : decide ((k : Int) < (b.size : Int)) = true := by simp; omega
      rcases (show ((a[k].toNat : Int) < (b[k].toNat : Int)) ∨ (¬ (a[k].toNat : Int) < (b[k].toNat : Int) ∧ (b[k].toNat : Int) < (a[k].toNat : Int)) ∨ (¬ (a[k].toNat : Int) < (b[k].toNat : Int) ∧ ¬ (b[k].toNat : Int) < (a[k].toNat : Int)) by omega) with h | ⟨h, h'⟩ | ⟨h, h'⟩
      · have HV : Hid (cmpT a.data.toList b.data.toList = -1) := by show _ = _; rw [HI.out, HC.out, if_pos (by omega)]
        go_wp2_with fail
        refine wp_region_ext (by kernel_rfl) (by kernel_rfl) ?_
        repeat (go_big_quiet_step (fail))
        refine wpQuiet_nil ?_
        rintro _ ⟨x, rfl⟩
        have hb1 := chain hbe x.below
        go_wp2
        go_ret
        exact ⟨ret_i64 HV.out.symm, hb1⟩
      · have HV : Hid (cmpT a.data.toList b.data.toList = 1) := by show _ = _; rw [HI.out, HC.out, if_neg (by omega), if_pos (by omega)]
        go_wp2_with fail
        refine wp_region_ext (by kernel_rfl) (by kernel_rfl) ?_
        repeat (go_big_quiet_step (fail))
        refine wpQuiet_nil ?_
        rintro _ ⟨x, rfl⟩
        have hb1 := chain hbe x.below
        generalize x.world = W at hb1 ⊢
        go_wp2_with fail
        refine wp_region_ext (by kernel_rfl) (by kernel_rfl) ?_
        repeat (go_big_quiet_step (fail))
        refine wpQuiet_nil ?_
        rintro _ ⟨y, rfl⟩
        have hb2 := chain hb1 y.below
        go_wp2
        go_ret
        exact ⟨ret_i64 HV.out.symm, hb2⟩
      · have HS : Hid (cmpT a.data.toList b.data.toList = cmpT (a.data.toList.drop (k + 1)) (b.data.toList.drop (k + 1))) := by show _ = _; rw [HI.out, HC.out, if_neg (by omega), if_neg (by omega)]
        go_wp2_with fail
        refine wp_region_ext (by kernel_rfl) (by kernel_rfl) ?_
        repeat (go_big_quiet_step (fail))
        refine wpQuiet_nil ?_
        rintro _ ⟨x, rfl⟩
        have hb1 := chain hbe x.below
        generalize x.world = W at hb1 ⊢
        go_wp2_with fail
        refine wp_region_ext (by kernel_rfl) (by kernel_rfl) ?_
        repeat (go_big_quiet_step (fail))
        refine wpQuiet_nil ?_
        rintro _ ⟨y, rfl⟩
        have hb2 := chain hb1 y.below
        go_wp2
        go_roundg (gk - 1)
        case measure => omega
        case rel => exact ⟨k + 1, by go_num, by omega, by omega, by omega, HS.out, hb2⟩
    · have HE : Hid (cmpT a.data.toList b.data.toList = cmpN (a.size : Int) (b.size : Int)) := by show _ = _; rw [HI.out]; exact cmpT_end a b k (by omega) (by omega) hkb
      rcases (show a.size ≤ k ∨ (¬ a.size ≤ k ∧ b.size ≤ k) by omega) with h | ⟨h, h'⟩
      all_goals
        go_wp2_with fail
        refine (rnumber_any (a.size : Int) (b.size : Int) _).mono ?_
        rintro _ wz ⟨rfl, rfl⟩
        go_wp2
        go_ret
        exact ⟨ret_i64 HE.out.symm, hbe⟩
end Go.Proofs.YtkpdejnhjbojpaaDoor
namespace Go.Proofs.YtkpdejnhjbojpaaDoor
open Go.RowKit
set_option linter.unusedVariables false

/-- A key's value. -/
abbrev keyV (d p n : ByteArray) : Value := .agg #[.string d, .string p, .string n]

/-- A key lies in block g. -/
def KeyAt (w : World) (g : Nat) (d p n : ByteArray) : Prop :=
  w.cell? ⟨g, 0, none⟩ = some (.string d) ∧ w.cell? ⟨g, 1, none⟩ = some (.string p) ∧ w.cell? ⟨g, 2, none⟩ = some (.string n)

theorem KeyAt.new (w : World) (d p n : ByteArray) (t : TypeId) : KeyAt (w.alloc (.cells #[.string d, .string p, .string n] t)) w.heap.size d p n := by
  refine ⟨?_, ?_, ?_⟩ <;> simp

theorem KeyAt.keep {w w' : World} {g : Nat} {d p n : ByteArray} (h : KeyAt w g d p n) (hb : Below w.heap.size w w') : KeyAt w' g d p n := by
  obtain ⟨c0, c1, c2⟩ := h
  have hg : g < w.heap.size := World.block_lt_of_cell? w _ c0
  refine ⟨?_, ?_, ?_⟩ <;> rw [hb.cell hg] <;> assumption

theorem results_cellK {fn : Func} {p : Tmp} {ty : TypeId} (h : fn.results = #[.cell p ty]) (tmps : Array Value) (P : Program) (w : World) :
    (results fn tmps).run P w =
      ((asAddr (tmps.getD p undef)).run P w).andThen fun a w₁ => ((loadVar ty a).run P w₁) := by
  simp only [results, h]
  simp [Sem.run_bind, Result.andThen]

set_option maxRecDepth 100000 in
theorem rofk_any (c : Ck) (w : World) :
    Calls Tryd.prog 15 #[ckV c] w fun e w' => e = .returned (keyV c.dom c.path c.name) ∧ Below w.heap.size w w' := by
  obtain ⟨d, p, n, v, cr, ac, ex, ho, se, hp, ss⟩ := c
  go_enter Tryd.func15, Tryd.ntmps15
  go_wp2
  (try simp only [Exit.inBlock, Exit.then])
  refine bodyPost_ret (v := keyV d p n) (by rw [results_cellK rfl]; go_simp) rfl ?_
  exact ⟨rfl, ((Below.refl _ _).alloc (Nat.le_refl _) _).alloc (by simp) _⟩

theorem cmpK_at (a b : Ck) : cmpK a b = if cmpT a.dom.data.toList b.dom.data.toList = 0 then (if cmpT a.path.data.toList b.path.data.toList = 0 then cmpT a.name.data.toList b.name.data.toList else cmpT a.path.data.toList b.path.data.toList) else cmpT a.dom.data.toList b.dom.data.toList := rfl

set_option maxRecDepth 100000 in
set_option maxHeartbeats 1600000 in
theorem rkeys_any (a b : Ck) (w : World) (ha : a.dom.size ≤ 9223372036854775807 ∧ a.path.size ≤ 9223372036854775807 ∧ a.name.size ≤ 9223372036854775807) (hb : b.dom.size ≤ 9223372036854775807 ∧ b.path.size ≤ 9223372036854775807 ∧ b.name.size ≤ 9223372036854775807) :
    Calls Tryd.prog 16 #[keyV a.dom a.path a.name, keyV b.dom b.path b.name] w fun e w' => e = .returned (.int .i64 (cmpK a b)) ∧ Below w.heap.size w w' := by
  have HV := Lib.hid (cmpK_at a b)
  have T1 := Lib.hid (rtextc_any a.dom b.dom · ha.1 hb.1)
  have T2 := Lib.hid (rtextc_any a.path b.path · ha.2.1 hb.2.1)
  have T3 := Lib.hid (rtextc_any a.name b.name · ha.2.2 hb.2.2)
  generalize cmpT a.dom.data.toList b.dom.data.toList = x at HV T1
  generalize cmpT a.path.data.toList b.path.data.toList = y at HV T2
  generalize cmpT a.name.data.toList b.name.data.toList = z at HV T3
  obtain ⟨d, p, n, v, cr, ac, ex, ho, se, hp, ss⟩ := a
  obtain ⟨d', p', n', v', cr', ac', ex', ho', se', hp', ss'⟩ := b
  clear ha hb
  have h1 := (KeyAt.new w d p n 30).keep ((Below.refl _ _).alloc (Nat.le_refl _) (.cells #[.string d', .string p', .string n'] 30))
  have h2 := KeyAt.new (w.alloc (.cells #[.string d, .string p, .string n] 30)) d' p' n' 30
  have hb0 := ((Below.refl w.heap.size w).alloc (Nat.le_refl _) (.cells #[.string d, .string p, .string n] 30)).alloc (by simp) (.cells #[.string d', .string p', .string n'] 30)
  rw [show ∀ o : Obj, (w.alloc o).heap.size = w.heap.size + 1 from fun o => by simp] at h2
  go_enter Tryd.func16, Tryd.ntmps16
  go_wp2_with fail
  refine (T1.out _).mono ?_
  rintro _ w1 ⟨rfl, hb⟩
  have hb1 := chain hb0 hb
  replace h1 := h1.keep hb
  replace h2 := h2.keep hb
  clear hb hb0 T1
  obtain ⟨c0, c1, c2⟩ := id h1
  obtain ⟨e0, e1, e2⟩ := id h2
  by_cases hx : x = 0
  · subst hx
    go_wp2_with fail
    refine (T2.out _).mono ?_
    rintro _ w2 ⟨rfl, hb⟩
    have hb2 := chain hb1 hb
    clear c0 c1 c2 e0 e1 e2
    obtain ⟨c0, c1, c2⟩ := h1.keep hb
    obtain ⟨e0, e1, e2⟩ := h2.keep hb
    clear hb hb1 T2 h1 h2
    by_cases hy : y = 0
    · subst hy
      go_wp2_with fail
      refine (T3.out _).mono ?_
      rintro _ w3 ⟨rfl, hb⟩
      have hb3 := chain hb2 hb
      clear hb hb2 T3
      go_wp2
      go_ret
      exact ⟨ret_i64 (by rw [HV.out, if_pos trivial, if_pos trivial]), hb3⟩
    · have hy2 : ((y : Int) == 0) = false := by simpa using hy
      have HY := Lib.hid hy
      clear hy
      go_wp2
      go_ret
      exact ⟨ret_i64 (by rw [HV.out, if_pos trivial, if_neg HY.out]), hb2⟩
  · have hx2 : ((x : Int) == 0) = false := by simpa using hx
    have HX := Lib.hid hx
    clear hx
    go_wp2
    go_ret
    exact ⟨ret_i64 (by rw [HV.out, if_neg HX.out]), hb1⟩
end Go.Proofs.YtkpdejnhjbojpaaDoor
namespace Go.Proofs.YtkpdejnhjbojpaaDoor
open Go.RowKit
set_option linter.unusedVariables false

set_option maxRecDepth 100000 in
theorem rlive_any (c : Ck) (now : Int) (w : World) :
    Calls Tryd.prog 22 #[ckV c, .int .i64 now] w fun e w' => e = .returned (.bool (liveB c now)) ∧ Below w.heap.size w w' := by
  obtain ⟨d, p, n, v, cr, ac, ex, ho, se, hp, ss⟩ := c
  have HV : Hid (liveB ⟨d, p, n, v, cr, ac, ex, ho, se, hp, ss⟩ now = (decide (ex = 0) || decide (now < ex))) := rfl
  by_cases h1 : ex = 0
  · have e1 : ((ex : Int) == 0) = true := by simpa using h1
    have H1 := Lib.hid h1
    clear h1
    go_enter Tryd.func22, Tryd.ntmps22
    go_wp2
    go_ret
    exact ⟨ret_bool (by rw [HV.out, decide_eq_true H1.out]; rfl), (Below.refl _ _).alloc (Nat.le_refl _) _⟩
  · have e1 : ((ex : Int) == 0) = false := by simpa using h1
    have H1 := Lib.hid h1
    by_cases h2 : now < ex
    · go_enter Tryd.func22, Tryd.ntmps22
      go_wp2
      go_ret
      exact ⟨ret_bool (by rw [HV.out, decide_eq_true h2]; simp), (Below.refl _ _).alloc (Nat.le_refl _) _⟩
    · go_enter Tryd.func22, Tryd.ntmps22
      go_wp2
      go_ret
      exact ⟨ret_bool (by rw [HV.out, decide_eq_false H1.out, decide_eq_false (show ¬ now < ex by omega)]; simp), (Below.refl _ _).alloc (Nat.le_refl _) _⟩
end Go.Proofs.YtkpdejnhjbojpaaDoor
