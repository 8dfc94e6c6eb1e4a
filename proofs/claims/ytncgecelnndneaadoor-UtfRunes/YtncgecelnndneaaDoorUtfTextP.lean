/-
  The program's Text (package utf): a contract.
-/
import Derived.Test.YtncgecelnndneaaDoorUtfPutP
import Derived.Deep.OwnRows
namespace Go.Proofs.YtncgecelnndneaaDoor
open Go.RowKit
set_option linter.unusedVariables false

theorem Tryd.infoRune : (Tryd.prog.info? 21).map (fun i => (i.zero, i.size, i.bytes)) = some (some (.int .i32 0), 1, 4) := by kernel_rfl

/-- Block g has the numbers l, of 32 bits each, and may be written. -/
def RunAt (w : World) (g : Nat) (l : List Int) : Prop :=
  (∀ j (hj : j < l.length), w.cell? ⟨g, j, none⟩ = some (.int .i32 l[j])) ∧ (∀ j, j < l.length → w.frozen? ⟨g, j, none⟩ = false)

theorem RunAt.set {w : World} {g : Nat} {l : List Int} (h : RunAt w g l) (k : Nat) (hk : k < l.length) (v : Int) :
    RunAt (w.setCell ⟨g, k, none⟩ (.int .i32 v)) g (l.set k v) := by
  refine ⟨fun j hj => ?_, fun j hj => ?_⟩
  · have hj' : j < l.length := by simpa using hj
    by_cases e : j = k
    · subst e
      rw [World.cell?_setCell_same w _ _ (h.1 j hj')]
      simp
    · rw [World.cell?_setCell_other w _ _ _ (fun h => e (by injection h; omega)), h.1 j hj', List.getElem_set_ne (by omega)]
  · rw [World.frozen?_setCell]
    exact h.2 j (by simpa using hj)

theorem run_made (w : World) (n : Nat) : RunAt (w.alloc (.cells (madeCells #[.int .i32 0] n) 21)) w.heap.size (List.replicate n 0) := by
  refine ⟨fun j hj => ?_, fun j hj => ?_⟩
  · have hj' : j < n := by simpa using hj
    simp [madeCells, hj', Nat.mod_one]
  · simp

/-- What a round does to the row. -/
def rowK (l : List Int) (k : Nat) : List Int := l.take k ++ List.replicate (l.length - k) 0

theorem rowK_len (l : List Int) (k : Nat) (h : k ≤ l.length) : (rowK l k).length = l.length := by
  unfold rowK
  rw [List.length_append, List.length_take, List.length_replicate]
  omega

theorem rowK_step (l : List Int) (k : Nat) (h : k < l.length) : (rowK l k).set k l[k] = rowK l (k + 1) := by
  unfold rowK
  rw [List.set_append_right _ _ (by rw [List.length_take]; omega), List.length_take, Nat.min_eq_left (by omega), Nat.sub_self, show l.length - k = (l.length - (k + 1)) + 1 by omega, List.replicate_succ, List.set_cons_zero, List.take_succ_eq_append_getElem h, List.append_assoc]
  rfl

theorem rowK_end (l : List Int) (k : Nat) (h : ¬ k < l.length) : rowK l k = l := by
  unfold rowK
  rw [List.take_of_length_le (by omega), show l.length - k = 0 by omega]
  simp

theorem fold_text : ∀ (l : List Int) (b : ByteArray), allL l = true → (l.foldl (fun r n => r ++ Utf8.encode n) b) = b ++ textB l
  | [], b, _ => by
    apply ba_ext
    rw [app_list, textB_list]
    simp [natsI, textU]
  | r :: l, b, h => by
    have h' : letB r = true ∧ allL l = true := by simpa [allL] using h
    obtain ⟨e1, e2⟩ := letB_letter r h'.1
    rw [List.foldl_cons, fold_text l _ h'.2]
    apply ba_ext
    have e3 : Utf8.encode r = putUB r.toNat := (congrArg Utf8.encode e1).trans (encode_put _ e2)
    rw [app_list, app_list, app_list, textB_list, textB_list, e3]
    simp [natsI, textU, putUB]

theorem run_text (l : List Int) (h : allL l = true) : runesBytes l = textB l := by
  unfold runesBytes
  rw [fold_text l _ h]
  apply ba_ext
  rw [app_list]
  simp

theorem RunAt.back {w : World} {g : Nat} {l : List Int} (h : RunAt w g l) (n cap : Nat) (hn : n = l.length) (ha : allL l = true) : Sem.run Tryd.prog (convert 44 9 (.slice (some ⟨g, 0, none⟩) n cap)) w = .ok (.string (textB l)) w := by
  subst hn
  have c := run_convert_runes (P := Tryd.prog) w 44 9 21 ⟨g, 0, none⟩ l.length cap l (Nat.le_refl _) Tryd.underlying44 Tryd.underlying21 Tryd.underlying9 (fun j hj => by
    have e : (⟨g, 0, none⟩ : Addr).add j = ⟨g, j, none⟩ := by cases j <;> simp [Addr.add]
    rw [e, h.1 j hj, List.getD_eq_getElem?_getD, List.getElem?_eq_getElem hj]
    rfl)
  rw [List.take_length, run_text l ha] at c
  exact c

/-- What the loop of Text holds. -/
def TextIn (l : List Int) (g : Nat) (w0 : World) (i : Value) (wr : World) : Prop :=
  ∃ k : Nat, k ≤ l.length ∧ i = .int .i64 (k : Int) ∧ allL (l.take k) = true ∧ RunAt wr g (rowK l k) ∧ Below g w0 wr

theorem textV_yes {l : List Int} (h : allL l = true) : textV l = .tuple #[.string (textB l), .bool true] := by unfold textV; rw [h]; rfl
theorem textV_no {l : List Int} (h : allL l = false) : textV l = .tuple #[.string ByteArray.empty, .bool false] := by unfold textV; rw [h]; rfl

theorem below_set {B : Nat} {a w : World} (h : Below B a w) (p : Addr) (hp : B ≤ p.block) (v : Value) : Below B a (w.setCell p v) := h.setCell hp v

set_option maxRecDepth 100000 in
set_option maxHeartbeats 1600000 in
theorem text_any (v : Value) (l : List Int) (w : World) (hv : IntsAt w v l) (hl : l.length ≤ 1000000000000) (hb : ∀ n ∈ l, -9223372036854775808 ≤ n ∧ n ≤ 9223372036854775807) :
    Calls Tryd.prog 14 #[v] w fun e w' => e = .returned (textV l) ∧ Below w.heap.size w w' := by
  obtain ⟨ao, n, cap, rfl, hn, hcell⟩ := hv.shape
  have HC := Lib.hid hcell
  have n1 : n ≤ l.length := by omega
  have n2 : l.length ≤ n := by omega
  have hmk := run_make_row' (P := Tryd.prog) 44 21 (.int .i32 0) 4 Tryd.underlying44 Tryd.infoRune rfl .i64 .i64 n (by omega) (by omega)
  have HR0 := Lib.hid (run_made w n)
  clear hcell hv hn hb
  go_enter Tryd.func14, Tryd.ntmps14
  go_wp2
  clear hmk
  go_loopw [12] (fun i wr => TextIn l w.heap.size w i wr) (fun i _ => n - (intOf i).toNat)
  case atStart =>
    refine ⟨0, by omega, rfl, rfl, ?_, (Below.refl _ _).alloc (Nat.le_refl _) _⟩
    have h := HR0.out
    rw [show List.replicate n (0 : Int) = rowK l 0 by unfold rowK; rw [List.take_zero, List.nil_append, show n = l.length - 0 by omega]] at h
    exact h
  case round =>
    obtain ⟨k, hk, rfl, ha, hrow, hbe⟩ := hrel
    have HA := Lib.hid ha
    have HR := Lib.hid hrow
    clear ha hrow HR0
    by_cases hlt : k < l.length
    · obtain ⟨ad, rfl, hcl0⟩ := HC.out k hlt
      have hcl : wr.cell? (ad.add k) = some (.int .i64 l[k]) := by
        rw [hbe.cell (World.block_lt_of_cell? w _ hcl0)]
        exact hcl0
      obtain ⟨r, hr⟩ : ∃ r, r = l[k] := ⟨_, rfl⟩
      rw [← hr] at hcl
      have HRK := Lib.hid hr
      clear hr HC hcl0
      by_cases hlet : letB r = true
      · have hS := text_step l k r hlt HRK.out hlet HA.out
        obtain ⟨e1, e2⟩ := letB_letter r hlet
        have g0 : 0 ≤ r := by omega
        have g1 : r ≤ 1114111 := by have := e2.1; omega
        have HS := Lib.hid hS.2
        have hlk : k < (rowK l k).length := by rw [rowK_len l k hk]; exact hlt
        have hc2 := HR.out.1 k hlk
        have hf2 := HR.out.2 k hlk
        have hR2 := HR.out.set k hlk r
        have est : (rowK l k).set k r = rowK l (k + 1) := by rw [HRK.out]; exact rowK_step l k hlt
        rw [est] at hR2
        have hb2 := below_set hbe ⟨w.heap.size, k, none⟩ (Nat.le_refl _) (.int .i32 r)
        have HR2 := Lib.hid hR2
        have HL := Lib.hid hlet
        generalize (rowK l k)[k] = old at hc2
        clear hS e1 e2 hlk hR2 est HR hlet
        go_wp2_with fail
        refine (at_letter _ HL.out).mono ?_
        rintro _ w1 ⟨rfl, rfl⟩
        clear HL
        go_wp2
        go_roundw
        case rel => exact ⟨k + 1, by omega, by go_num, HS.out, HR2.out, hb2⟩
        case measure => simp [intOf]; omega
      · have hno : letB r = false := by simpa using hlet
        have HE := Lib.hid (textV_no (allL_not l k hlt (by rw [← HRK.out]; exact hno)))
        have HL := Lib.hid hno
        clear hlet hno HR HA HRK
        go_wp2_with fail
        refine (at_letter _ HL.out).mono ?_
        rintro _ w1 ⟨rfl, rfl⟩
        clear HL
        go_wp2
        go_ret2
        rw [HE.out]
        exact ⟨rfl, hbe⟩
    · have ek : l.take k = l := List.take_of_length_le (by omega)
      have ha := HA.out
      rw [ek] at ha
      have hrow := HR.out
      rw [rowK_end l k hlt] at hrow
      have hcv := hrow.back n n (by omega) ha
      have HE := Lib.hid (textV_yes ha)
      clear ek HA HC ha hrow HR
      go_wp2
      go_ret2
      rw [HE.out]
      exact ⟨rfl, hbe⟩
end Go.Proofs.YtncgecelnndneaaDoor
