/-
  The program's reader of json: array, object, way, value, and Parse.
  The program's json.Parse.
-/
import Derived.Test.YtmnigdcgdebgoaaDoorJsB
namespace Go.Proofs.YtmnigdcgdebgoaaDoor
open Go.RowKit
set_option linter.unusedVariables false

theorem Tells.mono {C D : Nat → Prop} {X : Nat} {s : ByteArray} {v : Value} {l : List It} {w w0 : World} {a : Nat × List It × List UInt8} {e : Ending} {w' : World} (h : Tells C X s v l w a e w') (h0 : Kp D w0 w v v) (hC : ∀ i, i < w0.heap.size → C i → D i) : Tells D X s v l w0 a e w' := by
  obtain ⟨h1, v', hk, h2⟩ := h
  refine ⟨h1, v', ⟨hk.os.trans h0.os, hk.tape.trans h0.tape, hk.output.trans h0.output, Nat.le_trans h0.size hk.size, fun i hi hd hv => ?_, ?_⟩, h2⟩
  · exact (hk.block i (Nat.lt_of_lt_of_le hi h0.size) (fun c => hd (hC i hi c)) hv).trans (h0.block i hi hd hv)
  · rcases hk.own with e | ⟨g, e, hg⟩
    · exact .inl e
    · exact .inr ⟨g, e, Nat.le_trans h0.size hg⟩

theorem cell_new1 (w : World) (x : Value) (T : TypeId) : (w.alloc (.cells #[x] T)).cell? ⟨w.heap.size, 0, none⟩ = some x := by
  rw [cell_of_row _ _ 0 #[x] T (0, 0) (heap_alloc_new w _)]
  rfl

set_option maxRecDepth 100000 in
set_option maxHeartbeats 1600000 in
theorem rarray_any {f : Nat} (HV : ∀ g, g < f → ValueOk g) {w : World} {X : Nat} {s : ByteArray} {k : Nat} {v : Value} {l : List It} (h : Rd w X s k v l) (hT : Tabs w) (hTX : TabX X) (hk : k < s.size) (hs : s.size ≤ 1000000) (hl : l.length ≤ k) (d : Nat) (hd : d ≤ 64) (key : ByteArray) (hf : 2 * (s.size - k) + 1 ≤ f) :
    Calls Tryd.prog 77 #[.pointer (some ⟨X, 0, none⟩), itA d 0 key ByteArray.empty 0] w fun e w' => Tells (· = X) X s v l w (holdF readD f d false key.data.toList (restB s (k + 1))) e w' := by
  have hba := (Below.refl w.heap.size w).alloc (Nat.le_refl _) (.cells #[.int .i64 (d : Int), .int .i64 6, .string key, .string ByteArray.empty, .int .i64 0] 41)
  have hh := h.keep hba
  have hal := rhold_arr (f := f) (C := (· = X)) (I := fun _ _ _ => True) hh trivial (hT.keep hba) hTX hk hs hl d hd key hf (fun _ _ _ _ _ _ _ => trivial) rfl (fun i hi => Nat.le_of_eq hi.symm) (fun i hi e => by subst e; have := hh.lt; omega) (by
    intro hd64 g hg w1 k1 v1 l1 ks hr1 _ hT1 hk1 hl1 _ hf1
    have := HV g hg w1 X s k1 v1 l1 (d + 1) ByteArray.empty hr1 hT1 hTX hk1 hs hl1 (by omega) hf1
    refine this.mono ?_
    rintro e w2 ⟨he, v2, hk2, h2⟩
    refine ⟨?_, v2, hk2, fun h => ?_⟩
    · rw [mem_arr]; exact he
    · rw [mem_arr] at h ⊢
      obtain ⟨k3, h3, h4, h5⟩ := h2 h
      exact ⟨k3, h3, h4, h5, trivial⟩)
  have HAL := Lib.hid hal
  have HKA := Lib.hid (Kp.alloc (· = X) w v (.cells #[.int .i64 (d : Int), .int .i64 6, .string key, .string ByteArray.empty, .int .i64 0] 41))
  clear hal h hh hba HV hT
  unfold itA at HAL ⊢
  obtain ⟨A, hA⟩ : ∃ A, holdF readD f d false key.data.toList (restB s (k + 1)) = A := ⟨_, rfl⟩
  rw [hA] at HAL ⊢
  clear hA
  go_enter Tryd.func77, Tryd.ntmps77
  go_wp2_with fail
  refine HAL.out.mono ?_
  rintro _ w1 ⟨rfl, hr⟩
  have HR := Lib.hid hr
  clear hr HAL
  go_wp2
  go_ret
  exact Tells.mono (C := (· = X)) ⟨rfl, HR.out⟩ HKA.out (fun _ _ h => h)

set_option maxRecDepth 100000 in
set_option maxHeartbeats 1600000 in
theorem robject_any {f : Nat} (HV : ∀ g, g < f → ValueOk g) {w : World} {X : Nat} {s : ByteArray} {k : Nat} {v : Value} {l : List It} (h : Rd w X s k v l) (hT : Tabs w) (hTX : TabX X) (hk : k < s.size) (hs : s.size ≤ 1000000) (hl : l.length ≤ k) (d : Nat) (hd : d ≤ 64) (key : ByteArray) (hf : 2 * (s.size - k) + 1 ≤ f) :
    Calls Tryd.prog 78 #[.pointer (some ⟨X, 0, none⟩), itA d 0 key ByteArray.empty 0] w fun e w' => Tells (· = X) X s v l w (holdF readD f d true key.data.toList (restB s (k + 1))) e w' := by
  obtain ⟨W, hW⟩ : ∃ W, (((w.alloc (.cells #[.pointer (some ⟨X, 0, none⟩)] 86)).alloc (.cells #[.int .i64 (d : Int), .int .i64 7, .string key, .string ByteArray.empty, .int .i64 0] 41)).alloc (.map #[] 0)).alloc (.cells #[.map (some (w.heap.size + 1 + 1))] 51) = W := ⟨_, rfl⟩
  have hlt := h.lt
  have hap : ∀ B, w.heap.size ≤ B → some B ≠ v.ownBlock := fun B hB e => by
    have := (h.row.lt B e.symm).2
    omega
  have hbw : Below w.heap.size w W := by
    rw [← hW]
    exact ((((Below.refl w.heap.size w).alloc (Nat.le_refl _) _).alloc (by simp) _).alloc (by simp; omega) _).alloc (by simp; omega) _
  have hzw : W.heap.size = w.heap.size + 4 := by rw [← hW]; simp
  have hcap : Cap X w.heap.size (w.heap.size + 1 + 1 + 1) (w.heap.size + 1 + 1) W v [] := by
    refine ⟨?_, ?_, ?_, ⟨by omega, by omega, by omega, by omega, by omega⟩, hap _ (by omega), hap _ (by omega), hap _ (by omega)⟩
    · rw [← hW]
      exact ((((Below.refl (w.alloc (.cells #[.pointer (some ⟨X, 0, none⟩)] 86)).heap.size _).alloc (Nat.le_refl _) _).alloc (by simp) _).alloc (by simp) _).cell (p := ⟨w.heap.size, 0, none⟩) (by simp) |>.trans (cell_new1 _ _ _)
    · rw [← hW]
      have e := cell_new1 (((w.alloc (.cells #[.pointer (some ⟨X, 0, none⟩)] 86)).alloc (.cells #[.int .i64 (d : Int), .int .i64 7, .string key, .string ByteArray.empty, .int .i64 0] 41)).alloc (.map #[] 0)) (.map (some (w.heap.size + 1 + 1))) 51
      rw [show (((w.alloc (.cells #[.pointer (some ⟨X, 0, none⟩)] 86)).alloc (.cells #[.int .i64 (d : Int), .int .i64 7, .string key, .string ByteArray.empty, .int .i64 0] 41)).alloc (.map #[] 0)).heap.size = w.heap.size + 1 + 1 + 1 by simp] at e
      exact e
    · rw [← hW]
      have e := SetAt.new ((w.alloc (.cells #[.pointer (some ⟨X, 0, none⟩)] 86)).alloc (.cells #[.int .i64 (d : Int), .int .i64 7, .string key, .string ByteArray.empty, .int .i64 0] 41))
      rw [show ((w.alloc (.cells #[.pointer (some ⟨X, 0, none⟩)] 86)).alloc (.cells #[.int .i64 (d : Int), .int .i64 7, .string key, .string ByteArray.empty, .int .i64 0] 41)).heap.size = w.heap.size + 1 + 1 by simp] at e
      exact e.keep ((Below.refl _ _).alloc (Nat.le_refl _) _)
  have hh := h.keep hbw
  have hob := rhold_obj (f := f) (B1 := w.heap.size) (B2 := w.heap.size + 1 + 1 + 1) (C := fun i => i = X ∨ i = w.heap.size + 1 + 1) (I := Cap X w.heap.size (w.heap.size + 1 + 1 + 1) (w.heap.size + 1 + 1)) hh hcap (hT.keep hbw) hTX hk hs hl d hd key hf (fun _ _ _ _ _ h hk => h.kp hk) (.inl rfl) (fun i hi => by omega) (fun i hi e => by omega) (by
    intro hd64 g hg w1 k1 v1 l1 ks hr1 hc1 hT1 hk1 hl1 hks1 hf1
    exact rmember_any (HV g hg) hr1 hc1 hT1 hTX hk1 hs (by omega) hl1 (d + 1) (by omega) hf1)
  have HOB := Lib.hid hob
  have HKA := Lib.hid (Kp.of_below (C := (· = X)) (v := v) hbw)
  clear hob h hh hbw hcap HV hT
  unfold itA at HOB ⊢
  obtain ⟨A, hA⟩ : ∃ A, holdF readD f d true key.data.toList (restB s (k + 1)) = A := ⟨_, rfl⟩
  rw [hA] at HOB ⊢
  clear hA
  have HWW := Lib.hid hW
  clear hW hap hzw
  have hmm := @run_makeMap Tryd.prog
  go_enter Tryd.func78, Tryd.ntmps78
  go_wp2_with fail
  rw [HWW.out]
  refine HOB.out.mono ?_
  rintro _ w1 ⟨rfl, hr⟩
  have HR := Lib.hid hr
  clear hr HOB hmm HWW
  go_wp2
  go_ret
  exact Tells.mono (C := fun i => i = X ∨ i = w.heap.size + 1 + 1) ⟨rfl, HR.out⟩ HKA.out (fun i hi h => by omega)

/-- The method that reads what begins there. -/
def wayN (r : List UInt8) : Nat := if standsL [91] r then 77 else if standsL [123] r then 78 else if standsL [34] r then 79 else if standsL [45, 48, 49, 50, 51, 52, 53, 54, 55, 56, 57] r then 80 else 81

set_option maxRecDepth 100000 in
set_option maxHeartbeats 1600000 in
theorem rway_any {w : World} {X : Nat} {s : ByteArray} {k : Nat} {v : Value} {l : List It} (h : Rd w X s k v l) (hs : s.size ≤ 1000000) (N : Nat) (hN : wayN (restB s k) = N) :
    Calls Tryd.prog 59 #[.pointer (some ⟨X, 0, none⟩)] w fun e w' => e = .returned (.func (.func N) #[.pointer (some ⟨X, 0, none⟩)] #[]) ∧ Below w.heap.size w w' := by
  have HD := Lib.hid h
  clear h
  subst hN
  unfold wayN
  cases h1 : standsL [91] (restB s k) with
  | true =>
    rw [if_pos rfl]
    go_enter Tryd.func59, Tryd.ntmps59
    go_wp2_with fail
    refine (stands_any HD.out ⟨#[91]⟩ true h1 hs).mono ?_
    rintro _ w1 ⟨rfl, hb1⟩
    go_wp2
    go_ret
    exact ⟨rfl, hb1⟩
  | false =>
    rw [if_neg (by decide)]
    cases h2 : standsL [123] (restB s k) with
    | true =>
      rw [if_pos rfl]
      go_enter Tryd.func59, Tryd.ntmps59
      go_wp2_with fail
      refine (stands_any HD.out ⟨#[91]⟩ false h1 hs).mono ?_
      rintro _ w1 ⟨rfl, hb1⟩
      have HD1 := Lib.hid (HD.out.keep hb1)
      go_wp2_with fail
      refine (stands_any HD1.out ⟨#[123]⟩ true h2 hs).mono ?_
      rintro _ w2 ⟨rfl, hb2⟩
      have hb := chain hb1 hb2
      clear hb1 hb2
      go_wp2
      go_ret
      exact ⟨rfl, hb⟩
    | false =>
      rw [if_neg (by decide)]
      cases h3 : standsL [34] (restB s k) with
      | true =>
        rw [if_pos rfl]
        go_enter Tryd.func59, Tryd.ntmps59
        go_wp2_with fail
        refine (stands_any HD.out ⟨#[91]⟩ false h1 hs).mono ?_
        rintro _ w1 ⟨rfl, hb1⟩
        have HD1 := Lib.hid (HD.out.keep hb1)
        go_wp2_with fail
        refine (stands_any HD1.out ⟨#[123]⟩ false h2 hs).mono ?_
        rintro _ w2 ⟨rfl, hb2⟩
        have HD2 := Lib.hid (HD1.out.keep hb2)
        have hb := chain hb1 hb2
        clear hb1 hb2
        go_wp2_with fail
        refine (stands_any HD2.out ⟨#[34]⟩ true h3 hs).mono ?_
        rintro _ w3 ⟨rfl, hb3⟩
        have hb' := chain hb hb3
        clear hb hb3
        go_wp2
        go_ret
        exact ⟨rfl, hb'⟩
      | false =>
        rw [if_neg (by decide)]
        obtain ⟨b, hb4⟩ : ∃ b, standsL [45, 48, 49, 50, 51, 52, 53, 54, 55, 56, 57] (restB s k) = b := ⟨_, rfl⟩
        rw [hb4]
        cases b
        all_goals
          go_enter Tryd.func59, Tryd.ntmps59
          go_wp2_with fail
          refine (stands_any HD.out ⟨#[91]⟩ false h1 hs).mono ?_
          rintro _ w1 ⟨rfl, hb1⟩
          have HD1 := Lib.hid (HD.out.keep hb1)
          go_wp2_with fail
          refine (stands_any HD1.out ⟨#[123]⟩ false h2 hs).mono ?_
          rintro _ w2 ⟨rfl, hb2⟩
          have HD2 := Lib.hid (HD1.out.keep hb2)
          have hb := chain hb1 hb2
          clear hb1 hb2
          go_wp2_with fail
          refine (stands_any HD2.out ⟨#[34]⟩ false h3 hs).mono ?_
          rintro _ w3 ⟨rfl, hb3⟩
          have HD3 := Lib.hid (HD2.out.keep hb3)
          have hb' := chain hb hb3
          clear hb hb3
          go_wp2_with fail
          refine (stands_any HD3.out ⟨#[45, 48, 49, 50, 51, 52, 53, 54, 55, 56, 57]⟩ _ hb4 hs).mono ?_
          rintro _ w4 ⟨rfl, hb5⟩
          have hb6 := chain hb' hb5
          clear hb' hb5
          go_wp2
          go_ret
          exact ⟨rfl, hb6⟩

theorem num_stands (c : UInt8) : [45, 48, 49, 50, 51, 52, 53, 54, 55, 56, 57].contains c = numH c := by
  have h : ∀ n : Fin 256, [45, 48, 49, 50, 51, 52, 53, 54, 55, 56, 57].contains (UInt8.ofNat n.val) = numH (UInt8.ofNat n.val) := by decide +kernel
  have := h ⟨c.toNat, c.toNat_lt⟩
  simpa using this
theorem one_stands (a c : UInt8) : [a].contains c = decide (c.toNat = a.toNat) := by
  show ((c == a) || false) = _
  rw [Bool.or_false, Bool.eq_iff_iff, beq_iff_eq, decide_eq_true_eq]
  exact ⟨fun h => by rw [h], fun h => UInt8.toNat.inj h⟩

/-- A value, by the byte that stands there. -/
theorem value_way (R : List UInt8 → Option Int) (g d : Nat) (key l r : List UInt8) (h : skipL l = r) : valueF R (g + 1) d key l =
    if standsL [91] r then holdF R g d false key r.tail else if standsL [123] r then holdF R g d true key r.tail
    else if standsL [34] r then okThen (quotF r) (fun u r => (0, [⟨d, 5, key, u, 0⟩], r)) else if standsL [45, 48, 49, 50, 51, 52, 53, 54, 55, 56, 57] r then numF R d key r else wordF d key r := by
  cases r with
  | nil => rw [value_nil R g d key l h]; rfl
  | cons c t =>
    rw [value_cons R g d key l c t h]
    show _ = if [91].contains c = true then _ else if [123].contains c = true then _ else if [34].contains c = true then _ else if [45, 48, 49, 50, 51, 52, 53, 54, 55, 56, 57].contains c = true then _ else _
    rw [num_stands, one_stands, one_stands, one_stands]
    show _ = if decide (c.toNat = 91) = true then _ else if decide (c.toNat = 123) = true then _ else if decide (c.toNat = 34) = true then _ else _
    have hold : ∀ o : Bool, (if 64 ≤ d then (81, [], []) else if (skipL t).head? = some (shutO o) then (0, [(⟨d, kindO o, key, [], 0⟩ : It)], (skipL t).tail) else okThen (listF R g (d + 1) o [] t) fun m r => (0, ⟨d, kindO o, key, [], 0⟩ :: m, r)) = holdF R g d o key t := by
      intro o
      unfold holdF signR signF
      by_cases h1 : 64 ≤ d
      · rw [if_pos h1, if_pos h1]
      · rw [if_neg h1, if_neg h1]
        by_cases h2 : (skipL t).head? = some (shutO o)
        · have e : ((skipL t).head? == some (shutO o)) = true := by simpa using h2
          rw [if_pos h2, e, if_pos rfl, if_pos rfl]
        · have e : ((skipL t).head? == some (shutO o)) = false := by simpa using h2
          rw [if_neg h2, e, if_neg (by decide)]
          rfl
    by_cases h1 : c.toNat = 91
    · rw [if_pos (show c.toNat = 91 ∨ c.toNat = 123 from .inl h1), if_pos (show decide (c.toNat = 91) = true by simpa using h1)]
      have e : (c.toNat == 123) = false := by rw [h1]; rfl
      rw [e]
      exact hold false
    · rw [if_neg (show ¬ decide (c.toNat = 91) = true by simpa using h1)]
      by_cases h2 : c.toNat = 123
      · rw [if_pos (show c.toNat = 91 ∨ c.toNat = 123 from .inr h2), if_pos (show decide (c.toNat = 123) = true by simpa using h2)]
        have e : (c.toNat == 123) = true := by rw [h2]; rfl
        rw [e]
        exact hold true
      · rw [if_neg (show ¬ (c.toNat = 91 ∨ c.toNat = 123) by omega), if_neg (show ¬ decide (c.toNat = 123) = true by simpa using h2)]
        by_cases h3 : c.toNat = 34
        · rw [if_pos h3, if_pos (show decide (c.toNat = 34) = true by simpa using h3)]
        · rw [if_neg h3, if_neg (show ¬ decide (c.toNat = 34) = true by simpa using h3)]
          rfl

set_option maxRecDepth 100000 in
set_option maxHeartbeats 1600000 in
theorem rvalue_step {g : Nat} (HV : ∀ g', g' < g → ValueOk g') : ValueOk (g + 1) := by
  intro w X s k v l d key h hT hTX hk hs hl hd hf
  have hba := (Below.refl w.heap.size w).alloc (Nat.le_refl _) (.cells #[.int .i64 (d : Int), .int .i64 0, .string key, .string ByteArray.empty, .int .i64 0] 41)
  have hKa := Kp.alloc (· = X) w v (.cells #[.int .i64 (d : Int), .int .i64 0, .string key, .string ByteArray.empty, .int .i64 0] 41)
  have HB := Lib.hid (Box.new w (.int .i64 (d : Int)) (.int .i64 0) (.string key) (.string ByteArray.empty) (.int .i64 0))
  have HAP := Lib.hid h.apart
  have HD := Lib.hid (h.keep hba)
  have HT := Lib.hid (hT.keep hba)
  have HKA := Lib.hid hKa
  have HVV := Lib.hid HV
  obtain ⟨A, hA⟩ : ∃ A, valueF readD (g + 1) d key.data.toList (restB s k) = A := ⟨_, rfl⟩
  rw [hA]
  have HA := Lib.hid hA
  clear hA HV h hT hba hKa
  unfold itA
  go_enter Tryd.func40, Tryd.ntmps40
  go_wp2_with fail
  refine (skip_any HD.out hk hs).mono ?_
  rintro _ w1 ⟨rfl, j, hj, hrj, hd1, hk1⟩
  have hz1 : s.size - j ≤ s.size - k := by
    have e := skip_len (restB s k)
    rw [← hrj, restB_len, restB_len] at e
    exact e
  have HA1 := Lib.hid (HA.out.symm.trans (value_way readD g d key.data.toList (restB s k) (restB s j) hrj.symm))
  have HD1 := Lib.hid hd1
  have HB1 := Lib.hid (HB.out.kp hk1 HAP.out.1 HAP.out.2)
  have HT1 := Lib.hid (HT.out.kp hTX HD.out hk1 (fun i hi => Nat.le_of_eq hi.symm))
  have HK1 := Lib.hid (HKA.out.trans hk1)
  clear hrj hd1 hk1 HD HB HT HKA HA
  obtain ⟨N, hN⟩ : ∃ N, wayN (restB s j) = N := ⟨_, rfl⟩
  have HN := Lib.hid hN
  clear hN
  go_wp2_with fail
  refine (rway_any HD1.out hs N HN.out).mono ?_
  rintro _ w2 ⟨rfl, hb2⟩
  have HD2 := Lib.hid (HD1.out.keep hb2)
  have HB2 := Lib.hid (HB1.out.keep hb2)
  have HT2 := Lib.hid (HT1.out.keep hb2)
  have HK2 := Lib.hid (HK1.out.trans (Kp.of_below hb2))
  clear hb2 HD1 HB1 HT1 HK1
  obtain ⟨b0, b1, b2, b3, b4⟩ := HB2.out.cells
  have hjl : l.length ≤ j := by omega
  have hjf : 2 * (s.size - j) + 1 ≤ g := by omega
  have finish : ∀ B : Nat × List It × List UInt8, A = B → ∀ e w', Tells (· = X) X s v l w2 B e w' → Tells (· = X) X s v l w A e w' := by
    intro B hB e w' ht
    rw [hB]
    exact ht.mono HK2.out (fun _ _ h => h)
  have HF := Lib.hid finish
  clear finish
  have htail : j < s.size → (restB s j).tail = restB s (j + 1) := fun hlt => by rw [restB_cons s j hlt]; rfl
  have hlt_of : ∀ those, standsL those (restB s j) = true → j < s.size := fun those hst => by
    rcases Nat.lt_or_ge j s.size with h | h
    · exact h
    · rw [restB_nil s j (by omega)] at hst
      cases hst
  have HTL := Lib.hid htail
  have HLO := Lib.hid hlt_of
  clear htail hlt_of
  unfold wayN at HN
  cases h1 : standsL [91] (restB s j) with
  | true =>
    rw [h1, if_pos rfl] at HN HA1
    have hlt := HLO.out _ h1
    rw [HTL.out hlt] at HA1
    have HNN : Hid (77 = N) := HN
    have hNN := HNN.out
    subst hNN
    clear HN HNN h1
    go_wp2_with fail
    refine (rarray_any HVV.out HD2.out HT2.out hTX hlt hs hjl d hd key hjf).mono ?_
    rintro _ w3 ⟨rfl, hr⟩
    have HR := Lib.hid hr
    clear hr
    go_wp2
    go_ret
    exact HF.out _ HA1.out _ _ ⟨rfl, HR.out⟩
  | false =>
    rw [h1, if_neg (by decide)] at HN HA1
    cases h2 : standsL [123] (restB s j) with
    | true =>
      rw [h2, if_pos rfl] at HN HA1
      have hlt := HLO.out _ h2
      rw [HTL.out hlt] at HA1
      have HNN : Hid (78 = N) := HN
      have hNN := HNN.out
      subst hNN
      clear HN HNN h1 h2
      go_wp2_with fail
      refine (robject_any HVV.out HD2.out HT2.out hTX hlt hs hjl d hd key hjf).mono ?_
      rintro _ w3 ⟨rfl, hr⟩
      have HR := Lib.hid hr
      clear hr
      go_wp2
      go_ret
      exact HF.out _ HA1.out _ _ ⟨rfl, HR.out⟩
    | false =>
      rw [h2, if_neg (by decide)] at HN HA1
      cases h3 : standsL [34] (restB s j) with
      | true =>
        rw [h3, if_pos rfl] at HN HA1
        have HNN : Hid (79 = N) := HN
        have hNN := HNN.out
        subst hNN
        clear HN HNN h1 h2 h3
        go_wp2_with fail
        refine (str_any HD2.out HT2.out hj hs (by omega) d key).mono ?_
        rintro _ w3 ⟨rfl, hr⟩
        have HR := Lib.hid hr
        clear hr
        go_wp2
        go_ret
        exact HF.out _ HA1.out _ _ ⟨rfl, HR.out⟩
      | false =>
        rw [h3, if_neg (by decide)] at HN HA1
        cases h4 : standsL [45, 48, 49, 50, 51, 52, 53, 54, 55, 56, 57] (restB s j) with
        | true =>
          rw [h4, if_pos rfl] at HN HA1
          have HNN : Hid (80 = N) := HN
          have hNN := HNN.out
          subst hNN
          clear HN HNN h1 h2 h3 h4
          go_wp2_with fail
          refine (number_any HD2.out hj hs (by omega) d key).mono ?_
          rintro _ w3 ⟨rfl, hr⟩
          have HR := Lib.hid hr
          clear hr
          go_wp2
          go_ret
          exact HF.out _ HA1.out _ _ ⟨rfl, HR.out⟩
        | false =>
          rw [h4, if_neg (by decide)] at HN HA1
          have HNN : Hid (81 = N) := HN
          have hNN := HNN.out
          subst hNN
          clear HN HNN h1 h2 h3 h4
          go_wp2_with fail
          refine (rword_any HD2.out hj hs (by omega) d key).mono ?_
          rintro _ w3 ⟨rfl, hr⟩
          have HR := Lib.hid hr
          clear hr
          go_wp2
          go_ret
          exact HF.out _ HA1.out _ _ ⟨rfl, HR.out⟩

theorem rvalue_any : ∀ f, ValueOk f := by
  intro f
  induction f using Nat.strongRecOn with
  | _ f ih =>
    cases f with
    | zero =>
      intro w X s k v l d key h hT hTX hk hs hl hd hf
      omega
    | succ g => exact rvalue_step (fun g' hg' => ih g' (by omega))
end Go.Proofs.YtmnigdcgdebgoaaDoor
namespace Go.Proofs.YtmnigdcgdebgoaaDoor
open Go.RowKit
set_option linter.unusedVariables false

/-- The items that a slice of items holds (of the program's or of the document's type: they lie alike). -/
def ItsAt (w : World) (v : Value) (l : List It) : Prop :=
  (v = .slice none 0 0 ∧ l = []) ∨ ∃ ad cap, v = .slice (some ad) l.length cap ∧ l.length ≤ cap ∧ ∀ j u, (itsV l)[j]? = some u → w.cell? (ad.add j) = some u
theorem ItsAt.nil (w : World) : ItsAt w (.slice none 0 0) [] := .inl ⟨rfl, rfl⟩
theorem ItsAt.keep {w w' : World} {v : Value} {l : List It} (h : ItsAt w v l) (hb : Below w.heap.size w w') : ItsAt w' v l := by
  rcases h with h | ⟨ad, cap, h1, h2, h3⟩
  · exact .inl h
  · refine .inr ⟨ad, cap, h1, h2, fun j u hj => ?_⟩
    have h4 := h3 j u hj
    rw [hb.cell (World.block_lt_of_cell? w _ h4)]
    exact h4
theorem row_items {w : World} {base : Nat} {e : TypeId} {v : Value} {l : List It} (h : w.ownsRow base e 5 v l.length (itsV l)) : ItsAt w v l := by
  have h0 := h
  obtain ⟨_, ⟨rfl, hn⟩ | ⟨g, cap, cur, rfl, _, _, hle, _⟩⟩ := h
  · exact .inl ⟨rfl, List.length_eq_zero_iff.1 hn⟩
  · exact .inr ⟨⟨g, 0, none⟩, cap, rfl, hle, fun j u hj => World.ownsRow.cells h0 rfl j u hj⟩

/-- What Parse tells, and leaves. -/
def Parsed (w : World) (a : Nat × List It) (e : Ending) (w' : World) : Prop :=
  ∃ v, e = .returned (.tuple #[v, .int .i64 (a.1 : Int)]) ∧ ItsAt w' v a.2 ∧ Below w.heap.size w w'

theorem tabs_below {w : World} (h : Tabs w) : TabX w.heap.size := by
  refine ⟨?_, ?_⟩
  · exact World.block_lt_of_cell? w _ (h.1 0 (by decide))
  · exact World.block_lt_of_cell? w _ (h.2 0 (by decide)).1

theorem frozen_none {w : World} {B : Nat} {cs : Array Value} {T : TypeId} (h : w.heap[B]? = some (.cells cs T (0, 0))) (j : Nat) : w.frozen? ⟨B, j, none⟩ = false := by
  simp [World.frozen?, h]

set_option maxRecDepth 100000 in
set_option maxHeartbeats 1600000 in
theorem jparse_any (s : ByteArray) (w : World) (hT : Tabs w) (hs : s.size ≤ 1000000) :
    Calls Tryd.prog 20 #[.string s] w fun e w' => Parsed w (parseL readD s.data.toList) e w' := by
  obtain ⟨A, hA⟩ : ∃ A, parseL readD s.data.toList = A := ⟨_, rfl⟩
  rw [hA]
  have hba := (Below.refl w.heap.size w).alloc (Nat.le_refl _) (.cells #[.string s, .int .i64 0, .slice none 0 0] 73)
  have hrd : Rd (w.alloc (.cells #[.string s, .int .i64 0, .slice none 0 0] 73)) w.heap.size s 0 (.slice none 0 0) [] := by
    have hc : ∀ j, (w.alloc (.cells #[.string s, .int .i64 0, .slice none 0 0] 73)).cell? ⟨w.heap.size, j, none⟩ = #[.string s, .int .i64 0, .slice none 0 0][j]? := fun j => cell_of_row _ _ j _ _ _ (heap_alloc_new w _)
    have hf : ∀ j, (w.alloc (.cells #[.string s, .int .i64 0, .slice none 0 0] 73)).frozen? ⟨w.heap.size, j, none⟩ = false := fun j => frozen_none (heap_alloc_new w _) j
    exact ⟨hc 0, hc 1, hc 2, hf 1, hf 2, RowP.nil _ _⟩
  have hTX := tabs_below hT
  have hval := rvalue_any (2 * s.size + 2) _ w.heap.size s 0 (.slice none 0 0) [] 0 ByteArray.empty hrd (hT.keep hba) hTX (Nat.zero_le _) hs (Nat.le_refl _) (Nat.zero_le _) (by omega)
  rw [show restB s 0 = s.data.toList from List.drop_zero] at hval
  obtain ⟨E, x, r, hq⟩ : ∃ E x r, valueF readD (2 * s.size + 2) 0 [] s.data.toList = (E, x, r) := ⟨_, _, _, rfl⟩
  have hA2 : A = if E = 0 then (if skipL r = [] then (0, x) else (80, [])) else (E, []) := by
    rw [← hA]
    unfold parseL
    rw [list_len, hq]
  rw [show ByteArray.empty.data.toList = [] from rfl, hq] at hval
  have HVAL := Lib.hid hval
  have HA2 := Lib.hid hA2
  have HBA := Lib.hid hba
  have HRD := Lib.hid hrd
  clear hval hA2 hA hq hba hrd hT
  unfold itA at HVAL
  by_cases hE : E = 0
  · subst hE
    rw [if_pos rfl] at HA2
    go_enter Tryd.func20, Tryd.ntmps20
    go_wp2_with fail
    refine HVAL.out.mono ?_
    rintro _ w1 ⟨rfl, v1, hk1, h1⟩
    obtain ⟨k1, hk1s, hr1, hd1⟩ := h1 (by first | rfl | trivial)
    have HR1 := Lib.hid hr1
    have HD1 := Lib.hid hd1
    have HK1 := Lib.hid hk1
    clear h1 hr1 hd1 hk1 HVAL
    go_wp2_with fail
    refine (skip_any HD1.out hk1s hs).mono ?_
    rintro _ w2 ⟨rfl, j, hj, hrj, hd2, hk2⟩
    rw [HR1.out] at hrj
    have hK := HK1.out.trans hk2
    have hbl : Below w.heap.size w w2 := by
      have e := hK.below (X := w.heap.size) (fun i hi => Nat.le_of_eq hi.symm) (fun k hk => by cases hk) (by simp)
      exact HBA.out.trans e
    have HBL := Lib.hid hbl
    have HRJ := Lib.hid hrj
    have HD2 := Lib.hid hd2
    have hc1 := hd2.c1
    have hc2 := hd2.c2
    clear hrj hd2 hk2 hK hbl HK1 HD1 HR1
    by_cases hlt : j < s.size
    · have HA3 : Hid (A = (80, [])) := by
        show _ = _
        rw [HA2.out, if_neg]
        rw [← HRJ.out, restB_cons s j hlt]
        simp
      go_wp2
      go_ret2
      rw [HA3.out]
      exact ⟨_, rfl, ItsAt.nil _, HBL.out⟩
    · have HA3 : Hid (A = (0, x)) := by
        show _ = _
        rw [HA2.out, if_pos]
        rw [← HRJ.out, restB_nil s j hlt]
      go_wp2
      go_ret2
      rw [HA3.out]
      exact ⟨v1, rfl, row_items HD2.out.row, HBL.out⟩
  · have z1 : ((E : Int) == 0) = false := by rw [beq_eq_false_iff_ne]; omega
    have z2 : ((E : Int) != 0) = true := by simp; omega
    have z3 : ¬ (E : Int) = 0 := by omega
    rw [if_neg hE] at HA2
    go_enter Tryd.func20, Tryd.ntmps20
    go_wp2_with fail
    refine HVAL.out.mono ?_
    rintro _ w1 ⟨rfl, v1, hk1, h1⟩
    have hbl : Below w.heap.size w w1 := by
      have e := hk1.below (X := w.heap.size) (fun i hi => Nat.le_of_eq hi.symm) (fun k hk => by cases hk) (by simp)
      exact HBA.out.trans e
    have HBL := Lib.hid hbl
    clear h1 hk1 hbl HVAL
    go_wp2
    go_ret2
    rw [HA2.out]
    exact ⟨_, rfl, ItsAt.nil _, HBL.out⟩
end Go.Proofs.YtmnigdcgdebgoaaDoor
