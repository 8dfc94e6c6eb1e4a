/-
  For every number r and either kind of digits, cracknellaw07.QuoteDigits(r, great) returns true. Conditions: none beyond the form's own.
-/
import Derived.Test.YtfpokkpklbkhiaaDoorQuoteFour
import Derived.Test.YtfpokkpklbkhiaaDoorUtfLaid
import Derived.Test.YtfpokkpklbkhiaaDoorTie
import Derived.Test.YtfpokkpklbkhiaaDoorCards
import Derived.SevenTiedAt
import Derived.LaidLaws
import Derived.Stop.Joined
import Derived.ProofKit
import Derived.OpenShut
import Derived.ShutString
import Derived.ChangeOld
import Derived.SizedLaws
namespace Go.Proofs.YtfpokkpklbkhiaaDoor.quoteDigits
open Go.ChangeShapes Go.WideShapes Go.ChangeAt Go.RowKit
open Go.ChangeMaps (open_string shut_string)
set_option linter.unusedVariables false

theorem own : ownKnob Tryd.prog.godebug = none := by kernel_rfl

theorem let_nat (r : Int) (h : letB r = true) : ∃ n : Nat, r = (n : Int) ∧ letter n := by
  obtain ⟨h0, h1, h2⟩ := (letB_iff r).1 h
  refine ⟨r.toNat, by omega, ?_⟩
  unfold letter
  omega
theorem box_world (w w1 : World) (g : Bool) (hb1 : Below w.heap.size w w1) : (w1.alloc (.cells #[.string (signsB g)] 9)).cell? ⟨w1.heap.size, 0, none⟩ = some (.string (signsB g)) ∧ Below w.heap.size w (w1.alloc (.cells #[.string (signsB g)] 9)) := by
  refine ⟨?_, hb1.alloc hb1.size _⟩
  have := cell_of_row (w1.alloc (.cells #[.string (signsB g)] 9)) w1.heap.size 0 #[.string (signsB g)] 9 (0, 0) (heap_alloc_new w1 _)
  rw [this]
  rfl
theorem box_kept (w w1 w2 : World) (g : Bool) (hb1 : Below w.heap.size w w1) (hb : Below (w1.alloc (.cells #[.string (signsB g)] 9)).heap.size (w1.alloc (.cells #[.string (signsB g)] 9)) w2) : w2.cell? ⟨w1.heap.size, 0, none⟩ = some (.string (signsB g)) ∧ Below w.heap.size w w2 ∧ w1.heap.size < w2.heap.size := by
  have h := box_world w w1 g hb1
  have hz : w1.heap.size < (w1.alloc (.cells #[.string (signsB g)] 9)).heap.size := by rw [World.size_alloc]; omega
  exact ⟨(hb.cell (p := ⟨w1.heap.size, 0, none⟩) hz).trans h.1, chain h.2 hb, Nat.lt_of_lt_of_le hz hb.size⟩
theorem four_size (g : Bool) (n : Nat) : (fourB g n).size = 6 := rfl
theorem dig_small (g : Bool) (r : Nat) (h : r < 65536) : fourB g r = ⟨(digitsL g r).toArray⟩ := by
  unfold digitsL
  rw [if_pos h]
  rfl
theorem dig_great (g : Bool) (r hi lo : Nat) (h : ¬ r < 65536) (h1 : (r - 65536) / 1024 = hi) (h2 : (r - 65536) % 1024 = lo) : fourB g (55296 + hi) ++ fourB g (56320 + lo) = ⟨(digitsL g r).toArray⟩ := by
  unfold digitsL
  rw [if_neg h, h1, h2]
  apply ba_ext
  rw [app_list]
  rfl
theorem read_dig (g : Bool) (r : Nat) (hr : letter r) (s : ByteArray) (hs : s = ⟨(digitsL g r).toArray⟩) : pieceW (readQ ((⟨#[34]⟩ : ByteArray) ++ s ++ (⟨#[34]⟩ : ByteArray)).data.toList) = .tuple #[.string (putUB r), .int .i64 ((s.size : Int) + 2), .int .i64 0] := by
  subst hs
  rw [bytes_size, app_list, app_list]
  show pieceW (readQ (34 :: (digitsL g r ++ [34]))) = _
  rw [read_digits g r hr]
  rfl

set_option maxRecDepth 100000 in
set_option maxHeartbeats 1600000 in
theorem walk (a0 : Int) (a1 : Bool) (w0 : (Lit.int .i64 a0).wf = true) (w : World) (hT : Tabs w) :
    Calls Tryd.prog 5 #[.int .i64 a0, .bool a1] w fun e w' => e = .returned (.bool true) ∧ Below w.heap.size w w' := by
  have HT := Lib.hid hT
  clear hT
  cases hl : letB a0 with
  | false =>
    have HL := Lib.hid hl
    clear hl
    go_enter Tryd.func5, Tryd.ntmps5
    go_wp2_with fail
    refine (rputu_no a0 _ HL.out).mono ?_
    rintro _ w1 ⟨rfl, hb1⟩
    go_wp2_with fail
    refine (alive_any _ (HT.out.keep hb1)).mono ?_
    rintro _ w2 ⟨rfl, hb⟩
    have hb2 := chain hb1 hb
    go_wp2
    go_ret
    exact ⟨rfl, hb2⟩
  | true =>
    obtain ⟨r, hr, hlet⟩ := let_nat a0 hl
    have hr1 := hlet.1
    have HR := Lib.hid hr
    have HL := Lib.hid hlet
    by_cases hbig : r < 65536
    · have z1 : a0 < 65536 := by omega
      clear hl hr hlet
      cases a1 with
      | false =>
        obtain ⟨s, hs⟩ : ∃ s, fourB false r = s := ⟨_, rfl⟩
        have hz : s.size = 6 := by rw [← hs]; rfl
        have HD := Lib.hid (read_dig false r HL.out s (hs.symm.trans (dig_small false r hbig)))
        have HS := Lib.hid hs
        clear hs hbig
        have e1 : (⟨#[34]⟩ : ByteArray).size + s.size ≤ 9223372036854775807 := by rw [hz]; decide
        have e3 : ((⟨#[34]⟩ : ByteArray) ++ s).size = 7 := by rw [ByteArray.size_append, hz]; rfl
        have e2 : ((⟨#[34]⟩ : ByteArray) ++ s).size + (⟨#[34]⟩ : ByteArray).size ≤ 9223372036854775807 := by rw [e3]; decide
        have e4 : ((⟨#[34]⟩ : ByteArray) ++ s ++ (⟨#[34]⟩ : ByteArray)).size ≤ 140737488351232 := by rw [ByteArray.size_append, e3]; decide
        have E4 := Lib.hid e4
        have hadd1 := fun W => run_string_add_sum (P := Tryd.prog) (w := W) (⟨#[34]⟩ : ByteArray) s e1
        have hadd2 := fun W => run_string_add_sum (P := Tryd.prog) (w := W) ((⟨#[34]⟩ : ByteArray) ++ s) (⟨#[34]⟩ : ByteArray) e2
        clear e1 e2 e3 e4
        go_enter Tryd.func5, Tryd.ntmps5
        go_wp2_with fail
        refine (at_rputu r a0 _ HR.out HL.out).mono ?_
        rintro _ w1 ⟨rfl, hb1⟩
        go_wp2_with fail
        refine (four_any false r a0 _ _ HR.out hr1 (box_world w w1 false hb1).1).mono ?_
        rintro _ w2 ⟨rfl, hb⟩
        obtain ⟨-, hb2, -⟩ := box_kept w w1 w2 false hb1 hb
        clear hb hb1
        rw [HS.out]
        go_wp2_with fail
        refine (at_qread _ _ _ _ _ (HT.out.keep hb2) E4.out HD.out).mono ?_
        rintro _ w3 ⟨rfl, hb⟩
        have hb3 := chain hb2 hb
        clear hb hb2
        go_wp2_with fail
        refine (alive_any _ (HT.out.keep hb3)).mono ?_
        rintro _ w4 ⟨rfl, hb⟩
        have hb4 := chain hb3 hb
        clear hb hb3
        go_wp2
        go_ret
        exact ⟨rfl, hb4⟩
      | true =>
        obtain ⟨s, hs⟩ : ∃ s, fourB true r = s := ⟨_, rfl⟩
        have hz : s.size = 6 := by rw [← hs]; rfl
        have HD := Lib.hid (read_dig true r HL.out s (hs.symm.trans (dig_small true r hbig)))
        have HS := Lib.hid hs
        clear hs hbig
        have e1 : (⟨#[34]⟩ : ByteArray).size + s.size ≤ 9223372036854775807 := by rw [hz]; decide
        have e3 : ((⟨#[34]⟩ : ByteArray) ++ s).size = 7 := by rw [ByteArray.size_append, hz]; rfl
        have e2 : ((⟨#[34]⟩ : ByteArray) ++ s).size + (⟨#[34]⟩ : ByteArray).size ≤ 9223372036854775807 := by rw [e3]; decide
        have e4 : ((⟨#[34]⟩ : ByteArray) ++ s ++ (⟨#[34]⟩ : ByteArray)).size ≤ 140737488351232 := by rw [ByteArray.size_append, e3]; decide
        have E4 := Lib.hid e4
        have hadd1 := fun W => run_string_add_sum (P := Tryd.prog) (w := W) (⟨#[34]⟩ : ByteArray) s e1
        have hadd2 := fun W => run_string_add_sum (P := Tryd.prog) (w := W) ((⟨#[34]⟩ : ByteArray) ++ s) (⟨#[34]⟩ : ByteArray) e2
        clear e1 e2 e3 e4
        go_enter Tryd.func5, Tryd.ntmps5
        go_wp2_with fail
        refine (at_rputu r a0 _ HR.out HL.out).mono ?_
        rintro _ w1 ⟨rfl, hb1⟩
        go_wp2_with fail
        refine (four_any true r a0 _ _ HR.out hr1 (box_world w w1 true hb1).1).mono ?_
        rintro _ w2 ⟨rfl, hb⟩
        obtain ⟨-, hb2, -⟩ := box_kept w w1 w2 true hb1 hb
        clear hb hb1
        rw [HS.out]
        go_wp2_with fail
        refine (at_qread _ _ _ _ _ (HT.out.keep hb2) E4.out HD.out).mono ?_
        rintro _ w3 ⟨rfl, hb⟩
        have hb3 := chain hb2 hb
        clear hb hb2
        go_wp2_with fail
        refine (alive_any _ (HT.out.keep hb3)).mono ?_
        rintro _ w4 ⟨rfl, hb⟩
        have hb4 := chain hb3 hb
        clear hb hb3
        go_wp2
        go_ret
        exact ⟨rfl, hb4⟩
    · have z1 : 65536 ≤ a0 := by omega
      have z2 : a0 ≤ 1114111 := by omega
      obtain ⟨hi, h1⟩ : ∃ hi, (r - 65536) / 1024 = hi := ⟨_, rfl⟩
      obtain ⟨lo, h2⟩ : ∃ lo, (r - 65536) % 1024 = lo := ⟨_, rfl⟩
      have k1 : (a0 - 65536) / 1024 = (hi : Int) := by omega
      have k2 : bits .and .i64 (a0 - 65536) 1023 = (lo : Int) := by rw [and1023]; omega
      have k3 : (hi : Int) < 1024 := by omega
      have k4 : (lo : Int) < 1024 := by omega
      have k5 : hi < 1024 := by omega
      have k6 : lo < 1024 := by omega
      clear hl hr hlet
      cases a1 with
      | false =>
        obtain ⟨p, hp⟩ : ∃ p, fourB false (55296 + hi) = p := ⟨_, rfl⟩
        obtain ⟨q, hq⟩ : ∃ q, fourB false (56320 + lo) = q := ⟨_, rfl⟩
        obtain ⟨o, ho⟩ : ∃ o, fourB false r = o := ⟨_, rfl⟩
        obtain ⟨s, hs⟩ : ∃ s, p ++ q = s := ⟨_, rfl⟩
        have hz1 : p.size = 6 := by rw [← hp]; rfl
        have hz2 : q.size = 6 := by rw [← hq]; rfl
        have hz : s.size = 12 := by rw [← hs, ByteArray.size_append, hz1, hz2]
        have HD := Lib.hid (read_dig false r HL.out s (by rw [← hs, ← hp, ← hq]; exact dig_great false r hi lo hbig h1 h2))
        have HS := Lib.hid hs
        have HO := Lib.hid ho
        have HP := Lib.hid hp
        have HQ := Lib.hid hq
        clear hs ho hp hq hbig h1 h2
        have e0 : p.size + q.size ≤ 9223372036854775807 := by rw [hz1, hz2]; decide
        have e1 : (⟨#[34]⟩ : ByteArray).size + s.size ≤ 9223372036854775807 := by rw [hz]; decide
        have e3 : ((⟨#[34]⟩ : ByteArray) ++ s).size = 13 := by rw [ByteArray.size_append, hz]; rfl
        have e2 : ((⟨#[34]⟩ : ByteArray) ++ s).size + (⟨#[34]⟩ : ByteArray).size ≤ 9223372036854775807 := by rw [e3]; decide
        have e4 : ((⟨#[34]⟩ : ByteArray) ++ s ++ (⟨#[34]⟩ : ByteArray)).size ≤ 140737488351232 := by rw [ByteArray.size_append, e3]; decide
        have E4 := Lib.hid e4
        have hadd0 := fun W => run_string_add_sum (P := Tryd.prog) (w := W) p q e0
        simp only [HS.out] at hadd0
        have hadd1 := fun W => run_string_add_sum (P := Tryd.prog) (w := W) (⟨#[34]⟩ : ByteArray) s e1
        have hadd2 := fun W => run_string_add_sum (P := Tryd.prog) (w := W) ((⟨#[34]⟩ : ByteArray) ++ s) (⟨#[34]⟩ : ByteArray) e2
        clear e0 e1 e2 e3 e4 hz1 hz2
        go_enter Tryd.func5, Tryd.ntmps5
        go_wp2_with fail
        refine (at_rputu r a0 _ HR.out HL.out).mono ?_
        rintro _ w1 ⟨rfl, hb1⟩
        go_wp2_with fail
        refine (four_any false r a0 _ _ HR.out hr1 (box_world w w1 false hb1).1).mono ?_
        rintro _ w2 ⟨rfl, hb⟩
        obtain ⟨hX, hb2, hlt⟩ := box_kept w w1 w2 false hb1 hb
        clear hb hb1
        rw [HO.out]
        go_wp2_with fail
        refine (four_any false (55296 + hi) _ _ _ (by omega) (by omega) hX).mono ?_
        rintro _ w3 ⟨rfl, hb⟩
        have hX3 := (hb.cell (p := ⟨w1.heap.size, 0, none⟩) hlt).trans hX
        have hb3 := chain hb2 hb
        clear hb hb2 hX hlt
        rw [HP.out]
        go_wp2_with fail
        refine (four_any false (56320 + lo) _ _ _ (by omega) (by omega) hX3).mono ?_
        rintro _ w4 ⟨rfl, hb⟩
        have hb4 := chain hb3 hb
        clear hb hb3 hX3
        rw [HQ.out]
        go_wp2_with fail
        refine (at_qread _ _ _ _ _ (HT.out.keep hb4) E4.out HD.out).mono ?_
        rintro _ w5 ⟨rfl, hb⟩
        have hb5 := chain hb4 hb
        clear hb hb4
        go_wp2_with fail
        refine (alive_any _ (HT.out.keep hb5)).mono ?_
        rintro _ w6 ⟨rfl, hb⟩
        have hb6 := chain hb5 hb
        clear hb hb5
        go_wp2
        go_ret
        exact ⟨rfl, hb6⟩
      | true =>
        obtain ⟨p, hp⟩ : ∃ p, fourB true (55296 + hi) = p := ⟨_, rfl⟩
        obtain ⟨q, hq⟩ : ∃ q, fourB true (56320 + lo) = q := ⟨_, rfl⟩
        obtain ⟨o, ho⟩ : ∃ o, fourB true r = o := ⟨_, rfl⟩
        obtain ⟨s, hs⟩ : ∃ s, p ++ q = s := ⟨_, rfl⟩
        have hz1 : p.size = 6 := by rw [← hp]; rfl
        have hz2 : q.size = 6 := by rw [← hq]; rfl
        have hz : s.size = 12 := by rw [← hs, ByteArray.size_append, hz1, hz2]
        have HD := Lib.hid (read_dig true r HL.out s (by rw [← hs, ← hp, ← hq]; exact dig_great true r hi lo hbig h1 h2))
        have HS := Lib.hid hs
        have HO := Lib.hid ho
        have HP := Lib.hid hp
        have HQ := Lib.hid hq
        clear hs ho hp hq hbig h1 h2
        have e0 : p.size + q.size ≤ 9223372036854775807 := by rw [hz1, hz2]; decide
        have e1 : (⟨#[34]⟩ : ByteArray).size + s.size ≤ 9223372036854775807 := by rw [hz]; decide
        have e3 : ((⟨#[34]⟩ : ByteArray) ++ s).size = 13 := by rw [ByteArray.size_append, hz]; rfl
        have e2 : ((⟨#[34]⟩ : ByteArray) ++ s).size + (⟨#[34]⟩ : ByteArray).size ≤ 9223372036854775807 := by rw [e3]; decide
        have e4 : ((⟨#[34]⟩ : ByteArray) ++ s ++ (⟨#[34]⟩ : ByteArray)).size ≤ 140737488351232 := by rw [ByteArray.size_append, e3]; decide
        have E4 := Lib.hid e4
        have hadd0 := fun W => run_string_add_sum (P := Tryd.prog) (w := W) p q e0
        simp only [HS.out] at hadd0
        have hadd1 := fun W => run_string_add_sum (P := Tryd.prog) (w := W) (⟨#[34]⟩ : ByteArray) s e1
        have hadd2 := fun W => run_string_add_sum (P := Tryd.prog) (w := W) ((⟨#[34]⟩ : ByteArray) ++ s) (⟨#[34]⟩ : ByteArray) e2
        clear e0 e1 e2 e3 e4 hz1 hz2
        go_enter Tryd.func5, Tryd.ntmps5
        go_wp2_with fail
        refine (at_rputu r a0 _ HR.out HL.out).mono ?_
        rintro _ w1 ⟨rfl, hb1⟩
        go_wp2_with fail
        refine (four_any true r a0 _ _ HR.out hr1 (box_world w w1 true hb1).1).mono ?_
        rintro _ w2 ⟨rfl, hb⟩
        obtain ⟨hX, hb2, hlt⟩ := box_kept w w1 w2 true hb1 hb
        clear hb hb1
        rw [HO.out]
        go_wp2_with fail
        refine (four_any true (55296 + hi) _ _ _ (by omega) (by omega) hX).mono ?_
        rintro _ w3 ⟨rfl, hb⟩
        have hX3 := (hb.cell (p := ⟨w1.heap.size, 0, none⟩) hlt).trans hX
        have hb3 := chain hb2 hb
        clear hb hb2 hX hlt
        rw [HP.out]
        go_wp2_with fail
        refine (four_any true (56320 + lo) _ _ _ (by omega) (by omega) hX3).mono ?_
        rintro _ w4 ⟨rfl, hb⟩
        have hb4 := chain hb3 hb
        clear hb hb3 hX3
        rw [HQ.out]
        go_wp2_with fail
        refine (at_qread _ _ _ _ _ (HT.out.keep hb4) E4.out HD.out).mono ?_
        rintro _ w5 ⟨rfl, hb⟩
        have hb5 := chain hb4 hb
        clear hb hb4
        go_wp2_with fail
        refine (alive_any _ (HT.out.keep hb5)).mono ?_
        rintro _ w6 ⟨rfl, hb⟩
        have hb6 := chain hb5 hb
        clear hb hb5
        go_wp2
        go_ret
        exact ⟨rfl, hb6⟩

set_option maxRecDepth 100000 in
theorem lifted (os : Os) (started : os.Started) (H : Type) (enc : TypeId × Value → H) :
    ReturnsInHanded {} Tryd.checked os 5 .any (fun w args => (Rows.quoteDigitsSpec.pre enc Tryd.prog Tryd.f5 [] false w args ∧ laidMetH Tryd.prog listed w) ∧ sizedMet enc Tryd.prog Tryd.f5 (OpenSpec.ofChange Rows.quoteDigitsSpec) false w args)
      (Rows.quoteDigitsSpec.post enc Tryd.prog Tryd.f5 false true false false) := by
  refine returnsInHanded_of_change_and (C := Tryd.checked) (X := fun w _ => laidMetH Tryd.prog listed w) (fun _ _ _ hh h => h.of_heap hh) own started (by kernel_rfl) Tryd.func5
    (ChangeSpec.witness_shaped (enc := enc) (C := Tryd.checked) (os := os) (X := fun w _ => laidMetH Tryd.prog listed w) false (laidOver (World.holding Tryd.prog os ⟨#[], #[], []⟩)) #[.int .i64 0, .bool false] 8 rfl (World.shaped_of_RefB (by kernel_rfl) (by kernel_rfl)) (by kernel_rfl) (by kernel_rfl) (by kernel_rfl) (laid_over os _)) ?_
  intro W base args ds gs before hval0 hW hcnd hsz0 hL _
  have hT := tabs_listed hL
  have hval : ∀ (j : Nat) t v, Tryd.f5.params[j]? = some t → args[j]? = some v → Value.okWide Tryd.prog W .any base t v := hval0
  have hsz : (DataW.weightsEach Tryd.prog (Tryd.f5.params.toList ++ Rows.quoteDigitsSpec.plain.varTypes Tryd.prog) (ds ++ gs)).all (· ≤ reachBytes) = true := hsz0
  have hW' := hW
  obtain ⟨p, q, hA0, hV, rfl, hfz, hnd⟩ := hW
  have hA : DataW.TrodAll enc Tryd.prog W 0 (fun _ => true) true Tryd.f5.params.toList args.toList ds p := hA0
  rw [Tryd.params5] at hA hval hsz
  obtain ⟨v0, vs0, d0, ds0, p0, q0, hargs, rfl, rfl, h0, r0⟩ := trodAll_cons hA
  obtain ⟨v1, vs1, d1, ds1, p1, q1, rfl, rfl, rfl, h1, r1⟩ := trodAll_cons r0
  obtain ⟨rfl, rfl, rfl⟩ := trodAll_nil r1
  obtain rfl : args = #[v0, v1] := by cases args; simp_all
  obtain ⟨rfl, rfl⟩ := trodVars_none hV
  obtain ⟨a0, rfl, rfl, rfl, w0⟩ := open_int Tryd.underlying3 (hval 0 3 v0 rfl rfl) h0
  obtain ⟨a1, rfl, rfl, rfl⟩ := open_bool Tryd.underlying4 (hval 1 4 v1 rfl rfl) h1
  clear hA0 hval0 hsz hsz0
  refine (walk a0 a1 w0 W hT).mono fun e W' ⟨he, bel⟩ => ?_
  subst he
  exact ⟨_, rfl, _, _, _, [], _, [], hW', trodAll_mk1 (shut_bool Tryd.underlying4 _), (trodAll_cons_mk (shut_int Tryd.underlying3 w0) (trodAll_cons_mk (shut_bool Tryd.underlying4 _) trodAll_mk0)), rfl, bel.frame _, fun h => by cases h⟩

theorem over : Rows.quoteDigitsRow.holds Tryd.pinned (OpenSpec.ofChange Rows.quoteDigitsSpec) :=
  OpenClaim.holds_of_wide 5 Tryd.f5 rfl rfl rfl rfl rfl rfl rfl ⟨rfl, rfl, rfl, rfl, rfl⟩ rfl rfl rfl rfl rfl (by kernel_rfl) Tryd.func5 (by kernel_rfl)
    (of_decide_eq_true (by kernel_rfl)) (by unfold Func.isWrapper; first | (rw [if_pos (by decide +kernel)]; kernel_rfl) | (rw [if_neg (by decide +kernel)]; exact ⟨rfl, rfl⟩))
    (fun os started H enc _ => lifted os started H enc)

set_option maxRecDepth 100000 in
theorem card : Rows.QuoteDigitsCardSaid :=
  Claim7.holds_tied_plain_at .later [] [.data, .pinned] true Rows.quoteDigitsCard.stood.harness false
    over (fun _ h => by cases h) (by kernel_rfl) (fun _ h => by cases h) quoteDigits_row_tie rfl ⟨rfl, rfl⟩ (by kernel_rfl) rfl
    (fun f fn hf hfn => by
      obtain rfl : f = 5 := Option.some.inj ((show Tryd.prog.funcNamed Rows.quoteDigitsRow.func = some 5 by kernel_rfl).symm.trans hf) |>.symm
      obtain rfl : fn = Tryd.f5 := (Option.some.inj (Tryd.func5.symm.trans hfn)).symm
      exact ⟨by kernel_rfl, fun j t ht => by
        rw [Tryd.params5] at ht
        have hm : t ∈ [3, 4] := by first | (simpa using Array.mem_of_getElem? ht) | (have hq := Array.mem_of_getElem? ht; simp at hq ⊢; omega)
        have hall : ([3, 4].all fun u => !Tryd.prog.wantsStandIn u) = true := by kernel_rfl
        exact (show Tryd.prog.wantsStandIn t = false by simpa using List.all_eq_true.1 hall t hm)⟩)
    (by kernel_rfl)

end Go.Proofs.YtfpokkpklbkhiaaDoor.quoteDigits
namespace Go.Proofs.YtfpokkpklbkhiaaDoor
/-- The statement. -/
theorem quoteDigits_proved : Rows.QuoteDigitsCardSaid := quoteDigits.card
end Go.Proofs.YtfpokkpklbkhiaaDoor
