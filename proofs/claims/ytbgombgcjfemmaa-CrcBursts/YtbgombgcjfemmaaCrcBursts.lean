/-
  For every text s, every place at and every mask, cracknellaw04.CrcBursts(s, at, mask) returns true and leaves them as they were. Conditions: none beyond the form's own (a string that is read takes at most 2^47 - 4096 bytes).
-/
import Derived.Test.YtbgombgcjfemmaaCrcAlive
import Derived.Test.YtbgombgcjfemmaaBaseDraw
import Derived.ProofKit
import Derived.OpenShut
import Derived.ShutString
import Derived.ChangeOld
import Derived.SizedLaws
namespace Go.Proofs.Ytbgombgcjfemmaa.crcBursts
open Go.ChangeShapes Go.WideShapes Go.ChangeAt Go.RowKit
open Go.ChangeMaps (open_string shut_string)
set_option linter.unusedVariables false

theorem own : ownKnob Try.prog.godebug = none := by kernel_rfl

/-- What the loop holds at round k. -/
def TurnsAt (X L g : Nat) (a m d : Nat) (w0 : World) (turned i : Value) (wr : World) : Prop :=
  ∃ (k : Nat) (l : List UInt8) (t : Bool), k ≤ 32 ∧ turned = .bool t ∧ i = .int .i64 (k : Int) ∧ l.length = L ∧ t = !decide (maskN m d k = 0) ∧ numB l = X ^^^ 2 ^ a * maskN m d k ∧ BytesAt wr g l ∧ Below g w0 wr

theorem and_one (m k : Nat) (hm : m < 4294967296) : bits .and .u32 ((m : Int) / 2 ^ k) 1 = ((m / 2 ^ k % 2 : Nat) : Int) := by
  have e : ((m : Int) / 2 ^ k) = ((m / 2 ^ k : Nat) : Int) := by simp
  have hlt : m / 2 ^ k < 2 ^ 32 := Nat.lt_of_le_of_lt (Nat.div_le_self _ _) hm
  have h := (bits_nat .u32 32 (by decide) (fun n h0 h1 => by rw [IntKind.wrap_u32]; omega) (m / 2 ^ k) 1 hlt (by decide)).1
  rw [e]
  refine h.trans ?_
  rw [Nat.and_one_is_mod]

theorem xor_byte (c : UInt8) (r : Nat) (hr : r < 8) : bits .xor .u8 (c.toNat : Int) (2 ^ r % 256) = ((c ^^^ UInt8.ofNat (2 ^ r)).toNat : Int) := by
  have hp : 2 ^ r < 256 := Nat.pow_lt_pow_right (a := 2) (by decide) hr
  have e : ((2 : Int) ^ r % 256) = ((2 ^ r : Nat) : Int) := by
    have h : (2 : Int) ^ r = ((2 ^ r : Nat) : Int) := by simp
    rw [h]
    generalize 2 ^ r = P at hp
    omega
  rw [e, xor_u8 _ _ c.toNat_lt hp, UInt8.toNat_xor, u8_ofNat _ hp]

theorem turns_on (X L g a m d : Nat) (w0 wr : World) (k j r : Nat) (l : List UInt8) (hk : k < 32) (hll : l.length = L) (hj : j < l.length) (hr : r < 8) (hjr : 8 * j + r = a + k) (hd : k < d) (hb : m / 2 ^ k % 2 = 1)
    (hN : numB l = X ^^^ 2 ^ a * maskN m d k) (hby : BytesAt wr g l) (hg : g = w0.heap.size) (hbe : Below g w0 wr) :
    TurnsAt X L g a m d w0 (.bool true) (.int .i64 ((k : Int) + 1)) (wr.setCell ⟨g, j, none⟩ (.int .u8 (bits .xor .u8 (l[j].toNat : Int) (2 ^ r % 256)))).drew := by
  have h1 := (maskN_on m d k hd hb).2
  refine ⟨k + 1, l.set j (l[j] ^^^ UInt8.ofNat (2 ^ r)), true, by omega, rfl, by congr 1, by rw [List.length_set]; exact hll, ?_, burst_set l X a m d k j r _ hj hr hjr hd hb hN rfl, ?_, ?_⟩
  · simp [h1]
  · exact (hby.set j hj _ _ (xor_byte _ r hr)).drew
  · exact (hbe.setCell (Nat.le_refl _) _).drew

theorem turns_off (X L g a m d : Nat) (w0 wr : World) (k : Nat) (l : List UInt8) (t : Bool) (hk : k < 32) (hll : l.length = L) (hno : ¬ (k < d ∧ m / 2 ^ k % 2 = 1))
    (ht : t = !decide (maskN m d k = 0)) (hN : numB l = X ^^^ 2 ^ a * maskN m d k) (hby : BytesAt wr g l) (hbe : Below g w0 wr) :
    TurnsAt X L g a m d w0 (.bool t) (.int .i64 ((k : Int) + 1)) wr := by
  have e := maskN_off m d k hno
  exact ⟨k + 1, l, t, by omega, rfl, by congr 1, hll, by rw [e]; exact ht, by rw [e]; exact hN, hby, hbe⟩

theorem burst_end (s0 s : ByteArray) (l : List UInt8) (a m d : Nat) (t : Bool) (hs : s0 ++ tailB s0 = s) (hll : l.length = s.size) (ha : a ≤ 8 * s.size) (ht : t = !decide (maskN m d 32 = 0))
    (hN : numB l = numB s.data.toList ^^^ 2 ^ a * maskN m d 32) : rightB ⟨l.toArray⟩ = !t := by
  have hz : 4 ≤ s.size := by rw [← hs, ByteArray.size_append, tailB_size]; omega
  have hr : crcSt ones32 s.data.toList = crcEnd := (rightB_iff s hz).1 (by rw [← hs]; exact right_tail s0)
  have hlz : (⟨l.toArray⟩ : ByteArray).size = l.length := List.size_toArray
  have hb := crc_burst s.data.toList l a (maskN m d 32) (by rw [list_len]; exact hll) (by rw [list_len]; exact ha) (maskN_lt m d 32 (by omega)) hN hr
  have hi := rightB_iff ⟨l.toArray⟩ (by rw [hlz]; omega)
  rw [ht, Bool.not_not, Bool.eq_iff_iff, hi, decide_eq_true_eq]
  exact hb

set_option maxRecDepth 100000 in
set_option maxHeartbeats 1600000 in
theorem walk (a0 : ByteArray) (a1 : Int) (a2 : Int) (w0 : a0.size ≤ 140737488351232) (w1 : (Lit.int .i64 a1).wf = true) (w2 : (Lit.int .u32 a2).wf = true) (w : World) :
    Calls Try.prog 9 #[.string a0, .int .i64 a1, .int .u32 a2] w fun e w' => e = .returned (.bool true) ∧ Below w.heap.size w w' := by
  obtain ⟨l1, u1⟩ := bounds_i64 w1
  obtain ⟨l2, u2⟩ := bounds_u32 w2
  clear w1 w2
  obtain ⟨m, rfl⟩ := Int.eq_ofNat_of_zero_le l2
  have hss : a0.size + (tailB a0).size ≤ 9223372036854775807 := by rw [tailB_size]; omega
  have hsz : (a0 ++ tailB a0).size = a0.size + 4 := by rw [ByteArray.size_append, tailB_size]
  obtain ⟨s, hs⟩ : ∃ s, a0 ++ tailB a0 = s := ⟨_, rfl⟩
  have z1 : s.size ≤ a0.size + 4 := by rw [← hs]; omega
  have z2 : a0.size + 4 ≤ s.size := by rw [← hs]; omega
  have hadd := fun w => run_string_add_sum (P := Try.prog) w a0 (tailB a0) hss
  rw [hs] at hadd
  have HS := Lib.hid hs
  clear hsz hs hss
  go_enter Try.func9, Try.ntmps9
  go_wp2_with fail
  refine (at_tail1 (s := a0) _ (by omega)).mono ?_
  rintro _ w1 ⟨rfl, hb1⟩
  have hcv2 := run_bytes_of_string (P := Try.prog) w1 9 37 5 s Try.underlying9 Try.underlying37 Try.underlying5
  have HB := bytes_made s w1 (grownCap w1 s.size 0 5) (grownCap_ge _ _ _ _)
  have HW : Below w1.heap.size w1 ((w1.alloc (.cells (bytesRow s (grownCap w1 s.size 0 5)) 5 ((bytesRow s (grownCap w1 s.size 0 5)).size, (bytesRow s (grownCap w1 s.size 0 5)).size + 1))).drew) := ((Below.refl _ _).alloc (Nat.le_refl _) _).drew
  have HB2 := Lib.hid HB
  have HW2 := Lib.hid HW
  clear HB HW
  by_cases hin : a0.size ≤ 300 ∧ 0 ≤ a1 ∧ a1 < 8 * (s.size : Int)
  · obtain ⟨h1, h2, h3⟩ := hin
    obtain ⟨at', rfl⟩ := Int.eq_ofNat_of_zero_le h2
    go_wp2_with fail
    have HB := HB2.out
    have HW := HW2.out
    clear HB2 HW2 hcv2 hadd
    generalize ((w1.alloc (.cells (bytesRow s (grownCap w1 s.size 0 5)) 5 ((bytesRow s (grownCap w1 s.size 0 5)).size, (bytesRow s (grownCap w1 s.size 0 5)).size + 1))).drew) = W at HB HW ⊢
    generalize grownCap w1 s.size 0 5 = cap
    have HX := Lib.hid HB
    clear HB
    go_loopw [8, 32] (fun turned i wr => TurnsAt (numB s.data.toList) s.size w1.heap.size at' m (8 * s.size - at') w1 turned i wr) (fun _ i _ => 32 - (intOf i).toNat)
    case atStart => exact ⟨0, s.data.toList, false, by omega, rfl, rfl, list_len s, by rw [maskN_zero]; rfl, by rw [maskN_zero, Nat.mul_zero, Nat.xor_zero], HX.out, HW⟩
    case round =>
      obtain ⟨k, l, t, hk, rfl, rfl, hll, ht, hN, hby, hbe⟩ := hrel
      have HT := Lib.hid ht
      have HN := Lib.hid hN
      have HBY := Lib.hid hby
      clear ht hN hby HX HW
      by_cases h32 : k < 32
      · have hbit := and_one m k (by omega)
        by_cases hon : at' + k < 8 * s.size ∧ m / 2 ^ k % 2 = 1
        · obtain ⟨hd, hb⟩ := hon
          rw [hb] at hbit
          have HBB := Lib.hid hb
          clear hb
          obtain ⟨j, hj⟩ : ∃ j, (at' + k) / 8 = j := ⟨_, rfl⟩
          obtain ⟨r, hr⟩ : ∃ r, (at' + k) % 8 = r := ⟨_, rfl⟩
          have hji : ((at' : Int) + (k : Int)) / 8 = (j : Int) := by omega
          have hri : ((at' : Int) + (k : Int)) % 8 = (r : Int) := by omega
          have hjl : j < l.length := by omega
          have hjs : (j : Int) < (s.size : Int) := by omega
          have hr8 : r < 8 := by omega
          have hjr : 8 * j + r = at' + k := by omega
          have c0 := HBY.out.1 j hjl
          have f0 := HBY.out.2 j hjl
          clear hj hr
          go_wp2_with fail
          go_region
          all_goals (try go_wp2)
          go_roundw
          case rel => exact turns_on _ _ _ _ _ _ _ _ k j r l h32 hll hjl hr8 hjr (by omega) HBB.out HN.out HBY.out rfl hbe
          case measure => simp [intOf]; omega
        · have HE := Lib.hid (turns_off _ _ _ _ _ _ _ _ k l t h32 hll (fun h => hon ⟨by omega, h.2⟩) HT.out HN.out HBY.out hbe)
          by_cases hb : m / 2 ^ k % 2 = 1
          · have hd : 8 * s.size ≤ at' + k := by
              by_cases h : at' + k < 8 * s.size
              · exact absurd ⟨h, hb⟩ hon
              · omega
            rw [hb] at hbit
            clear hon hb HT HN HBY
            go_wp2
            go_roundw
            case rel => exact HE.out
            case measure => simp [intOf]; omega
          · have hb0 : m / 2 ^ k % 2 = 0 := by omega
            rw [hb0] at hbit
            clear hon hb hb0 HT HN HBY
            go_wp2
            go_roundw
            case rel => exact HE.out
            case measure => simp [intOf]; omega
      · have e32 : k = 32 := by omega
        subst e32
        have HE := Lib.hid (burst_end a0 s l at' m _ t HS.out hll (by omega) HT.out HN.out)
        have hlz : (⟨l.toArray⟩ : ByteArray).size ≤ 1000000000000000 := by
          show l.toArray.size ≤ _
          rw [List.size_toArray]
          omega
        clear HT HN
        go_wp2_with fail
        refine (alive_any _).mono ?_
        rintro _ w2 ⟨rfl, hb⟩
        have hcv := (HBY.out.keep hb).back s.size cap hll.symm
        have hb2 := chain (hb1.trans (hbe.mono hb1.size)) hb
        clear hb HBY
        go_wp2_with fail
        refine (right_any ⟨l.toArray⟩ _ hlz).mono ?_
        rintro _ w3 ⟨rfl, hb⟩
        have hb3 := chain hb2 hb
        rw [HE.out]
        go_wp2
        go_ret
        exact ⟨ret_bool (by simp), hb3⟩
  · rcases (show 300 < a0.size ∨ (a0.size ≤ 300 ∧ a1 < 0) ∨ (a0.size ≤ 300 ∧ 0 ≤ a1 ∧ 8 * (s.size : Int) ≤ a1) from by omega) with h | ⟨h, h'⟩ | ⟨h, h', h''⟩
    all_goals
      clear hin
      go_wp2_with fail
      refine (alive_any _).mono ?_
      rintro _ w2 ⟨rfl, hb⟩
      have hb3 := chain (chain hb1 HW2.out) hb
      go_wp2
      go_ret
      exact ⟨rfl, hb3⟩

set_option maxRecDepth 100000 in
theorem lifted (os : Os) (started : os.Started) (H : Type) (enc : TypeId × Value → H) :
    ReturnsInHanded {} Try.checked os 9 .any (Rows.crcBurstsSpec.pre6 enc Try.prog Try.f9 Rows.crcBurstsRow.domain false) (Rows.crcBurstsSpec.post enc Try.prog Try.f9 false true false false) := by
  refine returnsInHanded_of_change_sized (C := Try.checked) own started (by kernel_rfl) Try.func9
    (ChangeSpec.witness6 (enc := enc) (C := Try.checked) false ⟨#[], #[.string ByteArray.empty, .int .i64 0, .int .u32 0], []⟩ 8 (by kernel_rfl) (by kernel_rfl) (by kernel_rfl) (by kernel_rfl)) ?_
  intro W base args ds gs before hval0 hW hcnd hsz0 _
  have hval : ∀ (j : Nat) t v, Try.f9.params[j]? = some t → args[j]? = some v → Value.okWide Try.prog W .any base t v := hval0
  have hsz : (DataW.weightsEach Try.prog (Try.f9.params.toList ++ Rows.crcBurstsSpec.plain.varTypes Try.prog) (ds ++ gs)).all (· ≤ reachBytes) = true := hsz0
  have hW' := hW
  obtain ⟨p, q, hA0, hV, rfl, hfz, hnd⟩ := hW
  have hA : DataW.TrodAll enc Try.prog W 0 (fun _ => true) true Try.f9.params.toList args.toList ds p := hA0
  rw [Try.params9] at hA hval hsz
  obtain ⟨v0, vs0, d0, ds0, p0, q0, hargs, rfl, rfl, h0, r0⟩ := trodAll_cons hA
  obtain ⟨v1, vs1, d1, ds1, p1, q1, rfl, rfl, rfl, h1, r1⟩ := trodAll_cons r0
  obtain ⟨v2, vs2, d2, ds2, p2, q2, rfl, rfl, rfl, h2, r2⟩ := trodAll_cons r1
  obtain ⟨rfl, rfl, rfl⟩ := trodAll_nil r2
  obtain rfl : args = #[v0, v1, v2] := by cases args; simp_all
  obtain ⟨rfl, rfl⟩ := trodVars_none hV
  obtain ⟨a0, rfl, rfl, rfl, m0⟩ := open_string Try.underlying9 (hval 0 9 v0 rfl rfl) h0
  obtain ⟨a1, rfl, rfl, rfl, w1⟩ := open_int Try.underlying3 (hval 1 3 v1 rfl rfl) h1
  obtain ⟨a2, rfl, rfl, rfl, w2⟩ := open_int Try.underlying22 (hval 2 22 v2 rfl rfl) h2
  have w0 : a0.size ≤ 140737488351232 := by
    have h := sized_string hsz (j := 0) (t := 9) rfl rfl
    have e : a0.data.toList.length = a0.size := by simp
    unfold reachBytes at h
    omega
  clear hA0 hval0 hsz hsz0
  refine (walk a0 a1 a2 w0 w1 w2 W).mono fun e W' ⟨he, bel⟩ => ?_
  subst he
  exact ⟨_, rfl, _, _, _, [], _, [], hW', trodAll_mk1 (shut_bool Try.underlying4 _), (trodAll_cons_mk (shut_string Try.underlying9 m0) (trodAll_cons_mk (shut_int Try.underlying3 w1) (trodAll_cons_mk (shut_int Try.underlying22 w2) trodAll_mk0))), rfl, bel.frame _, fun h => by cases h⟩

theorem over : Rows.crcBurstsRow.holds Try.pinned (OpenSpec.ofChange Rows.crcBurstsSpec) :=
  OpenClaim.holds_of_wide 9 Try.f9 rfl rfl rfl rfl rfl rfl rfl ⟨rfl, rfl, rfl, rfl, rfl⟩ rfl rfl rfl rfl rfl (by kernel_rfl) Try.func9 (by kernel_rfl)
    (of_decide_eq_true (by kernel_rfl)) (by unfold Func.isWrapper; first | (rw [if_pos (by decide +kernel)]; kernel_rfl) | (rw [if_neg (by decide +kernel)]; exact ⟨rfl, rfl⟩))
    (fun os started H enc _ => lifted os started H enc)

end Go.Proofs.Ytbgombgcjfemmaa.crcBursts
namespace Go.Proofs.Ytbgombgcjfemmaa
/-- The statement. -/
theorem crcBursts_proved : Rows.CrcBurstsSaid := crcBursts.over
end Go.Proofs.Ytbgombgcjfemmaa
