/-
  For all bytes a and b, cracknellaw04.CrcLinear(a, b) returns true and leaves them as they were. Conditions: none.
-/
import Derived.Test.YtbgombgcjfemmaaCrcAlive
import Derived.Test.YtbgombgcjfemmaaBaseDraw
import Derived.ProofKit
import Derived.OpenShut
import Derived.ShutString
import Derived.ChangeOld
import Derived.SizedLaws
namespace Go.Proofs.Ytbgombgcjfemmaa.crcLinear
open Go.ChangeShapes Go.WideShapes Go.ChangeAt Go.RowKit
open Go.ChangeMaps (open_string shut_string)
set_option linter.unusedVariables false

theorem own : ownKnob Try.prog.godebug = none := by kernel_rfl

set_option maxRecDepth 100000 in
set_option maxHeartbeats 1600000 in
theorem walk (a0 : Int) (a1 : Int) (w0 : (Lit.int .u8 a0).wf = true) (w1 : (Lit.int .u8 a1).wf = true) (w : World) :
    Calls Try.prog 8 #[.int .u8 a0, .int .u8 a1] w fun e w' => e = .returned (.bool true) ∧ Below w.heap.size w w' := by
  obtain ⟨l0, u0⟩ := bounds_u8 w0
  obtain ⟨l1, u1⟩ := bounds_u8 w1
  clear w0 w1
  obtain ⟨a, rfl⟩ := Int.eq_ofNat_of_zero_le l0
  obtain ⟨b, rfl⟩ := Int.eq_ofNat_of_zero_le l1
  have ha : a < 256 := by omega
  have hb : b < 256 := by omega
  have hz := zero256
  have hst := store256
  obtain ⟨k, hk⟩ : ∃ k, a ^^^ b = k := ⟨_, rfl⟩
  have hk8 : k < 256 := by rw [← hk]; exact Nat.xor_lt_two_pow (n := 8) ha hb
  have hx8 : bits .xor .u8 (a : Int) (b : Int) = (k : Int) := by rw [xor_u8 a b ha hb, hk]
  obtain ⟨x, hx⟩ : ∃ x, crcN 8 a = x := ⟨_, rfl⟩
  obtain ⟨y, hy⟩ : ∃ y, crcN 8 b = y := ⟨_, rfl⟩
  obtain ⟨z, hzz⟩ : ∃ z, crcN 8 k = z := ⟨_, rfl⟩
  have hx32 : x < 4294967296 := by rw [← hx]; exact crcN_lt 8 a (by omega)
  have hy32 : y < 4294967296 := by rw [← hy]; exact crcN_lt 8 b (by omega)
  have hxor : bits .xor .u32 (x : Int) (y : Int) = (z : Int) := by rw [xor_u32 x y hx32 hy32, ← hx, ← hy, ← hzz, ← hk, crcN_xor]
  go_enter Try.func8, Try.ntmps8
  go_wp2_with fail
  refine (table_any _).mono ?_
  rintro _ w1 ⟨rfl, hb1⟩
  have hca := tabX_cell w1 a ha
  have hcb := tabX_cell w1 b hb
  have hck := tabX_cell w1 k hk8
  have hc0 := tabX_cell w1 0 (by decide)
  rw [hx] at hca
  rw [hy] at hcb
  rw [hzz] at hck
  rw [crcN_zero] at hc0
  clear hx hy hzz hk
  have hb2 := chain hb1 (tabW_below w1)
  clear hb1
  go_wp2_with fail
  clear hz hst
  refine wp_region_ext (by kernel_rfl) (by kernel_rfl) ?_
  repeat (go_big_quiet_step (first
    | (go_at_call 11; refine (alive_any _).mono ?_; rintro _ w1 ⟨rfl, hb1⟩; exact ⟨rfl, Ext.on _ hb1⟩)))
  refine wpQuiet_nil ?_
  rintro _ ⟨x, rfl⟩
  have hb1 := chain hb2 x.below
  go_wp2
  go_ret
  exact ⟨rfl, hb1⟩

set_option maxRecDepth 100000 in
theorem lifted (os : Os) (started : os.Started) (H : Type) (enc : TypeId × Value → H) :
    ReturnsInHanded {} Try.checked os 8 .any (Rows.crcLinearSpec.pre6 enc Try.prog Try.f8 Rows.crcLinearRow.domain false) (Rows.crcLinearSpec.post enc Try.prog Try.f8 false true false false) := by
  refine returnsInHanded_of_change_sized (C := Try.checked) own started (by kernel_rfl) Try.func8
    (ChangeSpec.witness6 (enc := enc) (C := Try.checked) false ⟨#[], #[.int .u8 0, .int .u8 0], []⟩ 8 (by kernel_rfl) (by kernel_rfl) (by kernel_rfl) (by kernel_rfl)) ?_
  intro W base args ds gs before hval0 hW hcnd hsz0 _
  have hval : ∀ (j : Nat) t v, Try.f8.params[j]? = some t → args[j]? = some v → Value.okWide Try.prog W .any base t v := hval0
  have hsz : (DataW.weightsEach Try.prog (Try.f8.params.toList ++ Rows.crcLinearSpec.plain.varTypes Try.prog) (ds ++ gs)).all (· ≤ reachBytes) = true := hsz0
  have hW' := hW
  obtain ⟨p, q, hA0, hV, rfl, hfz, hnd⟩ := hW
  have hA : DataW.TrodAll enc Try.prog W 0 (fun _ => true) true Try.f8.params.toList args.toList ds p := hA0
  rw [Try.params8] at hA hval hsz
  obtain ⟨v0, vs0, d0, ds0, p0, q0, hargs, rfl, rfl, h0, r0⟩ := trodAll_cons hA
  obtain ⟨v1, vs1, d1, ds1, p1, q1, rfl, rfl, rfl, h1, r1⟩ := trodAll_cons r0
  obtain ⟨rfl, rfl, rfl⟩ := trodAll_nil r1
  obtain rfl : args = #[v0, v1] := by cases args; simp_all
  obtain ⟨rfl, rfl⟩ := trodVars_none hV
  obtain ⟨a0, rfl, rfl, rfl, w0⟩ := open_int Try.underlying5 (hval 0 5 v0 rfl rfl) h0
  obtain ⟨a1, rfl, rfl, rfl, w1⟩ := open_int Try.underlying5 (hval 1 5 v1 rfl rfl) h1
  clear hA0 hval0 hsz hsz0
  refine (walk a0 a1 w0 w1 W).mono fun e W' ⟨he, bel⟩ => ?_
  subst he
  exact ⟨_, rfl, _, _, _, [], _, [], hW', trodAll_mk1 (shut_bool Try.underlying4 _), (trodAll_cons_mk (shut_int Try.underlying5 w0) (trodAll_cons_mk (shut_int Try.underlying5 w1) trodAll_mk0)), rfl, bel.frame _, fun h => by cases h⟩

theorem over : Rows.crcLinearRow.holds Try.pinned (OpenSpec.ofChange Rows.crcLinearSpec) :=
  OpenClaim.holds_of_wide 8 Try.f8 rfl rfl rfl rfl rfl rfl rfl ⟨rfl, rfl, rfl, rfl, rfl⟩ rfl rfl rfl rfl rfl (by kernel_rfl) Try.func8 (by kernel_rfl)
    (of_decide_eq_true (by kernel_rfl)) (by unfold Func.isWrapper; first | (rw [if_pos (by decide +kernel)]; kernel_rfl) | (rw [if_neg (by decide +kernel)]; exact ⟨rfl, rfl⟩))
    (fun os started H enc _ => lifted os started H enc)

end Go.Proofs.Ytbgombgcjfemmaa.crcLinear
namespace Go.Proofs.Ytbgombgcjfemmaa
/-- The statement. -/
theorem crcLinear_proved : Rows.CrcLinearSaid := crcLinear.over
end Go.Proofs.Ytbgombgcjfemmaa
