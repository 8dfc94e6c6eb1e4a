/-
  For every byte c, cracknellaw04.CrcTable(c) returns true and leaves it as it was. Conditions: none.
-/
import Derived.Test.YtbgombgcjfemmaaCrcAlive
import Derived.Test.YtbgombgcjfemmaaBaseDraw
import Derived.ProofKit
import Derived.OpenShut
import Derived.ShutString
import Derived.ChangeOld
import Derived.SizedLaws
namespace Go.Proofs.Ytbgombgcjfemmaa.crcTable
open Go.ChangeShapes Go.WideShapes Go.ChangeAt Go.RowKit
open Go.ChangeMaps (open_string shut_string)
set_option linter.unusedVariables false

theorem own : ownKnob Try.prog.godebug = none := by kernel_rfl

set_option maxRecDepth 100000 in
set_option maxHeartbeats 1600000 in
theorem walk (a0 : Int) (w0 : (Lit.int .u8 a0).wf = true) (w : World) :
    Calls Try.prog 3 #[.int .u8 a0] w fun e w' => e = .returned (.bool true) ∧ Below w.heap.size w w' := by
  obtain ⟨l0, u0⟩ := bounds_u8 w0
  clear w0
  obtain ⟨c, rfl⟩ := Int.eq_ofNat_of_zero_le l0
  have hc : c < 256 := by omega
  have hz := zero256
  have hst := store256
  obtain ⟨v, hv⟩ : ∃ v, crcN 8 c = v := ⟨_, rfl⟩
  have hv32 : v < 4294967296 := by rw [← hv]; exact crcN_lt 8 c (by omega)
  have HV := Lib.hid hv
  go_enter Try.func3, Try.ntmps3
  go_wp2_with fail
  refine (table_any _).mono ?_
  rintro _ w1 ⟨rfl, hb1⟩
  have hcell := tabX_cell w1 c hc
  rw [hv] at hcell
  clear hv
  have hb2 := chain hb1 (tabW_below w1)
  clear hb1
  go_wp2_with fail
  clear hz hst
  refine wp_region_ext (by kernel_rfl) (by kernel_rfl) ?_
  repeat (go_big_quiet_step (first
    | (go_at_call 11; refine (alive_any _).mono ?_; rintro _ w1 ⟨rfl, hb1⟩; exact ⟨rfl, Ext.on _ hb1⟩)
    | (go_at_call 12; refine (at_rentry (a := c) (v := v) _ rfl (by omega) HV.out).mono ?_; rintro _ w1 ⟨rfl, hb1⟩; exact ⟨rfl, Ext.same _ hb1⟩)))
  refine wpQuiet_nil ?_
  rintro _ ⟨x, rfl⟩
  have hb1 := chain hb2 x.below
  go_wp2
  go_ret
  exact ⟨rfl, hb1⟩

set_option maxRecDepth 100000 in
theorem lifted (os : Os) (started : os.Started) (H : Type) (enc : TypeId × Value → H) :
    ReturnsInHanded {} Try.checked os 3 .any (Rows.crcTableSpec.pre6 enc Try.prog Try.f3 Rows.crcTableRow.domain false) (Rows.crcTableSpec.post enc Try.prog Try.f3 false true false false) := by
  refine returnsInHanded_of_change_sized (C := Try.checked) own started (by kernel_rfl) Try.func3
    (ChangeSpec.witness6 (enc := enc) (C := Try.checked) false ⟨#[], #[.int .u8 0], []⟩ 8 (by kernel_rfl) (by kernel_rfl) (by kernel_rfl) (by kernel_rfl)) ?_
  intro W base args ds gs before hval0 hW hcnd hsz0 _
  have hval : ∀ (j : Nat) t v, Try.f3.params[j]? = some t → args[j]? = some v → Value.okWide Try.prog W .any base t v := hval0
  have hsz : (DataW.weightsEach Try.prog (Try.f3.params.toList ++ Rows.crcTableSpec.plain.varTypes Try.prog) (ds ++ gs)).all (· ≤ reachBytes) = true := hsz0
  have hW' := hW
  obtain ⟨p, q, hA0, hV, rfl, hfz, hnd⟩ := hW
  have hA : DataW.TrodAll enc Try.prog W 0 (fun _ => true) true Try.f3.params.toList args.toList ds p := hA0
  rw [Try.params3] at hA hval hsz
  obtain ⟨v0, vs0, d0, ds0, p0, q0, hargs, rfl, rfl, h0, r0⟩ := trodAll_cons hA
  obtain ⟨rfl, rfl, rfl⟩ := trodAll_nil r0
  obtain rfl : args = #[v0] := by cases args; simp_all
  obtain ⟨rfl, rfl⟩ := trodVars_none hV
  obtain ⟨a0, rfl, rfl, rfl, w0⟩ := open_int Try.underlying5 (hval 0 5 v0 rfl rfl) h0
  clear hA0 hval0 hsz hsz0
  refine (walk a0 w0 W).mono fun e W' ⟨he, bel⟩ => ?_
  subst he
  exact ⟨_, rfl, _, _, _, [], _, [], hW', trodAll_mk1 (shut_bool Try.underlying4 _), (trodAll_cons_mk (shut_int Try.underlying5 w0) trodAll_mk0), rfl, bel.frame _, fun h => by cases h⟩

theorem over : Rows.crcTableRow.holds Try.pinned (OpenSpec.ofChange Rows.crcTableSpec) :=
  OpenClaim.holds_of_wide 3 Try.f3 rfl rfl rfl rfl rfl rfl rfl ⟨rfl, rfl, rfl, rfl, rfl⟩ rfl rfl rfl rfl rfl (by kernel_rfl) Try.func3 (by kernel_rfl)
    (of_decide_eq_true (by kernel_rfl)) (by unfold Func.isWrapper; first | (rw [if_pos (by decide +kernel)]; kernel_rfl) | (rw [if_neg (by decide +kernel)]; exact ⟨rfl, rfl⟩))
    (fun os started H enc _ => lifted os started H enc)

end Go.Proofs.Ytbgombgcjfemmaa.crcTable
namespace Go.Proofs.Ytbgombgcjfemmaa
/-- The statement. -/
theorem crcTable_proved : Rows.CrcTableSaid := crcTable.over
end Go.Proofs.Ytbgombgcjfemmaa
