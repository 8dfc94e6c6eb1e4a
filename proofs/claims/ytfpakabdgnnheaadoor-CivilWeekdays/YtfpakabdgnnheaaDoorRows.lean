/-
  NARROWER THAN 'FOR EVERY INPUT', by the rows' own cells (each row's printed sentence says how): CivilDays: laid · CivilDates: laid · CivilNext: laid · CivilWeekdays: laid · CivilEpochs: laid · CivilOf: laid · CivilOrders: laid.
  DERIVED. THE GIVEN ROWS OF THIS SEAT. 7 by the template 'for every input the law returns true; each argument reads behind the call as it read before'; 0 by the template 'total and deterministic' (their statements: YtfpakabdgnnheaaDoorTotals.lean).
  GIVEN WITH THE SEED: the statements are not yours to turn. If you find one false, say at which input.
  Laid BY PROGRAM, IN A SANDBOX (cutbox-rows.mjs): the forced cells as the released guide's own fill.sh prints them over the translation bac6c11711243786… (all of the seat's roots in one cut). By AI agents, Wed Nov 11 2026. No macro, syntax, notation, axiom, sorry.
-/
import Derived.Test.YtfpakabdgnnheaaDoorChecked
import GoSem.Claim
import GoSem.ClaimJoined
import GoSem.ClaimMapViews
import Derived.JoinedTies
import Derived.KernelRfl
namespace Go.Proofs.YtfpakabdgnnheaaDoor
/- THE CELL 'sum', in the pinned program and in every row, IS THE sha256 OF THE DUMP (.gsa) THAT YtfpakabdgnnheaaDoorProg.lean LOADS. Nothing in Lean hashes anything: it is a label: what it is worth is what the hold of that sum in a sandbox is worth. -/
noncomputable def Tryd.pinned : Pinned := { name := "ytfpakabdgnnheaadoor", sum := "bac6c11711243786c17fa3d2a2e9312567ef761e33a9ed577251090af8bc7156", checked := Tryd.checked }
namespace Rows
def none {H : Type} : Left H := { results := [], args := [] }

/- WHAT THE LISTED PACKAGE-LEVEL VARIABLES READ AS WHEN THE CALL BEGINS. Each datum BY PROGRAM (the guide's laid-datum.mjs) off the statement by which the dump's own 'gosem.cut.vars' lays the variable. In a bare row this is a premise. The card (YtfpakabdgnnheaaDoorCards.lean) ties it to the program's text. -/
def laid_cracknel_civil_lengths {H : Type} : DataW H := .agg [.lit (.int .i64 31), .lit (.int .i64 28), .lit (.int .i64 31), .lit (.int .i64 30), .lit (.int .i64 31), .lit (.int .i64 30), .lit (.int .i64 31), .lit (.int .i64 31), .lit (.int .i64 30), .lit (.int .i64 31), .lit (.int .i64 30), .lit (.int .i64 31)]

/-- 'cracknellaw09.CivilDays': WHATEVER THE INPUT: true; the input reads as it did. -/
def civilDaysSpec : ChangeSpec := { name := "civilDays", fn := fun _ => fun
  | [d1, d2, d3] => { results := [.lit (.bool true)], args := [d1, d2, d3] }
  | _ => none }
def civilDaysRow : OpenClaim := { program := "ytfpakabdgnnheaadoor", sum := "bac6c11711243786c17fa3d2a2e9312567ef761e33a9ed577251090af8bc7156", func := "cracknel/cracknellaw09.CivilDays", spec := "civilDays", named := ["cracknel/civil.lengths"], apart := false, laid := [("cracknel/civil.lengths", laid_cracknel_civil_lengths)] }
def CivilDaysSaid : Prop := civilDaysRow.holds Tryd.pinned (OpenSpec.ofChange civilDaysSpec)

/-- ITS FALSE NEIGHBOUR: 'it returns false'. Refute it at one input. -/
def civilDaysWrong : ChangeSpec := { name := "civilDays", fn := fun _ => fun
  | [d1, d2, d3] => { results := [.lit (.bool false)], args := [d1, d2, d3] }
  | _ => none }
def CivilDaysWrongFalsely : Prop := civilDaysRow.holds Tryd.pinned (OpenSpec.ofChange civilDaysWrong)

/-- 'cracknellaw09.CivilDates': WHATEVER THE INPUT: true; the input reads as it did. -/
def civilDatesSpec : ChangeSpec := { name := "civilDates", fn := fun _ => fun
  | [d] => { results := [.lit (.bool true)], args := [d] }
  | _ => none }
def civilDatesRow : OpenClaim := { program := "ytfpakabdgnnheaadoor", sum := "bac6c11711243786c17fa3d2a2e9312567ef761e33a9ed577251090af8bc7156", func := "cracknel/cracknellaw09.CivilDates", spec := "civilDates", named := ["cracknel/civil.lengths"], apart := false, laid := [("cracknel/civil.lengths", laid_cracknel_civil_lengths)] }
def CivilDatesSaid : Prop := civilDatesRow.holds Tryd.pinned (OpenSpec.ofChange civilDatesSpec)

/-- ITS FALSE NEIGHBOUR: 'it returns false'. Refute it at one input. -/
def civilDatesWrong : ChangeSpec := { name := "civilDates", fn := fun _ => fun
  | [d] => { results := [.lit (.bool false)], args := [d] }
  | _ => none }
def CivilDatesWrongFalsely : Prop := civilDatesRow.holds Tryd.pinned (OpenSpec.ofChange civilDatesWrong)

/-- 'cracknellaw09.CivilNext': WHATEVER THE INPUT: true; the input reads as it did. -/
def civilNextSpec : ChangeSpec := { name := "civilNext", fn := fun _ => fun
  | [d] => { results := [.lit (.bool true)], args := [d] }
  | _ => none }
def civilNextRow : OpenClaim := { program := "ytfpakabdgnnheaadoor", sum := "bac6c11711243786c17fa3d2a2e9312567ef761e33a9ed577251090af8bc7156", func := "cracknel/cracknellaw09.CivilNext", spec := "civilNext", named := ["cracknel/civil.lengths"], apart := false, laid := [("cracknel/civil.lengths", laid_cracknel_civil_lengths)] }
def CivilNextSaid : Prop := civilNextRow.holds Tryd.pinned (OpenSpec.ofChange civilNextSpec)

/-- ITS FALSE NEIGHBOUR: 'it returns false'. Refute it at one input. -/
def civilNextWrong : ChangeSpec := { name := "civilNext", fn := fun _ => fun
  | [d] => { results := [.lit (.bool false)], args := [d] }
  | _ => none }
def CivilNextWrongFalsely : Prop := civilNextRow.holds Tryd.pinned (OpenSpec.ofChange civilNextWrong)

/-- 'cracknellaw09.CivilWeekdays': WHATEVER THE INPUT: true; the input reads as it did. -/
def civilWeekdaysSpec : ChangeSpec := { name := "civilWeekdays", fn := fun _ => fun
  | [d] => { results := [.lit (.bool true)], args := [d] }
  | _ => none }
def civilWeekdaysRow : OpenClaim := { program := "ytfpakabdgnnheaadoor", sum := "bac6c11711243786c17fa3d2a2e9312567ef761e33a9ed577251090af8bc7156", func := "cracknel/cracknellaw09.CivilWeekdays", spec := "civilWeekdays", named := ["cracknel/civil.lengths"], apart := false, laid := [("cracknel/civil.lengths", laid_cracknel_civil_lengths)] }
def CivilWeekdaysSaid : Prop := civilWeekdaysRow.holds Tryd.pinned (OpenSpec.ofChange civilWeekdaysSpec)

/-- ITS FALSE NEIGHBOUR: 'it returns false'. Refute it at one input. -/
def civilWeekdaysWrong : ChangeSpec := { name := "civilWeekdays", fn := fun _ => fun
  | [d] => { results := [.lit (.bool false)], args := [d] }
  | _ => none }
def CivilWeekdaysWrongFalsely : Prop := civilWeekdaysRow.holds Tryd.pinned (OpenSpec.ofChange civilWeekdaysWrong)

/-- 'cracknellaw09.CivilEpochs': WHATEVER THE INPUT: true; the input reads as it did. -/
def civilEpochsSpec : ChangeSpec := { name := "civilEpochs", fn := fun _ => fun
  | [d] => { results := [.lit (.bool true)], args := [d] }
  | _ => none }
def civilEpochsRow : OpenClaim := { program := "ytfpakabdgnnheaadoor", sum := "bac6c11711243786c17fa3d2a2e9312567ef761e33a9ed577251090af8bc7156", func := "cracknel/cracknellaw09.CivilEpochs", spec := "civilEpochs", named := ["cracknel/civil.lengths"], apart := false, laid := [("cracknel/civil.lengths", laid_cracknel_civil_lengths)] }
def CivilEpochsSaid : Prop := civilEpochsRow.holds Tryd.pinned (OpenSpec.ofChange civilEpochsSpec)

/-- ITS FALSE NEIGHBOUR: 'it returns false'. Refute it at one input. -/
def civilEpochsWrong : ChangeSpec := { name := "civilEpochs", fn := fun _ => fun
  | [d] => { results := [.lit (.bool false)], args := [d] }
  | _ => none }
def CivilEpochsWrongFalsely : Prop := civilEpochsRow.holds Tryd.pinned (OpenSpec.ofChange civilEpochsWrong)

/-- 'cracknellaw09.CivilOf': WHATEVER THE INPUT: true; the input reads as it did. -/
def civilOfSpec : ChangeSpec := { name := "civilOf", fn := fun _ => fun
  | [d] => { results := [.lit (.bool true)], args := [d] }
  | _ => none }
def civilOfRow : OpenClaim := { program := "ytfpakabdgnnheaadoor", sum := "bac6c11711243786c17fa3d2a2e9312567ef761e33a9ed577251090af8bc7156", func := "cracknel/cracknellaw09.CivilOf", spec := "civilOf", named := ["cracknel/civil.lengths"], apart := false, laid := [("cracknel/civil.lengths", laid_cracknel_civil_lengths)] }
def CivilOfSaid : Prop := civilOfRow.holds Tryd.pinned (OpenSpec.ofChange civilOfSpec)

/-- ITS FALSE NEIGHBOUR: 'it returns false'. Refute it at one input. -/
def civilOfWrong : ChangeSpec := { name := "civilOf", fn := fun _ => fun
  | [d] => { results := [.lit (.bool false)], args := [d] }
  | _ => none }
def CivilOfWrongFalsely : Prop := civilOfRow.holds Tryd.pinned (OpenSpec.ofChange civilOfWrong)

/-- 'cracknellaw09.CivilOrders': WHATEVER THE INPUT: true; the input reads as it did. -/
def civilOrdersSpec : ChangeSpec := { name := "civilOrders", fn := fun _ => fun
  | [d1, d2] => { results := [.lit (.bool true)], args := [d1, d2] }
  | _ => none }
def civilOrdersRow : OpenClaim := { program := "ytfpakabdgnnheaadoor", sum := "bac6c11711243786c17fa3d2a2e9312567ef761e33a9ed577251090af8bc7156", func := "cracknel/cracknellaw09.CivilOrders", spec := "civilOrders", named := ["cracknel/civil.lengths"], apart := false, laid := [("cracknel/civil.lengths", laid_cracknel_civil_lengths)] }
def CivilOrdersSaid : Prop := civilOrdersRow.holds Tryd.pinned (OpenSpec.ofChange civilOrdersSpec)

/-- ITS FALSE NEIGHBOUR: 'it returns false'. Refute it at one input. -/
def civilOrdersWrong : ChangeSpec := { name := "civilOrders", fn := fun _ => fun
  | [d1, d2] => { results := [.lit (.bool false)], args := [d1, d2] }
  | _ => none }
def CivilOrdersWrongFalsely : Prop := civilOrdersRow.holds Tryd.pinned (OpenSpec.ofChange civilOrdersWrong)

/- THE SECOND FORM. 'bulk': how many values and letters a reading holds, each counted each time it is reached (what is shared counts as often as it is met; a slice's spare places count too). A statement '..UptoSaid' is the law's where the arguments, and the package variables that the reading takes, are together of bulk at most 1048576: NARROWER than '..Said'. Prove '..Said' where nothing that the law and all that it calls make is longer than what came in: it says more and counts as full. Else prove '..UptoSaid'. A law counts once. -/
mutual
def uptoBulk {H : Type} : DataW H → Nat
  | .lit (.string bytes) => bytes.length + 1
  | .lit _ => 1
  | .nil => 1
  | .ptr d => uptoBulk d + 1
  | .slice elems spare => uptoBulkAll elems + uptoBulkAll spare + 1
  | .agg parts => uptoBulkAll parts + 1
  | .iface _ d => uptoBulk d + 1
  | .map entries => uptoBulkEntries entries + 1
  | .held _ => 1
def uptoBulkAll {H : Type} : List (DataW H) → Nat
  | [] => 0
  | d :: r => uptoBulk d + uptoBulkAll r
def uptoBulkEntries {H : Type} : List (Lit × DataW H) → Nat
  | [] => 0
  | x :: r => uptoBulkEntry x + uptoBulkEntries r
def uptoBulkEntry {H : Type} : Lit × DataW H → Nat
  | (.string bytes, d) => bytes.length + uptoBulk d + 1
  | (_, d) => uptoBulk d + 1
 end
def uptoSmall : (H : Type) → List (DataW H) → Bool := fun _ ds => decide (uptoBulkAll ds ≤ 1048576)
def OpenSpec.upto (s : _root_.Go.ChangeSpec) : _root_.Go.OpenSpec := { _root_.Go.OpenSpec.ofChange s with cond := some uptoSmall }

/-- 'cracknellaw09.CivilDays', WHERE WHAT IT READS IS OF BULK AT MOST 1048576: true; the input reads as it did. -/
def civilDaysUptoRow : OpenClaim := { program := "ytfpakabdgnnheaadoor", sum := "bac6c11711243786c17fa3d2a2e9312567ef761e33a9ed577251090af8bc7156", func := "cracknel/cracknellaw09.CivilDays", spec := "civilDays", named := ["cracknel/civil.lengths"], apart := false, laid := [("cracknel/civil.lengths", laid_cracknel_civil_lengths)], narrowed := true }
def CivilDaysUptoSaid : Prop := civilDaysUptoRow.holds Tryd.pinned (OpenSpec.upto civilDaysSpec)

/-- 'cracknellaw09.CivilDates', WHERE WHAT IT READS IS OF BULK AT MOST 1048576: true; the input reads as it did. -/
def civilDatesUptoRow : OpenClaim := { program := "ytfpakabdgnnheaadoor", sum := "bac6c11711243786c17fa3d2a2e9312567ef761e33a9ed577251090af8bc7156", func := "cracknel/cracknellaw09.CivilDates", spec := "civilDates", named := ["cracknel/civil.lengths"], apart := false, laid := [("cracknel/civil.lengths", laid_cracknel_civil_lengths)], narrowed := true }
def CivilDatesUptoSaid : Prop := civilDatesUptoRow.holds Tryd.pinned (OpenSpec.upto civilDatesSpec)

/-- 'cracknellaw09.CivilNext', WHERE WHAT IT READS IS OF BULK AT MOST 1048576: true; the input reads as it did. -/
def civilNextUptoRow : OpenClaim := { program := "ytfpakabdgnnheaadoor", sum := "bac6c11711243786c17fa3d2a2e9312567ef761e33a9ed577251090af8bc7156", func := "cracknel/cracknellaw09.CivilNext", spec := "civilNext", named := ["cracknel/civil.lengths"], apart := false, laid := [("cracknel/civil.lengths", laid_cracknel_civil_lengths)], narrowed := true }
def CivilNextUptoSaid : Prop := civilNextUptoRow.holds Tryd.pinned (OpenSpec.upto civilNextSpec)

/-- 'cracknellaw09.CivilWeekdays', WHERE WHAT IT READS IS OF BULK AT MOST 1048576: true; the input reads as it did. -/
def civilWeekdaysUptoRow : OpenClaim := { program := "ytfpakabdgnnheaadoor", sum := "bac6c11711243786c17fa3d2a2e9312567ef761e33a9ed577251090af8bc7156", func := "cracknel/cracknellaw09.CivilWeekdays", spec := "civilWeekdays", named := ["cracknel/civil.lengths"], apart := false, laid := [("cracknel/civil.lengths", laid_cracknel_civil_lengths)], narrowed := true }
def CivilWeekdaysUptoSaid : Prop := civilWeekdaysUptoRow.holds Tryd.pinned (OpenSpec.upto civilWeekdaysSpec)

/-- 'cracknellaw09.CivilEpochs', WHERE WHAT IT READS IS OF BULK AT MOST 1048576: true; the input reads as it did. -/
def civilEpochsUptoRow : OpenClaim := { program := "ytfpakabdgnnheaadoor", sum := "bac6c11711243786c17fa3d2a2e9312567ef761e33a9ed577251090af8bc7156", func := "cracknel/cracknellaw09.CivilEpochs", spec := "civilEpochs", named := ["cracknel/civil.lengths"], apart := false, laid := [("cracknel/civil.lengths", laid_cracknel_civil_lengths)], narrowed := true }
def CivilEpochsUptoSaid : Prop := civilEpochsUptoRow.holds Tryd.pinned (OpenSpec.upto civilEpochsSpec)

/-- 'cracknellaw09.CivilOf', WHERE WHAT IT READS IS OF BULK AT MOST 1048576: true; the input reads as it did. -/
def civilOfUptoRow : OpenClaim := { program := "ytfpakabdgnnheaadoor", sum := "bac6c11711243786c17fa3d2a2e9312567ef761e33a9ed577251090af8bc7156", func := "cracknel/cracknellaw09.CivilOf", spec := "civilOf", named := ["cracknel/civil.lengths"], apart := false, laid := [("cracknel/civil.lengths", laid_cracknel_civil_lengths)], narrowed := true }
def CivilOfUptoSaid : Prop := civilOfUptoRow.holds Tryd.pinned (OpenSpec.upto civilOfSpec)

/-- 'cracknellaw09.CivilOrders', WHERE WHAT IT READS IS OF BULK AT MOST 1048576: true; the input reads as it did. -/
def civilOrdersUptoRow : OpenClaim := { program := "ytfpakabdgnnheaadoor", sum := "bac6c11711243786c17fa3d2a2e9312567ef761e33a9ed577251090af8bc7156", func := "cracknel/cracknellaw09.CivilOrders", spec := "civilOrders", named := ["cracknel/civil.lengths"], apart := false, laid := [("cracknel/civil.lengths", laid_cracknel_civil_lengths)], narrowed := true }
def CivilOrdersUptoSaid : Prop := civilOrdersUptoRow.holds Tryd.pinned (OpenSpec.upto civilOrdersSpec)

end Rows
end Go.Proofs.YtfpakabdgnnheaaDoor
