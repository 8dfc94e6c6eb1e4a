/-
  NARROWER THAN 'FOR EVERY INPUT', by the rows' own cells (each row's printed sentence says how): DateCookies: laid · DateImf: laid · DateIso: laid · DateUniso: laid · DateCase: laid · DateParted: laid · DateYears: laid.
  DERIVED. THE GIVEN ROWS OF THIS SEAT. 7 by the template 'for every input the law returns true; each argument reads behind the call as it read before'; 0 by the template 'total and deterministic' (their statements: YtmmkokomffclmaaDoorTotals.lean).
  GIVEN WITH THE SEED: the statements are not yours to turn. If you find one false, say at which input.
  Laid BY PROGRAM, IN A SANDBOX (cutbox-rows.mjs): the forced cells as the released guide's own fill.sh prints them over the translation 2c69dc20f2d1ba02… (all of the seat's roots in one cut). By AI agents, Wed Nov 11 2026. No macro, syntax, notation, axiom, sorry.
-/
import Derived.Test.YtmmkokomffclmaaDoorChecked
import GoSem.Claim
import GoSem.ClaimJoined
import GoSem.ClaimMapViews
import Derived.JoinedTies
import Derived.KernelRfl
namespace Go.Proofs.YtmmkokomffclmaaDoor
/- THE CELL 'sum', in the pinned program and in every row, IS THE sha256 OF THE DUMP (.gsa) THAT YtmmkokomffclmaaDoorProg.lean LOADS. Nothing in Lean hashes anything: it is a label: what it is worth is what the hold of that sum in a sandbox is worth. -/
noncomputable def Tryd.pinned : Pinned := { name := "ytmmkokomffclmaadoor", sum := "2c69dc20f2d1ba021c1b78a44bee19bc00dc7ae7789083d74f49cd914a1ace12", checked := Tryd.checked }
namespace Rows
def none {H : Type} : Left H := { results := [], args := [] }

/- WHAT THE LISTED PACKAGE-LEVEL VARIABLES READ AS WHEN THE CALL BEGINS. Each datum BY PROGRAM (the guide's laid-datum.mjs) off the statement by which the dump's own 'gosem.cut.vars' lays the variable. In a bare row this is a premise. The card (YtmmkokomffclmaaDoorCards.lean) ties it to the program's text. -/
def laid_cracknel_civil_lengths {H : Type} : DataW H := .agg [.lit (.int .i64 31), .lit (.int .i64 28), .lit (.int .i64 31), .lit (.int .i64 30), .lit (.int .i64 31), .lit (.int .i64 30), .lit (.int .i64 31), .lit (.int .i64 31), .lit (.int .i64 30), .lit (.int .i64 31), .lit (.int .i64 30), .lit (.int .i64 31)]
def laid_cracknel_date_weekdays {H : Type} : DataW H := .agg [.lit (.string [83, 117, 110]), .lit (.string [77, 111, 110]), .lit (.string [84, 117, 101]), .lit (.string [87, 101, 100]), .lit (.string [84, 104, 117]), .lit (.string [70, 114, 105]), .lit (.string [83, 97, 116])]
def laid_cracknel_date_months {H : Type} : DataW H := .agg [.lit (.string [74, 97, 110]), .lit (.string [70, 101, 98]), .lit (.string [77, 97, 114]), .lit (.string [65, 112, 114]), .lit (.string [77, 97, 121]), .lit (.string [74, 117, 110]), .lit (.string [74, 117, 108]), .lit (.string [65, 117, 103]), .lit (.string [83, 101, 112]), .lit (.string [79, 99, 116]), .lit (.string [78, 111, 118]), .lit (.string [68, 101, 99])]

/-- 'cracknellaw10.DateCookies': WHATEVER THE INPUT: true; the input reads as it did. -/
def dateCookiesSpec : ChangeSpec := { name := "dateCookies", fn := fun _ => fun
  | [d] => { results := [.lit (.bool true)], args := [d] }
  | _ => none }
def dateCookiesRow : OpenClaim := { program := "ytmmkokomffclmaadoor", sum := "2c69dc20f2d1ba021c1b78a44bee19bc00dc7ae7789083d74f49cd914a1ace12", func := "cracknel/cracknellaw10.DateCookies", spec := "dateCookies", unfollowed := true, recurses := true, named := ["cracknel/date.months", "cracknel/civil.lengths", "cracknel/date.weekdays"], apart := false, laid := [("cracknel/civil.lengths", laid_cracknel_civil_lengths), ("cracknel/date.weekdays", laid_cracknel_date_weekdays), ("cracknel/date.months", laid_cracknel_date_months)] }
def DateCookiesSaid : Prop := dateCookiesRow.holds Tryd.pinned (OpenSpec.ofChange dateCookiesSpec)

/-- ITS FALSE NEIGHBOUR: 'it returns false'. Refute it at one input. -/
def dateCookiesWrong : ChangeSpec := { name := "dateCookies", fn := fun _ => fun
  | [d] => { results := [.lit (.bool false)], args := [d] }
  | _ => none }
def DateCookiesWrongFalsely : Prop := dateCookiesRow.holds Tryd.pinned (OpenSpec.ofChange dateCookiesWrong)

/-- 'cracknellaw10.DateImf': WHATEVER THE INPUT: true; the input reads as it did. -/
def dateImfSpec : ChangeSpec := { name := "dateImf", fn := fun _ => fun
  | [d] => { results := [.lit (.bool true)], args := [d] }
  | _ => none }
def dateImfRow : OpenClaim := { program := "ytmmkokomffclmaadoor", sum := "2c69dc20f2d1ba021c1b78a44bee19bc00dc7ae7789083d74f49cd914a1ace12", func := "cracknel/cracknellaw10.DateImf", spec := "dateImf", unfollowed := true, recurses := true, named := ["cracknel/date.weekdays", "cracknel/date.months", "cracknel/civil.lengths"], apart := false, laid := [("cracknel/civil.lengths", laid_cracknel_civil_lengths), ("cracknel/date.weekdays", laid_cracknel_date_weekdays), ("cracknel/date.months", laid_cracknel_date_months)] }
def DateImfSaid : Prop := dateImfRow.holds Tryd.pinned (OpenSpec.ofChange dateImfSpec)

/-- ITS FALSE NEIGHBOUR: 'it returns false'. Refute it at one input. -/
def dateImfWrong : ChangeSpec := { name := "dateImf", fn := fun _ => fun
  | [d] => { results := [.lit (.bool false)], args := [d] }
  | _ => none }
def DateImfWrongFalsely : Prop := dateImfRow.holds Tryd.pinned (OpenSpec.ofChange dateImfWrong)

/-- 'cracknellaw10.DateIso': WHATEVER THE INPUT: true; the input reads as it did. -/
def dateIsoSpec : ChangeSpec := { name := "dateIso", fn := fun _ => fun
  | [d] => { results := [.lit (.bool true)], args := [d] }
  | _ => none }
def dateIsoRow : OpenClaim := { program := "ytmmkokomffclmaadoor", sum := "2c69dc20f2d1ba021c1b78a44bee19bc00dc7ae7789083d74f49cd914a1ace12", func := "cracknel/cracknellaw10.DateIso", spec := "dateIso", unfollowed := true, recurses := true, named := ["cracknel/civil.lengths", "cracknel/date.months", "cracknel/date.weekdays"], apart := false, laid := [("cracknel/civil.lengths", laid_cracknel_civil_lengths), ("cracknel/date.weekdays", laid_cracknel_date_weekdays), ("cracknel/date.months", laid_cracknel_date_months)] }
def DateIsoSaid : Prop := dateIsoRow.holds Tryd.pinned (OpenSpec.ofChange dateIsoSpec)

/-- ITS FALSE NEIGHBOUR: 'it returns false'. Refute it at one input. -/
def dateIsoWrong : ChangeSpec := { name := "dateIso", fn := fun _ => fun
  | [d] => { results := [.lit (.bool false)], args := [d] }
  | _ => none }
def DateIsoWrongFalsely : Prop := dateIsoRow.holds Tryd.pinned (OpenSpec.ofChange dateIsoWrong)

/-- 'cracknellaw10.DateUniso': WHATEVER THE INPUT: true; the input reads as it did. -/
def dateUnisoSpec : ChangeSpec := { name := "dateUniso", fn := fun _ => fun
  | [d] => { results := [.lit (.bool true)], args := [d] }
  | _ => none }
def dateUnisoRow : OpenClaim := { program := "ytmmkokomffclmaadoor", sum := "2c69dc20f2d1ba021c1b78a44bee19bc00dc7ae7789083d74f49cd914a1ace12", func := "cracknel/cracknellaw10.DateUniso", spec := "dateUniso", unfollowed := true, recurses := true, named := ["cracknel/civil.lengths", "cracknel/date.months", "cracknel/date.weekdays"], apart := false, laid := [("cracknel/civil.lengths", laid_cracknel_civil_lengths), ("cracknel/date.weekdays", laid_cracknel_date_weekdays), ("cracknel/date.months", laid_cracknel_date_months)] }
def DateUnisoSaid : Prop := dateUnisoRow.holds Tryd.pinned (OpenSpec.ofChange dateUnisoSpec)

/-- ITS FALSE NEIGHBOUR: 'it returns false'. Refute it at one input. -/
def dateUnisoWrong : ChangeSpec := { name := "dateUniso", fn := fun _ => fun
  | [d] => { results := [.lit (.bool false)], args := [d] }
  | _ => none }
def DateUnisoWrongFalsely : Prop := dateUnisoRow.holds Tryd.pinned (OpenSpec.ofChange dateUnisoWrong)

/-- 'cracknellaw10.DateCase': WHATEVER THE INPUT: true; the input reads as it did. -/
def dateCaseSpec : ChangeSpec := { name := "dateCase", fn := fun _ => fun
  | [d] => { results := [.lit (.bool true)], args := [d] }
  | _ => none }
def dateCaseRow : OpenClaim := { program := "ytmmkokomffclmaadoor", sum := "2c69dc20f2d1ba021c1b78a44bee19bc00dc7ae7789083d74f49cd914a1ace12", func := "cracknel/cracknellaw10.DateCase", spec := "dateCase", unfollowed := true, recurses := true, named := ["cracknel/date.months", "cracknel/civil.lengths", "cracknel/date.weekdays"], apart := false, laid := [("cracknel/civil.lengths", laid_cracknel_civil_lengths), ("cracknel/date.weekdays", laid_cracknel_date_weekdays), ("cracknel/date.months", laid_cracknel_date_months)] }
def DateCaseSaid : Prop := dateCaseRow.holds Tryd.pinned (OpenSpec.ofChange dateCaseSpec)

/-- ITS FALSE NEIGHBOUR: 'it returns false'. Refute it at one input. -/
def dateCaseWrong : ChangeSpec := { name := "dateCase", fn := fun _ => fun
  | [d] => { results := [.lit (.bool false)], args := [d] }
  | _ => none }
def DateCaseWrongFalsely : Prop := dateCaseRow.holds Tryd.pinned (OpenSpec.ofChange dateCaseWrong)

/-- 'cracknellaw10.DateParted': WHATEVER THE INPUT: true; the input reads as it did. -/
def datePartedSpec : ChangeSpec := { name := "dateParted", fn := fun _ => fun
  | [d1, d2] => { results := [.lit (.bool true)], args := [d1, d2] }
  | _ => none }
def datePartedRow : OpenClaim := { program := "ytmmkokomffclmaadoor", sum := "2c69dc20f2d1ba021c1b78a44bee19bc00dc7ae7789083d74f49cd914a1ace12", func := "cracknel/cracknellaw10.DateParted", spec := "dateParted", unfollowed := true, recurses := true, named := ["cracknel/date.months", "cracknel/civil.lengths", "cracknel/date.weekdays"], apart := false, laid := [("cracknel/civil.lengths", laid_cracknel_civil_lengths), ("cracknel/date.weekdays", laid_cracknel_date_weekdays), ("cracknel/date.months", laid_cracknel_date_months)] }
def DatePartedSaid : Prop := datePartedRow.holds Tryd.pinned (OpenSpec.ofChange datePartedSpec)

/-- ITS FALSE NEIGHBOUR: 'it returns false'. Refute it at one input. -/
def datePartedWrong : ChangeSpec := { name := "dateParted", fn := fun _ => fun
  | [d1, d2] => { results := [.lit (.bool false)], args := [d1, d2] }
  | _ => none }
def DatePartedWrongFalsely : Prop := datePartedRow.holds Tryd.pinned (OpenSpec.ofChange datePartedWrong)

/-- 'cracknellaw10.DateYears': WHATEVER THE INPUT: true; the input reads as it did. -/
def dateYearsSpec : ChangeSpec := { name := "dateYears", fn := fun _ => fun
  | [d] => { results := [.lit (.bool true)], args := [d] }
  | _ => none }
def dateYearsRow : OpenClaim := { program := "ytmmkokomffclmaadoor", sum := "2c69dc20f2d1ba021c1b78a44bee19bc00dc7ae7789083d74f49cd914a1ace12", func := "cracknel/cracknellaw10.DateYears", spec := "dateYears", unfollowed := true, recurses := true, named := ["cracknel/date.months", "cracknel/civil.lengths", "cracknel/date.weekdays"], apart := false, laid := [("cracknel/civil.lengths", laid_cracknel_civil_lengths), ("cracknel/date.weekdays", laid_cracknel_date_weekdays), ("cracknel/date.months", laid_cracknel_date_months)] }
def DateYearsSaid : Prop := dateYearsRow.holds Tryd.pinned (OpenSpec.ofChange dateYearsSpec)

/-- ITS FALSE NEIGHBOUR: 'it returns false'. Refute it at one input. -/
def dateYearsWrong : ChangeSpec := { name := "dateYears", fn := fun _ => fun
  | [d] => { results := [.lit (.bool false)], args := [d] }
  | _ => none }
def DateYearsWrongFalsely : Prop := dateYearsRow.holds Tryd.pinned (OpenSpec.ofChange dateYearsWrong)

/- THE SECOND FORM. 'bulk': how many values and letters a reading holds, each counted each time it is reached (what is shared counts as often as it is met; a slice's spare places count too). A statement '..UptoSaid' is the law's where the arguments, and the package variables that the reading takes, are together of bulk at most 1048576: NARROWER than '..Said'. Prove '..Said' where nothing that the law and all that it calls make is longer than what came in: it says more and counts as full. Else prove '..UptoSaid'. A law counts once. -/
mutual
def uptoBulk {H : Type} : DataW H → Nat
  | .lit (.string bytes) => bytes.length + 1
  | .lit _ => 1
  | .nil => 1
  | .ptr d => uptoBulk d + 1
  | .slice elems spare => uptoBulkAll elems + uptoBulkAll spare + 1
  | .agg parts => uptoBulkAll parts + 1
  | .iface _ d => uptoBulk d + 1
  | .map entries => uptoBulkEntries entries + 1
  | .held _ => 1
def uptoBulkAll {H : Type} : List (DataW H) → Nat
  | [] => 0
  | d :: r => uptoBulk d + uptoBulkAll r
def uptoBulkEntries {H : Type} : List (Lit × DataW H) → Nat
  | [] => 0
  | x :: r => uptoBulkEntry x + uptoBulkEntries r
def uptoBulkEntry {H : Type} : Lit × DataW H → Nat
  | (.string bytes, d) => bytes.length + uptoBulk d + 1
  | (_, d) => uptoBulk d + 1
 end
def uptoSmall : (H : Type) → List (DataW H) → Bool := fun _ ds => decide (uptoBulkAll ds ≤ 1048576)
def OpenSpec.upto (s : _root_.Go.ChangeSpec) : _root_.Go.OpenSpec := { _root_.Go.OpenSpec.ofChange s with cond := some uptoSmall }

/-- 'cracknellaw10.DateCookies', WHERE WHAT IT READS IS OF BULK AT MOST 1048576: true; the input reads as it did. -/
def dateCookiesUptoRow : OpenClaim := { program := "ytmmkokomffclmaadoor", sum := "2c69dc20f2d1ba021c1b78a44bee19bc00dc7ae7789083d74f49cd914a1ace12", func := "cracknel/cracknellaw10.DateCookies", spec := "dateCookies", unfollowed := true, recurses := true, named := ["cracknel/date.months", "cracknel/civil.lengths", "cracknel/date.weekdays"], apart := false, laid := [("cracknel/civil.lengths", laid_cracknel_civil_lengths), ("cracknel/date.weekdays", laid_cracknel_date_weekdays), ("cracknel/date.months", laid_cracknel_date_months)], narrowed := true }
def DateCookiesUptoSaid : Prop := dateCookiesUptoRow.holds Tryd.pinned (OpenSpec.upto dateCookiesSpec)

/-- 'cracknellaw10.DateImf', WHERE WHAT IT READS IS OF BULK AT MOST 1048576: true; the input reads as it did. -/
def dateImfUptoRow : OpenClaim := { program := "ytmmkokomffclmaadoor", sum := "2c69dc20f2d1ba021c1b78a44bee19bc00dc7ae7789083d74f49cd914a1ace12", func := "cracknel/cracknellaw10.DateImf", spec := "dateImf", unfollowed := true, recurses := true, named := ["cracknel/date.weekdays", "cracknel/date.months", "cracknel/civil.lengths"], apart := false, laid := [("cracknel/civil.lengths", laid_cracknel_civil_lengths), ("cracknel/date.weekdays", laid_cracknel_date_weekdays), ("cracknel/date.months", laid_cracknel_date_months)], narrowed := true }
def DateImfUptoSaid : Prop := dateImfUptoRow.holds Tryd.pinned (OpenSpec.upto dateImfSpec)

/-- 'cracknellaw10.DateIso', WHERE WHAT IT READS IS OF BULK AT MOST 1048576: true; the input reads as it did. -/
def dateIsoUptoRow : OpenClaim := { program := "ytmmkokomffclmaadoor", sum := "2c69dc20f2d1ba021c1b78a44bee19bc00dc7ae7789083d74f49cd914a1ace12", func := "cracknel/cracknellaw10.DateIso", spec := "dateIso", unfollowed := true, recurses := true, named := ["cracknel/civil.lengths", "cracknel/date.months", "cracknel/date.weekdays"], apart := false, laid := [("cracknel/civil.lengths", laid_cracknel_civil_lengths), ("cracknel/date.weekdays", laid_cracknel_date_weekdays), ("cracknel/date.months", laid_cracknel_date_months)], narrowed := true }
def DateIsoUptoSaid : Prop := dateIsoUptoRow.holds Tryd.pinned (OpenSpec.upto dateIsoSpec)

/-- 'cracknellaw10.DateUniso', WHERE WHAT IT READS IS OF BULK AT MOST 1048576: true; the input reads as it did. -/
def dateUnisoUptoRow : OpenClaim := { program := "ytmmkokomffclmaadoor", sum := "2c69dc20f2d1ba021c1b78a44bee19bc00dc7ae7789083d74f49cd914a1ace12", func := "cracknel/cracknellaw10.DateUniso", spec := "dateUniso", unfollowed := true, recurses := true, named := ["cracknel/civil.lengths", "cracknel/date.months", "cracknel/date.weekdays"], apart := false, laid := [("cracknel/civil.lengths", laid_cracknel_civil_lengths), ("cracknel/date.weekdays", laid_cracknel_date_weekdays), ("cracknel/date.months", laid_cracknel_date_months)], narrowed := true }
def DateUnisoUptoSaid : Prop := dateUnisoUptoRow.holds Tryd.pinned (OpenSpec.upto dateUnisoSpec)

/-- 'cracknellaw10.DateCase', WHERE WHAT IT READS IS OF BULK AT MOST 1048576: true; the input reads as it did. -/
def dateCaseUptoRow : OpenClaim := { program := "ytmmkokomffclmaadoor", sum := "2c69dc20f2d1ba021c1b78a44bee19bc00dc7ae7789083d74f49cd914a1ace12", func := "cracknel/cracknellaw10.DateCase", spec := "dateCase", unfollowed := true, recurses := true, named := ["cracknel/date.months", "cracknel/civil.lengths", "cracknel/date.weekdays"], apart := false, laid := [("cracknel/civil.lengths", laid_cracknel_civil_lengths), ("cracknel/date.weekdays", laid_cracknel_date_weekdays), ("cracknel/date.months", laid_cracknel_date_months)], narrowed := true }
def DateCaseUptoSaid : Prop := dateCaseUptoRow.holds Tryd.pinned (OpenSpec.upto dateCaseSpec)

/-- 'cracknellaw10.DateParted', WHERE WHAT IT READS IS OF BULK AT MOST 1048576: true; the input reads as it did. -/
def datePartedUptoRow : OpenClaim := { program := "ytmmkokomffclmaadoor", sum := "2c69dc20f2d1ba021c1b78a44bee19bc00dc7ae7789083d74f49cd914a1ace12", func := "cracknel/cracknellaw10.DateParted", spec := "dateParted", unfollowed := true, recurses := true, named := ["cracknel/date.months", "cracknel/civil.lengths", "cracknel/date.weekdays"], apart := false, laid := [("cracknel/civil.lengths", laid_cracknel_civil_lengths), ("cracknel/date.weekdays", laid_cracknel_date_weekdays), ("cracknel/date.months", laid_cracknel_date_months)], narrowed := true }
def DatePartedUptoSaid : Prop := datePartedUptoRow.holds Tryd.pinned (OpenSpec.upto datePartedSpec)

/-- 'cracknellaw10.DateYears', WHERE WHAT IT READS IS OF BULK AT MOST 1048576: true; the input reads as it did. -/
def dateYearsUptoRow : OpenClaim := { program := "ytmmkokomffclmaadoor", sum := "2c69dc20f2d1ba021c1b78a44bee19bc00dc7ae7789083d74f49cd914a1ace12", func := "cracknel/cracknellaw10.DateYears", spec := "dateYears", unfollowed := true, recurses := true, named := ["cracknel/date.months", "cracknel/civil.lengths", "cracknel/date.weekdays"], apart := false, laid := [("cracknel/civil.lengths", laid_cracknel_civil_lengths), ("cracknel/date.weekdays", laid_cracknel_date_weekdays), ("cracknel/date.months", laid_cracknel_date_months)], narrowed := true }
def DateYearsUptoSaid : Prop := dateYearsUptoRow.holds Tryd.pinned (OpenSpec.upto dateYearsSpec)

end Rows
end Go.Proofs.YtmmkokomffclmaaDoor
