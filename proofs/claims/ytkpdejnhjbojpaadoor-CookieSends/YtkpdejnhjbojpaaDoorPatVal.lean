/-
  An address's value.
-/
import Derived.Test.YtkpdejnhjbojpaaDoorBase
namespace Go.Proofs.YtkpdejnhjbojpaaDoor
open Go.RowKit
set_option linter.unusedVariables false

/-- An address's value. -/
abbrev urlV (s : Bool) (h p : ByteArray) : Value := .agg #[.bool s, .string h, .string p]
end Go.Proofs.YtkpdejnhjbojpaaDoor
