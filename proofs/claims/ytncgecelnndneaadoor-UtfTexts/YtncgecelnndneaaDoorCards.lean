/-
  DERIVED. GIVEN WITH THE SEED: THE CARDS: each row of YtncgecelnndneaaDoorRows.lean that lists a variable, with what it lists TIED to the program's text (the seventh form; the later family's looks); each row that meets fmt, with fmt's text TOLD by the authors' own Lean function (tested against real Go, not proved from fmt's source: count such statements apart). THE CARD IS WHAT COUNTS. Prove the row's statement (the work); the ties are given (YtncgecelnndneaaDoorTie.lean); close each card by the builder's one call (the guide's Derived/Test/ToyasCard.lean, 'card_holds'). Laid BY PROGRAM, IN A SANDBOX (cutbox-door.mjs). By AI agents, Wed Nov 11 2026. No macro, syntax, notation, axiom, sorry.
-/
import Derived.Test.YtncgecelnndneaaDoorRows
import GoSem.ClaimSeven
namespace Go.Proofs.YtncgecelnndneaaDoor
namespace Rows

/-- THE TIED CARD OF 'cracknellaw05.UtfPuts'. -/
def utfPutsCard : Claim7 := { stood := { row := utfPutsRow, standIns := [], harness := (true, "069676fd68c00b8ce7680de9ab89fa7a1cdd4994757a0bbbd617d8e3efe6bb36"), looks := false }, kinds := [], alts := [], laidByText := true, laidKinds := [.data, .pinned], laidTests := true, laidLooks := .later }
def UtfPutsCardSaid : Prop := Claim7.holds Tryd.pinned (.plain (OpenSpec.ofChange utfPutsSpec)) utfPutsCard

/-- THE TIED CARD OF 'cracknellaw05.UtfTakes'. -/
def utfTakesCard : Claim7 := { stood := { row := utfTakesRow, standIns := [], harness := (true, "069676fd68c00b8ce7680de9ab89fa7a1cdd4994757a0bbbd617d8e3efe6bb36"), looks := false }, kinds := [], alts := [], laidByText := true, laidKinds := [.data, .pinned], laidTests := true, laidLooks := .later }
def UtfTakesCardSaid : Prop := Claim7.holds Tryd.pinned (.plain (OpenSpec.ofChange utfTakesSpec)) utfTakesCard

/-- THE TIED CARD OF 'cracknellaw05.UtfTexts'. -/
def utfTextsCard : Claim7 := { stood := { row := utfTextsRow, standIns := [], harness := (true, "069676fd68c00b8ce7680de9ab89fa7a1cdd4994757a0bbbd617d8e3efe6bb36"), looks := false }, kinds := [], alts := [], laidByText := true, laidKinds := [.data, .pinned], laidTests := true, laidLooks := .later }
def UtfTextsCardSaid : Prop := Claim7.holds Tryd.pinned (.plain (OpenSpec.ofChange utfTextsSpec)) utfTextsCard

/-- THE TIED CARD OF 'cracknellaw05.UtfRunes'. -/
def utfRunesCard : Claim7 := { stood := { row := utfRunesRow, standIns := [], harness := (true, "069676fd68c00b8ce7680de9ab89fa7a1cdd4994757a0bbbd617d8e3efe6bb36"), looks := false }, kinds := [], alts := [], laidByText := true, laidKinds := [.data, .pinned], laidTests := true, laidLooks := .later }
def UtfRunesCardSaid : Prop := Claim7.holds Tryd.pinned (.plain (OpenSpec.ofChange utfRunesSpec)) utfRunesCard

/-- THE TIED CARD OF 'cracknellaw05.UtfJoins'. -/
def utfJoinsCard : Claim7 := { stood := { row := utfJoinsRow, standIns := [], harness := (true, "069676fd68c00b8ce7680de9ab89fa7a1cdd4994757a0bbbd617d8e3efe6bb36"), looks := false }, kinds := [], alts := [], laidByText := true, laidKinds := [.data, .pinned], laidTests := true, laidLooks := .later }
def UtfJoinsCardSaid : Prop := Claim7.holds Tryd.pinned (.plain (OpenSpec.ofChange utfJoinsSpec)) utfJoinsCard

/-- THE TIED CARD OF 'cracknellaw05.UtfOrders'. -/
def utfOrdersCard : Claim7 := { stood := { row := utfOrdersRow, standIns := [], harness := (true, "069676fd68c00b8ce7680de9ab89fa7a1cdd4994757a0bbbd617d8e3efe6bb36"), looks := false }, kinds := [], alts := [], laidByText := true, laidKinds := [.data, .pinned], laidTests := true, laidLooks := .later }
def UtfOrdersCardSaid : Prop := Claim7.holds Tryd.pinned (.plain (OpenSpec.ofChange utfOrdersSpec)) utfOrdersCard

/-- THE SECOND FORM's CARD OF 'cracknellaw05.UtfPuts'. -/
def utfPutsUptoCard : Claim7 := { stood := { row := utfPutsUptoRow, standIns := [], harness := (true, "069676fd68c00b8ce7680de9ab89fa7a1cdd4994757a0bbbd617d8e3efe6bb36"), looks := false }, kinds := [], alts := [], laidByText := true, laidKinds := [.data, .pinned], laidTests := true, laidLooks := .later }
def UtfPutsUptoCardSaid : Prop := Claim7.holds Tryd.pinned (.plain (OpenSpec.upto utfPutsSpec)) utfPutsUptoCard

/-- THE SECOND FORM's CARD OF 'cracknellaw05.UtfTakes'. -/
def utfTakesUptoCard : Claim7 := { stood := { row := utfTakesUptoRow, standIns := [], harness := (true, "069676fd68c00b8ce7680de9ab89fa7a1cdd4994757a0bbbd617d8e3efe6bb36"), looks := false }, kinds := [], alts := [], laidByText := true, laidKinds := [.data, .pinned], laidTests := true, laidLooks := .later }
def UtfTakesUptoCardSaid : Prop := Claim7.holds Tryd.pinned (.plain (OpenSpec.upto utfTakesSpec)) utfTakesUptoCard

/-- THE SECOND FORM's CARD OF 'cracknellaw05.UtfTexts'. -/
def utfTextsUptoCard : Claim7 := { stood := { row := utfTextsUptoRow, standIns := [], harness := (true, "069676fd68c00b8ce7680de9ab89fa7a1cdd4994757a0bbbd617d8e3efe6bb36"), looks := false }, kinds := [], alts := [], laidByText := true, laidKinds := [.data, .pinned], laidTests := true, laidLooks := .later }
def UtfTextsUptoCardSaid : Prop := Claim7.holds Tryd.pinned (.plain (OpenSpec.upto utfTextsSpec)) utfTextsUptoCard

/-- THE SECOND FORM's CARD OF 'cracknellaw05.UtfRunes'. -/
def utfRunesUptoCard : Claim7 := { stood := { row := utfRunesUptoRow, standIns := [], harness := (true, "069676fd68c00b8ce7680de9ab89fa7a1cdd4994757a0bbbd617d8e3efe6bb36"), looks := false }, kinds := [], alts := [], laidByText := true, laidKinds := [.data, .pinned], laidTests := true, laidLooks := .later }
def UtfRunesUptoCardSaid : Prop := Claim7.holds Tryd.pinned (.plain (OpenSpec.upto utfRunesSpec)) utfRunesUptoCard

/-- THE SECOND FORM's CARD OF 'cracknellaw05.UtfJoins'. -/
def utfJoinsUptoCard : Claim7 := { stood := { row := utfJoinsUptoRow, standIns := [], harness := (true, "069676fd68c00b8ce7680de9ab89fa7a1cdd4994757a0bbbd617d8e3efe6bb36"), looks := false }, kinds := [], alts := [], laidByText := true, laidKinds := [.data, .pinned], laidTests := true, laidLooks := .later }
def UtfJoinsUptoCardSaid : Prop := Claim7.holds Tryd.pinned (.plain (OpenSpec.upto utfJoinsSpec)) utfJoinsUptoCard

/-- THE SECOND FORM's CARD OF 'cracknellaw05.UtfOrders'. -/
def utfOrdersUptoCard : Claim7 := { stood := { row := utfOrdersUptoRow, standIns := [], harness := (true, "069676fd68c00b8ce7680de9ab89fa7a1cdd4994757a0bbbd617d8e3efe6bb36"), looks := false }, kinds := [], alts := [], laidByText := true, laidKinds := [.data, .pinned], laidTests := true, laidLooks := .later }
def UtfOrdersUptoCardSaid : Prop := Claim7.holds Tryd.pinned (.plain (OpenSpec.upto utfOrdersSpec)) utfOrdersUptoCard
end Rows
end Go.Proofs.YtncgecelnndneaaDoor
