/-
  DERIVED. GIVEN WITH THE SEED: THE CARDS: each row of YtfpakabdgnnheaaDoorRows.lean that lists a variable, with what it lists TIED to the program's text (the seventh form; the later family's looks); each row that meets fmt, with fmt's text TOLD by the authors' own Lean function (tested against real Go, not proved from fmt's source: count such statements apart). THE CARD IS WHAT COUNTS. Prove the row's statement (the work); the ties are given (YtfpakabdgnnheaaDoorTie.lean); close each card by the builder's one call (the guide's Derived/Test/ToyasCard.lean, 'card_holds'). Laid BY PROGRAM, IN A SANDBOX (cutbox-door.mjs). By AI agents, Wed Nov 11 2026. No macro, syntax, notation, axiom, sorry.
-/
import Derived.Test.YtfpakabdgnnheaaDoorRows
import GoSem.ClaimSeven
namespace Go.Proofs.YtfpakabdgnnheaaDoor
namespace Rows

/-- THE TIED CARD OF 'cracknellaw09.CivilDays'. -/
def civilDaysCard : Claim7 := { stood := { row := civilDaysRow, standIns := [], harness := (true, "9a942e06abe3f639faff6f4fff876442419fb63c08c348f1c9e8233000a0f5c2"), looks := false }, kinds := [], alts := [], laidByText := true, laidKinds := [.data], laidTests := true, laidLooks := .later }
def CivilDaysCardSaid : Prop := Claim7.holds Tryd.pinned (.plain (OpenSpec.ofChange civilDaysSpec)) civilDaysCard

/-- THE TIED CARD OF 'cracknellaw09.CivilDates'. -/
def civilDatesCard : Claim7 := { stood := { row := civilDatesRow, standIns := [], harness := (true, "9a942e06abe3f639faff6f4fff876442419fb63c08c348f1c9e8233000a0f5c2"), looks := false }, kinds := [], alts := [], laidByText := true, laidKinds := [.data], laidTests := true, laidLooks := .later }
def CivilDatesCardSaid : Prop := Claim7.holds Tryd.pinned (.plain (OpenSpec.ofChange civilDatesSpec)) civilDatesCard

/-- THE TIED CARD OF 'cracknellaw09.CivilNext'. -/
def civilNextCard : Claim7 := { stood := { row := civilNextRow, standIns := [], harness := (true, "9a942e06abe3f639faff6f4fff876442419fb63c08c348f1c9e8233000a0f5c2"), looks := false }, kinds := [], alts := [], laidByText := true, laidKinds := [.data], laidTests := true, laidLooks := .later }
def CivilNextCardSaid : Prop := Claim7.holds Tryd.pinned (.plain (OpenSpec.ofChange civilNextSpec)) civilNextCard

/-- THE TIED CARD OF 'cracknellaw09.CivilWeekdays'. -/
def civilWeekdaysCard : Claim7 := { stood := { row := civilWeekdaysRow, standIns := [], harness := (true, "9a942e06abe3f639faff6f4fff876442419fb63c08c348f1c9e8233000a0f5c2"), looks := false }, kinds := [], alts := [], laidByText := true, laidKinds := [.data], laidTests := true, laidLooks := .later }
def CivilWeekdaysCardSaid : Prop := Claim7.holds Tryd.pinned (.plain (OpenSpec.ofChange civilWeekdaysSpec)) civilWeekdaysCard

/-- THE TIED CARD OF 'cracknellaw09.CivilEpochs'. -/
def civilEpochsCard : Claim7 := { stood := { row := civilEpochsRow, standIns := [], harness := (true, "9a942e06abe3f639faff6f4fff876442419fb63c08c348f1c9e8233000a0f5c2"), looks := false }, kinds := [], alts := [], laidByText := true, laidKinds := [.data], laidTests := true, laidLooks := .later }
def CivilEpochsCardSaid : Prop := Claim7.holds Tryd.pinned (.plain (OpenSpec.ofChange civilEpochsSpec)) civilEpochsCard

/-- THE TIED CARD OF 'cracknellaw09.CivilOf'. -/
def civilOfCard : Claim7 := { stood := { row := civilOfRow, standIns := [], harness := (true, "9a942e06abe3f639faff6f4fff876442419fb63c08c348f1c9e8233000a0f5c2"), looks := false }, kinds := [], alts := [], laidByText := true, laidKinds := [.data], laidTests := true, laidLooks := .later }
def CivilOfCardSaid : Prop := Claim7.holds Tryd.pinned (.plain (OpenSpec.ofChange civilOfSpec)) civilOfCard

/-- THE TIED CARD OF 'cracknellaw09.CivilOrders'. -/
def civilOrdersCard : Claim7 := { stood := { row := civilOrdersRow, standIns := [], harness := (true, "9a942e06abe3f639faff6f4fff876442419fb63c08c348f1c9e8233000a0f5c2"), looks := false }, kinds := [], alts := [], laidByText := true, laidKinds := [.data], laidTests := true, laidLooks := .later }
def CivilOrdersCardSaid : Prop := Claim7.holds Tryd.pinned (.plain (OpenSpec.ofChange civilOrdersSpec)) civilOrdersCard

/-- THE SECOND FORM's CARD OF 'cracknellaw09.CivilDays'. -/
def civilDaysUptoCard : Claim7 := { stood := { row := civilDaysUptoRow, standIns := [], harness := (true, "9a942e06abe3f639faff6f4fff876442419fb63c08c348f1c9e8233000a0f5c2"), looks := false }, kinds := [], alts := [], laidByText := true, laidKinds := [.data], laidTests := true, laidLooks := .later }
def CivilDaysUptoCardSaid : Prop := Claim7.holds Tryd.pinned (.plain (OpenSpec.upto civilDaysSpec)) civilDaysUptoCard

/-- THE SECOND FORM's CARD OF 'cracknellaw09.CivilDates'. -/
def civilDatesUptoCard : Claim7 := { stood := { row := civilDatesUptoRow, standIns := [], harness := (true, "9a942e06abe3f639faff6f4fff876442419fb63c08c348f1c9e8233000a0f5c2"), looks := false }, kinds := [], alts := [], laidByText := true, laidKinds := [.data], laidTests := true, laidLooks := .later }
def CivilDatesUptoCardSaid : Prop := Claim7.holds Tryd.pinned (.plain (OpenSpec.upto civilDatesSpec)) civilDatesUptoCard

/-- THE SECOND FORM's CARD OF 'cracknellaw09.CivilNext'. -/
def civilNextUptoCard : Claim7 := { stood := { row := civilNextUptoRow, standIns := [], harness := (true, "9a942e06abe3f639faff6f4fff876442419fb63c08c348f1c9e8233000a0f5c2"), looks := false }, kinds := [], alts := [], laidByText := true, laidKinds := [.data], laidTests := true, laidLooks := .later }
def CivilNextUptoCardSaid : Prop := Claim7.holds Tryd.pinned (.plain (OpenSpec.upto civilNextSpec)) civilNextUptoCard

/-- THE SECOND FORM's CARD OF 'cracknellaw09.CivilWeekdays'. -/
def civilWeekdaysUptoCard : Claim7 := { stood := { row := civilWeekdaysUptoRow, standIns := [], harness := (true, "9a942e06abe3f639faff6f4fff876442419fb63c08c348f1c9e8233000a0f5c2"), looks := false }, kinds := [], alts := [], laidByText := true, laidKinds := [.data], laidTests := true, laidLooks := .later }
def CivilWeekdaysUptoCardSaid : Prop := Claim7.holds Tryd.pinned (.plain (OpenSpec.upto civilWeekdaysSpec)) civilWeekdaysUptoCard

/-- THE SECOND FORM's CARD OF 'cracknellaw09.CivilEpochs'. -/
def civilEpochsUptoCard : Claim7 := { stood := { row := civilEpochsUptoRow, standIns := [], harness := (true, "9a942e06abe3f639faff6f4fff876442419fb63c08c348f1c9e8233000a0f5c2"), looks := false }, kinds := [], alts := [], laidByText := true, laidKinds := [.data], laidTests := true, laidLooks := .later }
def CivilEpochsUptoCardSaid : Prop := Claim7.holds Tryd.pinned (.plain (OpenSpec.upto civilEpochsSpec)) civilEpochsUptoCard

/-- THE SECOND FORM's CARD OF 'cracknellaw09.CivilOf'. -/
def civilOfUptoCard : Claim7 := { stood := { row := civilOfUptoRow, standIns := [], harness := (true, "9a942e06abe3f639faff6f4fff876442419fb63c08c348f1c9e8233000a0f5c2"), looks := false }, kinds := [], alts := [], laidByText := true, laidKinds := [.data], laidTests := true, laidLooks := .later }
def CivilOfUptoCardSaid : Prop := Claim7.holds Tryd.pinned (.plain (OpenSpec.upto civilOfSpec)) civilOfUptoCard

/-- THE SECOND FORM's CARD OF 'cracknellaw09.CivilOrders'. -/
def civilOrdersUptoCard : Claim7 := { stood := { row := civilOrdersUptoRow, standIns := [], harness := (true, "9a942e06abe3f639faff6f4fff876442419fb63c08c348f1c9e8233000a0f5c2"), looks := false }, kinds := [], alts := [], laidByText := true, laidKinds := [.data], laidTests := true, laidLooks := .later }
def CivilOrdersUptoCardSaid : Prop := Claim7.holds Tryd.pinned (.plain (OpenSpec.upto civilOrdersSpec)) civilOrdersUptoCard
end Rows
end Go.Proofs.YtfpakabdgnnheaaDoor
