/-
  DERIVED. GIVEN WITH THE SEED: THE CARDS: each row of YtmmkokomffclmaaDoorRows.lean that lists a variable, with what it lists TIED to the program's text (the seventh form; the later family's looks); each row that meets fmt, with fmt's text TOLD by the authors' own Lean function (tested against real Go, not proved from fmt's source: count such statements apart). THE CARD IS WHAT COUNTS. Prove the row's statement (the work); the ties are given (YtmmkokomffclmaaDoorTie.lean); close each card by the builder's one call (the guide's Derived/Test/ToyasCard.lean, 'card_holds'). Laid BY PROGRAM, IN A SANDBOX (cutbox-door.mjs). By AI agents, Wed Nov 11 2026. No macro, syntax, notation, axiom, sorry.
-/
import Derived.Test.YtmmkokomffclmaaDoorRows
import GoSem.ClaimSeven
namespace Go.Proofs.YtmmkokomffclmaaDoor
namespace Rows

/-- THE TIED CARD OF 'cracknellaw10.DateCookies'. -/
def dateCookiesCard : Claim7 := { stood := { row := dateCookiesRow, standIns := [], harness := (true, "5b3dc26a41d1dda54dfd1a686982d28b2fa3b4405a1f36dc1e73451fee455d40"), looks := false }, kinds := [], alts := [], laidByText := true, laidKinds := [.data, .data, .data], laidTests := true, laidLooks := .later }
def DateCookiesCardSaid : Prop := Claim7.holds Tryd.pinned (.plain (OpenSpec.ofChange dateCookiesSpec)) dateCookiesCard

/-- THE TIED CARD OF 'cracknellaw10.DateImf'. -/
def dateImfCard : Claim7 := { stood := { row := dateImfRow, standIns := [], harness := (true, "5b3dc26a41d1dda54dfd1a686982d28b2fa3b4405a1f36dc1e73451fee455d40"), looks := false }, kinds := [], alts := [], laidByText := true, laidKinds := [.data, .data, .data], laidTests := true, laidLooks := .later }
def DateImfCardSaid : Prop := Claim7.holds Tryd.pinned (.plain (OpenSpec.ofChange dateImfSpec)) dateImfCard

/-- THE TIED CARD OF 'cracknellaw10.DateIso'. -/
def dateIsoCard : Claim7 := { stood := { row := dateIsoRow, standIns := [], harness := (true, "5b3dc26a41d1dda54dfd1a686982d28b2fa3b4405a1f36dc1e73451fee455d40"), looks := false }, kinds := [], alts := [], laidByText := true, laidKinds := [.data, .data, .data], laidTests := true, laidLooks := .later }
def DateIsoCardSaid : Prop := Claim7.holds Tryd.pinned (.plain (OpenSpec.ofChange dateIsoSpec)) dateIsoCard

/-- THE TIED CARD OF 'cracknellaw10.DateUniso'. -/
def dateUnisoCard : Claim7 := { stood := { row := dateUnisoRow, standIns := [], harness := (true, "5b3dc26a41d1dda54dfd1a686982d28b2fa3b4405a1f36dc1e73451fee455d40"), looks := false }, kinds := [], alts := [], laidByText := true, laidKinds := [.data, .data, .data], laidTests := true, laidLooks := .later }
def DateUnisoCardSaid : Prop := Claim7.holds Tryd.pinned (.plain (OpenSpec.ofChange dateUnisoSpec)) dateUnisoCard

/-- THE TIED CARD OF 'cracknellaw10.DateCase'. -/
def dateCaseCard : Claim7 := { stood := { row := dateCaseRow, standIns := [], harness := (true, "5b3dc26a41d1dda54dfd1a686982d28b2fa3b4405a1f36dc1e73451fee455d40"), looks := false }, kinds := [], alts := [], laidByText := true, laidKinds := [.data, .data, .data], laidTests := true, laidLooks := .later }
def DateCaseCardSaid : Prop := Claim7.holds Tryd.pinned (.plain (OpenSpec.ofChange dateCaseSpec)) dateCaseCard

/-- THE TIED CARD OF 'cracknellaw10.DateParted'. -/
def datePartedCard : Claim7 := { stood := { row := datePartedRow, standIns := [], harness := (true, "5b3dc26a41d1dda54dfd1a686982d28b2fa3b4405a1f36dc1e73451fee455d40"), looks := false }, kinds := [], alts := [], laidByText := true, laidKinds := [.data, .data, .data], laidTests := true, laidLooks := .later }
def DatePartedCardSaid : Prop := Claim7.holds Tryd.pinned (.plain (OpenSpec.ofChange datePartedSpec)) datePartedCard

/-- THE TIED CARD OF 'cracknellaw10.DateYears'. -/
def dateYearsCard : Claim7 := { stood := { row := dateYearsRow, standIns := [], harness := (true, "5b3dc26a41d1dda54dfd1a686982d28b2fa3b4405a1f36dc1e73451fee455d40"), looks := false }, kinds := [], alts := [], laidByText := true, laidKinds := [.data, .data, .data], laidTests := true, laidLooks := .later }
def DateYearsCardSaid : Prop := Claim7.holds Tryd.pinned (.plain (OpenSpec.ofChange dateYearsSpec)) dateYearsCard

/-- THE SECOND FORM's CARD OF 'cracknellaw10.DateCookies'. -/
def dateCookiesUptoCard : Claim7 := { stood := { row := dateCookiesUptoRow, standIns := [], harness := (true, "5b3dc26a41d1dda54dfd1a686982d28b2fa3b4405a1f36dc1e73451fee455d40"), looks := false }, kinds := [], alts := [], laidByText := true, laidKinds := [.data, .data, .data], laidTests := true, laidLooks := .later }
def DateCookiesUptoCardSaid : Prop := Claim7.holds Tryd.pinned (.plain (OpenSpec.upto dateCookiesSpec)) dateCookiesUptoCard

/-- THE SECOND FORM's CARD OF 'cracknellaw10.DateImf'. -/
def dateImfUptoCard : Claim7 := { stood := { row := dateImfUptoRow, standIns := [], harness := (true, "5b3dc26a41d1dda54dfd1a686982d28b2fa3b4405a1f36dc1e73451fee455d40"), looks := false }, kinds := [], alts := [], laidByText := true, laidKinds := [.data, .data, .data], laidTests := true, laidLooks := .later }
def DateImfUptoCardSaid : Prop := Claim7.holds Tryd.pinned (.plain (OpenSpec.upto dateImfSpec)) dateImfUptoCard

/-- THE SECOND FORM's CARD OF 'cracknellaw10.DateIso'. -/
def dateIsoUptoCard : Claim7 := { stood := { row := dateIsoUptoRow, standIns := [], harness := (true, "5b3dc26a41d1dda54dfd1a686982d28b2fa3b4405a1f36dc1e73451fee455d40"), looks := false }, kinds := [], alts := [], laidByText := true, laidKinds := [.data, .data, .data], laidTests := true, laidLooks := .later }
def DateIsoUptoCardSaid : Prop := Claim7.holds Tryd.pinned (.plain (OpenSpec.upto dateIsoSpec)) dateIsoUptoCard

/-- THE SECOND FORM's CARD OF 'cracknellaw10.DateUniso'. -/
def dateUnisoUptoCard : Claim7 := { stood := { row := dateUnisoUptoRow, standIns := [], harness := (true, "5b3dc26a41d1dda54dfd1a686982d28b2fa3b4405a1f36dc1e73451fee455d40"), looks := false }, kinds := [], alts := [], laidByText := true, laidKinds := [.data, .data, .data], laidTests := true, laidLooks := .later }
def DateUnisoUptoCardSaid : Prop := Claim7.holds Tryd.pinned (.plain (OpenSpec.upto dateUnisoSpec)) dateUnisoUptoCard

/-- THE SECOND FORM's CARD OF 'cracknellaw10.DateCase'. -/
def dateCaseUptoCard : Claim7 := { stood := { row := dateCaseUptoRow, standIns := [], harness := (true, "5b3dc26a41d1dda54dfd1a686982d28b2fa3b4405a1f36dc1e73451fee455d40"), looks := false }, kinds := [], alts := [], laidByText := true, laidKinds := [.data, .data, .data], laidTests := true, laidLooks := .later }
def DateCaseUptoCardSaid : Prop := Claim7.holds Tryd.pinned (.plain (OpenSpec.upto dateCaseSpec)) dateCaseUptoCard

/-- THE SECOND FORM's CARD OF 'cracknellaw10.DateParted'. -/
def datePartedUptoCard : Claim7 := { stood := { row := datePartedUptoRow, standIns := [], harness := (true, "5b3dc26a41d1dda54dfd1a686982d28b2fa3b4405a1f36dc1e73451fee455d40"), looks := false }, kinds := [], alts := [], laidByText := true, laidKinds := [.data, .data, .data], laidTests := true, laidLooks := .later }
def DatePartedUptoCardSaid : Prop := Claim7.holds Tryd.pinned (.plain (OpenSpec.upto datePartedSpec)) datePartedUptoCard

/-- THE SECOND FORM's CARD OF 'cracknellaw10.DateYears'. -/
def dateYearsUptoCard : Claim7 := { stood := { row := dateYearsUptoRow, standIns := [], harness := (true, "5b3dc26a41d1dda54dfd1a686982d28b2fa3b4405a1f36dc1e73451fee455d40"), looks := false }, kinds := [], alts := [], laidByText := true, laidKinds := [.data, .data, .data], laidTests := true, laidLooks := .later }
def DateYearsUptoCardSaid : Prop := Claim7.holds Tryd.pinned (.plain (OpenSpec.upto dateYearsSpec)) dateYearsUptoCard
end Rows
end Go.Proofs.YtmmkokomffclmaaDoor
