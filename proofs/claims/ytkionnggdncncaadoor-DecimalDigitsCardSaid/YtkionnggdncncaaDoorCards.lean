/-
  DERIVED. GIVEN WITH THE SEED: THE CARDS: each row of YtkionnggdncncaaDoorRows.lean that lists a variable, with what it lists TIED to the program's text (the seventh form; the later family's looks); each row that meets fmt, with fmt's text TOLD by the authors' own Lean function (tested against real Go, not proved from fmt's source: count such statements apart). THE CARD IS WHAT COUNTS. Prove the row's statement (the work); the ties are given (YtkionnggdncncaaDoorTie.lean); close each card by the builder's one call (the guide's Derived/Test/ToyasCard.lean, 'card_holds'). Laid BY PROGRAM, IN A SANDBOX (cutbox-door.mjs). By AI agents, Wed Nov 11 2026. No macro, syntax, notation, axiom, sorry.
-/
import Derived.Test.YtkionnggdncncaaDoorRows
import GoSem.ClaimSeven
namespace Go.Proofs.YtkionnggdncncaaDoor
namespace Rows

/-- THE TIED CARD OF 'pontagelaw4.DecimalFormat'. -/
def decimalFormatCard : Claim7 := { stood := { row := decimalFormatRow, standIns := [], harness := (true, "74e4aa88f8567c6be2a46b2ed2a2804d4c86fda33251e0c9bbe1ac1e97451aff"), looks := false }, kinds := [], alts := [], laidByText := true, laidKinds := [.data, .data, .data], laidTests := true, laidLooks := .later }
def DecimalFormatCardSaid : Prop := Claim7.holds Tryd.pinned (.plain (OpenSpec.ofChange decimalFormatSpec)) decimalFormatCard

/-- THE TIED CARD OF 'pontagelaw4.DecimalParse'. -/
def decimalParseCard : Claim7 := { stood := { row := decimalParseRow, standIns := [], harness := (true, "74e4aa88f8567c6be2a46b2ed2a2804d4c86fda33251e0c9bbe1ac1e97451aff"), looks := false }, kinds := [], alts := [], laidByText := true, laidKinds := [.data, .data, .data], laidTests := true, laidLooks := .later }
def DecimalParseCardSaid : Prop := Claim7.holds Tryd.pinned (.plain (OpenSpec.ofChange decimalParseSpec)) decimalParseCard

/-- THE TIED CARD OF 'pontagelaw4.DecimalRoundTrip'. -/
def decimalRoundTripCard : Claim7 := { stood := { row := decimalRoundTripRow, standIns := [], harness := (true, "74e4aa88f8567c6be2a46b2ed2a2804d4c86fda33251e0c9bbe1ac1e97451aff"), looks := false }, kinds := [], alts := [], laidByText := true, laidKinds := [.data, .data, .data], laidTests := true, laidLooks := .later }
def DecimalRoundTripCardSaid : Prop := Claim7.holds Tryd.pinned (.plain (OpenSpec.ofChange decimalRoundTripSpec)) decimalRoundTripCard

/-- THE TIED CARD OF 'pontagelaw4.DecimalDigits'. -/
def decimalDigitsCard : Claim7 := { stood := { row := decimalDigitsRow, standIns := [], harness := (true, "74e4aa88f8567c6be2a46b2ed2a2804d4c86fda33251e0c9bbe1ac1e97451aff"), looks := false }, kinds := [], alts := [], laidByText := true, laidKinds := [.data, .data, .data], laidTests := true, laidLooks := .later }
def DecimalDigitsCardSaid : Prop := Claim7.holds Tryd.pinned (.plain (OpenSpec.ofChange decimalDigitsSpec)) decimalDigitsCard

/-- THE TIED CARD OF 'pontagelaw4.DecimalOrder'. -/
def decimalOrderCard : Claim7 := { stood := { row := decimalOrderRow, standIns := [], harness := (true, "74e4aa88f8567c6be2a46b2ed2a2804d4c86fda33251e0c9bbe1ac1e97451aff"), looks := false }, kinds := [], alts := [], laidByText := true, laidKinds := [.data, .data, .data], laidTests := true, laidLooks := .later }
def DecimalOrderCardSaid : Prop := Claim7.holds Tryd.pinned (.plain (OpenSpec.ofChange decimalOrderSpec)) decimalOrderCard

/-- THE SECOND FORM's CARD OF 'pontagelaw4.DecimalFormat'. -/
def decimalFormatUptoCard : Claim7 := { stood := { row := decimalFormatUptoRow, standIns := [], harness := (true, "74e4aa88f8567c6be2a46b2ed2a2804d4c86fda33251e0c9bbe1ac1e97451aff"), looks := false }, kinds := [], alts := [], laidByText := true, laidKinds := [.data, .data, .data], laidTests := true, laidLooks := .later }
def DecimalFormatUptoCardSaid : Prop := Claim7.holds Tryd.pinned (.plain (OpenSpec.upto decimalFormatSpec)) decimalFormatUptoCard

/-- THE SECOND FORM's CARD OF 'pontagelaw4.DecimalParse'. -/
def decimalParseUptoCard : Claim7 := { stood := { row := decimalParseUptoRow, standIns := [], harness := (true, "74e4aa88f8567c6be2a46b2ed2a2804d4c86fda33251e0c9bbe1ac1e97451aff"), looks := false }, kinds := [], alts := [], laidByText := true, laidKinds := [.data, .data, .data], laidTests := true, laidLooks := .later }
def DecimalParseUptoCardSaid : Prop := Claim7.holds Tryd.pinned (.plain (OpenSpec.upto decimalParseSpec)) decimalParseUptoCard

/-- THE SECOND FORM's CARD OF 'pontagelaw4.DecimalRoundTrip'. -/
def decimalRoundTripUptoCard : Claim7 := { stood := { row := decimalRoundTripUptoRow, standIns := [], harness := (true, "74e4aa88f8567c6be2a46b2ed2a2804d4c86fda33251e0c9bbe1ac1e97451aff"), looks := false }, kinds := [], alts := [], laidByText := true, laidKinds := [.data, .data, .data], laidTests := true, laidLooks := .later }
def DecimalRoundTripUptoCardSaid : Prop := Claim7.holds Tryd.pinned (.plain (OpenSpec.upto decimalRoundTripSpec)) decimalRoundTripUptoCard

/-- THE SECOND FORM's CARD OF 'pontagelaw4.DecimalDigits'. -/
def decimalDigitsUptoCard : Claim7 := { stood := { row := decimalDigitsUptoRow, standIns := [], harness := (true, "74e4aa88f8567c6be2a46b2ed2a2804d4c86fda33251e0c9bbe1ac1e97451aff"), looks := false }, kinds := [], alts := [], laidByText := true, laidKinds := [.data, .data, .data], laidTests := true, laidLooks := .later }
def DecimalDigitsUptoCardSaid : Prop := Claim7.holds Tryd.pinned (.plain (OpenSpec.upto decimalDigitsSpec)) decimalDigitsUptoCard

/-- THE SECOND FORM's CARD OF 'pontagelaw4.DecimalOrder'. -/
def decimalOrderUptoCard : Claim7 := { stood := { row := decimalOrderUptoRow, standIns := [], harness := (true, "74e4aa88f8567c6be2a46b2ed2a2804d4c86fda33251e0c9bbe1ac1e97451aff"), looks := false }, kinds := [], alts := [], laidByText := true, laidKinds := [.data, .data, .data], laidTests := true, laidLooks := .later }
def DecimalOrderUptoCardSaid : Prop := Claim7.holds Tryd.pinned (.plain (OpenSpec.upto decimalOrderSpec)) decimalOrderUptoCard
end Rows
end Go.Proofs.YtkionnggdncncaaDoor
