/-
  DERIVED. GIVEN WITH THE SEED: THE CARDS: each row of YtkbdncbifgicnaaDoorRows.lean that lists a variable, with what it lists TIED to the program's text (the seventh form; the later family's looks); each row that meets fmt, with fmt's text TOLD by the authors' own Lean function (tested against real Go, not proved from fmt's source: count such statements apart). THE CARD IS WHAT COUNTS. Prove the row's statement (the work); the ties are given (YtkbdncbifgicnaaDoorTie.lean); close each card by the builder's one call (the guide's Derived/Test/ToyasCard.lean, 'card_holds'). Laid BY PROGRAM, IN A SANDBOX (cutbox-door.mjs). By AI agents, Wed Nov 11 2026. No macro, syntax, notation, axiom, sorry.
-/
import Derived.Test.YtkbdncbifgicnaaDoorRows
import GoSem.ClaimSeven
namespace Go.Proofs.YtkbdncbifgicnaaDoor
namespace Rows

/-- THE TIED CARD OF 'pontagelaw7.HashSum'. -/
def hashSumCard : Claim7 := { stood := { row := hashSumRow, standIns := [], harness := (true, "fabe63f3746662a914cc70fa8497d44cf080c6ac999cf103b24a0e0dfe94cd23"), looks := false }, kinds := [], alts := [], laidByText := true, laidKinds := [.data], laidTests := true, laidLooks := .later }
def HashSumCardSaid : Prop := Claim7.holds Tryd.pinned (.plain (OpenSpec.ofChange hashSumSpec)) hashSumCard

/-- THE TIED CARD OF 'pontagelaw7.HashPadding'. -/
def hashPaddingCard : Claim7 := { stood := { row := hashPaddingRow, standIns := [], harness := (true, "fabe63f3746662a914cc70fa8497d44cf080c6ac999cf103b24a0e0dfe94cd23"), looks := false }, kinds := [], alts := [], laidByText := true, laidKinds := [.data], laidTests := true, laidLooks := .later }
def HashPaddingCardSaid : Prop := Claim7.holds Tryd.pinned (.plain (OpenSpec.ofChange hashPaddingSpec)) hashPaddingCard

/-- THE TIED CARD OF 'pontagelaw7.HashNode'. -/
def hashNodeCard : Claim7 := { stood := { row := hashNodeRow, standIns := [], harness := (true, "fabe63f3746662a914cc70fa8497d44cf080c6ac999cf103b24a0e0dfe94cd23"), looks := false }, kinds := [], alts := [], laidByText := true, laidKinds := [.data], laidTests := true, laidLooks := .later }
def HashNodeCardSaid : Prop := Claim7.holds Tryd.pinned (.plain (OpenSpec.ofChange hashNodeSpec)) hashNodeCard

/-- THE TIED CARD OF 'pontagelaw7.HashFormat'. -/
def hashFormatCard : Claim7 := { stood := { row := hashFormatRow, standIns := [], harness := (true, "fabe63f3746662a914cc70fa8497d44cf080c6ac999cf103b24a0e0dfe94cd23"), looks := false }, kinds := [], alts := [], laidByText := true, laidKinds := [.data], laidTests := true, laidLooks := .later }
def HashFormatCardSaid : Prop := Claim7.holds Tryd.pinned (.plain (OpenSpec.ofChange hashFormatSpec)) hashFormatCard

/-- THE TIED CARD OF 'pontagelaw7.HashParse'. -/
def hashParseCard : Claim7 := { stood := { row := hashParseRow, standIns := [], harness := (true, "fabe63f3746662a914cc70fa8497d44cf080c6ac999cf103b24a0e0dfe94cd23"), looks := false }, kinds := [], alts := [], laidByText := true, laidKinds := [.data], laidTests := true, laidLooks := .later }
def HashParseCardSaid : Prop := Claim7.holds Tryd.pinned (.plain (OpenSpec.ofChange hashParseSpec)) hashParseCard

/-- THE TIED CARD OF 'pontagelaw7.HashPure'. -/
def hashPureCard : Claim7 := { stood := { row := hashPureRow, standIns := [], harness := (true, "fabe63f3746662a914cc70fa8497d44cf080c6ac999cf103b24a0e0dfe94cd23"), looks := false }, kinds := [], alts := [], laidByText := true, laidKinds := [.data], laidTests := true, laidLooks := .later }
def HashPureCardSaid : Prop := Claim7.holds Tryd.pinned (.plain (OpenSpec.ofChange hashPureSpec)) hashPureCard

/-- THE SECOND FORM's CARD OF 'pontagelaw7.HashSum'. -/
def hashSumUptoCard : Claim7 := { stood := { row := hashSumUptoRow, standIns := [], harness := (true, "fabe63f3746662a914cc70fa8497d44cf080c6ac999cf103b24a0e0dfe94cd23"), looks := false }, kinds := [], alts := [], laidByText := true, laidKinds := [.data], laidTests := true, laidLooks := .later }
def HashSumUptoCardSaid : Prop := Claim7.holds Tryd.pinned (.plain (OpenSpec.upto hashSumSpec)) hashSumUptoCard

/-- THE SECOND FORM's CARD OF 'pontagelaw7.HashPadding'. -/
def hashPaddingUptoCard : Claim7 := { stood := { row := hashPaddingUptoRow, standIns := [], harness := (true, "fabe63f3746662a914cc70fa8497d44cf080c6ac999cf103b24a0e0dfe94cd23"), looks := false }, kinds := [], alts := [], laidByText := true, laidKinds := [.data], laidTests := true, laidLooks := .later }
def HashPaddingUptoCardSaid : Prop := Claim7.holds Tryd.pinned (.plain (OpenSpec.upto hashPaddingSpec)) hashPaddingUptoCard

/-- THE SECOND FORM's CARD OF 'pontagelaw7.HashNode'. -/
def hashNodeUptoCard : Claim7 := { stood := { row := hashNodeUptoRow, standIns := [], harness := (true, "fabe63f3746662a914cc70fa8497d44cf080c6ac999cf103b24a0e0dfe94cd23"), looks := false }, kinds := [], alts := [], laidByText := true, laidKinds := [.data], laidTests := true, laidLooks := .later }
def HashNodeUptoCardSaid : Prop := Claim7.holds Tryd.pinned (.plain (OpenSpec.upto hashNodeSpec)) hashNodeUptoCard

/-- THE SECOND FORM's CARD OF 'pontagelaw7.HashFormat'. -/
def hashFormatUptoCard : Claim7 := { stood := { row := hashFormatUptoRow, standIns := [], harness := (true, "fabe63f3746662a914cc70fa8497d44cf080c6ac999cf103b24a0e0dfe94cd23"), looks := false }, kinds := [], alts := [], laidByText := true, laidKinds := [.data], laidTests := true, laidLooks := .later }
def HashFormatUptoCardSaid : Prop := Claim7.holds Tryd.pinned (.plain (OpenSpec.upto hashFormatSpec)) hashFormatUptoCard

/-- THE SECOND FORM's CARD OF 'pontagelaw7.HashParse'. -/
def hashParseUptoCard : Claim7 := { stood := { row := hashParseUptoRow, standIns := [], harness := (true, "fabe63f3746662a914cc70fa8497d44cf080c6ac999cf103b24a0e0dfe94cd23"), looks := false }, kinds := [], alts := [], laidByText := true, laidKinds := [.data], laidTests := true, laidLooks := .later }
def HashParseUptoCardSaid : Prop := Claim7.holds Tryd.pinned (.plain (OpenSpec.upto hashParseSpec)) hashParseUptoCard

/-- THE SECOND FORM's CARD OF 'pontagelaw7.HashPure'. -/
def hashPureUptoCard : Claim7 := { stood := { row := hashPureUptoRow, standIns := [], harness := (true, "fabe63f3746662a914cc70fa8497d44cf080c6ac999cf103b24a0e0dfe94cd23"), looks := false }, kinds := [], alts := [], laidByText := true, laidKinds := [.data], laidTests := true, laidLooks := .later }
def HashPureUptoCardSaid : Prop := Claim7.holds Tryd.pinned (.plain (OpenSpec.upto hashPureSpec)) hashPureUptoCard
end Rows
end Go.Proofs.YtkbdncbifgicnaaDoor
