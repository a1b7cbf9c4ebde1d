/-
  DERIVED. GIVEN WITH THE SEED: THE CARDS: each row of YtncmaoncciiecaaDoorRows.lean that lists a variable, with what it lists TIED to the program's text (the seventh form; the later family's looks); each row that meets fmt, with fmt's text TOLD by the authors' own Lean function (tested against real Go, not proved from fmt's source: count such statements apart). THE CARD IS WHAT COUNTS. Prove the row's statement (the work); the ties are given (YtncmaoncciiecaaDoorTie.lean); close each card by the builder's one call (the guide's Derived/Test/ToyasCard.lean, 'card_holds'). Laid BY PROGRAM, IN A SANDBOX (cutbox-door.mjs). By AI agents, Wed Nov 11 2026. No macro, syntax, notation, axiom, sorry.
-/
import Derived.Test.YtncmaoncciiecaaDoorRows
import GoSem.ClaimSeven
namespace Go.Proofs.YtncmaoncciiecaaDoor
namespace Rows

/-- THE TIED CARD OF 'pontagelaw11.LedgerCalls'. -/
def ledgerCallsCard : Claim7 := { stood := { row := ledgerCallsRow, standIns := [], harness := (true, "0a48f360b1046fe50b7a0692df96436035afd28c22c59e4b07cca8d93638644c"), looks := true }, kinds := [], alts := [], laidByText := true, laidKinds := [.data], laidTests := true, laidLooks := .later }
def LedgerCallsCardSaid : Prop := Claim7.holds Tryd.pinned (.plain (OpenSpec.ofChange ledgerCallsSpec)) ledgerCallsCard

/-- THE TIED CARD OF 'pontagelaw11.LedgerConservation'. -/
def ledgerConservationCard : Claim7 := { stood := { row := ledgerConservationRow, standIns := [], harness := (true, "0a48f360b1046fe50b7a0692df96436035afd28c22c59e4b07cca8d93638644c"), looks := true }, kinds := [], alts := [], laidByText := true, laidKinds := [.data], laidTests := true, laidLooks := .later }
def LedgerConservationCardSaid : Prop := Claim7.holds Tryd.pinned (.plain (OpenSpec.ofChange ledgerConservationSpec)) ledgerConservationCard

/-- THE TIED CARD OF 'pontagelaw11.LedgerLoad'. -/
def ledgerLoadCard : Claim7 := { stood := { row := ledgerLoadRow, standIns := [], harness := (true, "0a48f360b1046fe50b7a0692df96436035afd28c22c59e4b07cca8d93638644c"), looks := true }, kinds := [], alts := [], laidByText := true, laidKinds := [.data], laidTests := true, laidLooks := .later }
def LedgerLoadCardSaid : Prop := Claim7.holds Tryd.pinned (.plain (OpenSpec.ofChange ledgerLoadSpec)) ledgerLoadCard

/-- THE TIED CARD OF 'pontagelaw11.LedgerCopy'. -/
def ledgerCopyCard : Claim7 := { stood := { row := ledgerCopyRow, standIns := [], harness := (true, "0a48f360b1046fe50b7a0692df96436035afd28c22c59e4b07cca8d93638644c"), looks := true }, kinds := [], alts := [], laidByText := true, laidKinds := [.data], laidTests := true, laidLooks := .later }
def LedgerCopyCardSaid : Prop := Claim7.holds Tryd.pinned (.plain (OpenSpec.ofChange ledgerCopySpec)) ledgerCopyCard

/-- THE TIED CARD OF 'pontagelaw11.LedgerTransfer'. -/
def ledgerTransferCard : Claim7 := { stood := { row := ledgerTransferRow, standIns := [], harness := (true, "0a48f360b1046fe50b7a0692df96436035afd28c22c59e4b07cca8d93638644c"), looks := true }, kinds := [], alts := [], laidByText := true, laidKinds := [.data], laidTests := true, laidLooks := .later }
def LedgerTransferCardSaid : Prop := Claim7.holds Tryd.pinned (.plain (OpenSpec.ofChange ledgerTransferSpec)) ledgerTransferCard

/-- THE TIED CARD OF 'pontagelaw11.LedgerNil'. -/
def ledgerNilCard : Claim7 := { stood := { row := ledgerNilRow, standIns := [], harness := (true, "0a48f360b1046fe50b7a0692df96436035afd28c22c59e4b07cca8d93638644c"), looks := true }, kinds := [], alts := [], laidByText := true, laidKinds := [.data], laidTests := true, laidLooks := .later }
def LedgerNilCardSaid : Prop := Claim7.holds Tryd.pinned (.plain (OpenSpec.ofChange ledgerNilSpec)) ledgerNilCard

/-- THE TIED CARD OF 'pontagelaw11.LedgerReload'. -/
def ledgerReloadCard : Claim7 := { stood := { row := ledgerReloadRow, standIns := [], harness := (true, "0a48f360b1046fe50b7a0692df96436035afd28c22c59e4b07cca8d93638644c"), looks := true }, kinds := [], alts := [], laidByText := true, laidKinds := [.data], laidTests := true, laidLooks := .later }
def LedgerReloadCardSaid : Prop := Claim7.holds Tryd.pinned (.plain (OpenSpec.ofChange ledgerReloadSpec)) ledgerReloadCard

/-- THE SECOND FORM's CARD OF 'pontagelaw11.LedgerCalls'. -/
def ledgerCallsUptoCard : Claim7 := { stood := { row := ledgerCallsUptoRow, standIns := [], harness := (true, "0a48f360b1046fe50b7a0692df96436035afd28c22c59e4b07cca8d93638644c"), looks := true }, kinds := [], alts := [], laidByText := true, laidKinds := [.data], laidTests := true, laidLooks := .later }
def LedgerCallsUptoCardSaid : Prop := Claim7.holds Tryd.pinned (.plain (OpenSpec.upto ledgerCallsSpec)) ledgerCallsUptoCard

/-- THE SECOND FORM's CARD OF 'pontagelaw11.LedgerConservation'. -/
def ledgerConservationUptoCard : Claim7 := { stood := { row := ledgerConservationUptoRow, standIns := [], harness := (true, "0a48f360b1046fe50b7a0692df96436035afd28c22c59e4b07cca8d93638644c"), looks := true }, kinds := [], alts := [], laidByText := true, laidKinds := [.data], laidTests := true, laidLooks := .later }
def LedgerConservationUptoCardSaid : Prop := Claim7.holds Tryd.pinned (.plain (OpenSpec.upto ledgerConservationSpec)) ledgerConservationUptoCard

/-- THE SECOND FORM's CARD OF 'pontagelaw11.LedgerLoad'. -/
def ledgerLoadUptoCard : Claim7 := { stood := { row := ledgerLoadUptoRow, standIns := [], harness := (true, "0a48f360b1046fe50b7a0692df96436035afd28c22c59e4b07cca8d93638644c"), looks := true }, kinds := [], alts := [], laidByText := true, laidKinds := [.data], laidTests := true, laidLooks := .later }
def LedgerLoadUptoCardSaid : Prop := Claim7.holds Tryd.pinned (.plain (OpenSpec.upto ledgerLoadSpec)) ledgerLoadUptoCard

/-- THE SECOND FORM's CARD OF 'pontagelaw11.LedgerCopy'. -/
def ledgerCopyUptoCard : Claim7 := { stood := { row := ledgerCopyUptoRow, standIns := [], harness := (true, "0a48f360b1046fe50b7a0692df96436035afd28c22c59e4b07cca8d93638644c"), looks := true }, kinds := [], alts := [], laidByText := true, laidKinds := [.data], laidTests := true, laidLooks := .later }
def LedgerCopyUptoCardSaid : Prop := Claim7.holds Tryd.pinned (.plain (OpenSpec.upto ledgerCopySpec)) ledgerCopyUptoCard

/-- THE SECOND FORM's CARD OF 'pontagelaw11.LedgerTransfer'. -/
def ledgerTransferUptoCard : Claim7 := { stood := { row := ledgerTransferUptoRow, standIns := [], harness := (true, "0a48f360b1046fe50b7a0692df96436035afd28c22c59e4b07cca8d93638644c"), looks := true }, kinds := [], alts := [], laidByText := true, laidKinds := [.data], laidTests := true, laidLooks := .later }
def LedgerTransferUptoCardSaid : Prop := Claim7.holds Tryd.pinned (.plain (OpenSpec.upto ledgerTransferSpec)) ledgerTransferUptoCard

/-- THE SECOND FORM's CARD OF 'pontagelaw11.LedgerNil'. -/
def ledgerNilUptoCard : Claim7 := { stood := { row := ledgerNilUptoRow, standIns := [], harness := (true, "0a48f360b1046fe50b7a0692df96436035afd28c22c59e4b07cca8d93638644c"), looks := true }, kinds := [], alts := [], laidByText := true, laidKinds := [.data], laidTests := true, laidLooks := .later }
def LedgerNilUptoCardSaid : Prop := Claim7.holds Tryd.pinned (.plain (OpenSpec.upto ledgerNilSpec)) ledgerNilUptoCard

/-- THE SECOND FORM's CARD OF 'pontagelaw11.LedgerReload'. -/
def ledgerReloadUptoCard : Claim7 := { stood := { row := ledgerReloadUptoRow, standIns := [], harness := (true, "0a48f360b1046fe50b7a0692df96436035afd28c22c59e4b07cca8d93638644c"), looks := true }, kinds := [], alts := [], laidByText := true, laidKinds := [.data], laidTests := true, laidLooks := .later }
def LedgerReloadUptoCardSaid : Prop := Claim7.holds Tryd.pinned (.plain (OpenSpec.upto ledgerReloadSpec)) ledgerReloadUptoCard
end Rows
end Go.Proofs.YtncmaoncciiecaaDoor
