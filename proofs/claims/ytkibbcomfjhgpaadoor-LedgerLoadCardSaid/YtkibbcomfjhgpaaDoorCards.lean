/-
  DERIVED. GIVEN WITH THE SEED: THE CARDS: each row of YtkibbcomfjhgpaaDoorRows.lean that lists a variable, with what it lists TIED to the program's text (the seventh form; the later family's looks); each row that meets fmt, with fmt's text TOLD by the authors' own Lean function (tested against real Go, not proved from fmt's source: count such statements apart). THE CARD IS WHAT COUNTS. Prove the row's statement (the work); the ties are given (YtkibbcomfjhgpaaDoorTie.lean); close each card by the builder's one call (the guide's Derived/Test/ToyasCard.lean, 'card_holds'). Laid BY PROGRAM, IN A SANDBOX (cutbox-door.mjs). By AI agents, Wed Nov 11 2026. No macro, syntax, notation, axiom, sorry.
-/
import Derived.Test.YtkibbcomfjhgpaaDoorRows
import GoSem.ClaimSeven
namespace Go.Proofs.YtkibbcomfjhgpaaDoor
namespace Rows

/-- THE TIED CARD OF 'pontagelaw11.LedgerCalls'. -/
def ledgerCallsCard : Claim7 := { stood := { row := ledgerCallsRow, standIns := [], harness := (true, "a2c30b394dd63da343fea0d3fd54161d304fbae612e46cd03baf5ddeb8fc1181"), looks := false }, kinds := [], alts := [], laidByText := true, laidKinds := [.data], laidTests := true, laidLooks := .later }
def LedgerCallsCardSaid : Prop := Claim7.holds Tryd.pinned (.plain (OpenSpec.ofChange ledgerCallsSpec)) ledgerCallsCard

/-- THE TIED CARD OF 'pontagelaw11.LedgerLoad'. -/
def ledgerLoadCard : Claim7 := { stood := { row := ledgerLoadRow, standIns := [], harness := (true, "a2c30b394dd63da343fea0d3fd54161d304fbae612e46cd03baf5ddeb8fc1181"), looks := false }, kinds := [], alts := [], laidByText := true, laidKinds := [.data], laidTests := true, laidLooks := .later }
def LedgerLoadCardSaid : Prop := Claim7.holds Tryd.pinned (.plain (OpenSpec.ofChange ledgerLoadSpec)) ledgerLoadCard

/-- THE SECOND FORM's CARD OF 'pontagelaw11.LedgerCalls'. -/
def ledgerCallsUptoCard : Claim7 := { stood := { row := ledgerCallsUptoRow, standIns := [], harness := (true, "a2c30b394dd63da343fea0d3fd54161d304fbae612e46cd03baf5ddeb8fc1181"), looks := false }, kinds := [], alts := [], laidByText := true, laidKinds := [.data], laidTests := true, laidLooks := .later }
def LedgerCallsUptoCardSaid : Prop := Claim7.holds Tryd.pinned (.plain (OpenSpec.upto ledgerCallsSpec)) ledgerCallsUptoCard

/-- THE SECOND FORM's CARD OF 'pontagelaw11.LedgerLoad'. -/
def ledgerLoadUptoCard : Claim7 := { stood := { row := ledgerLoadUptoRow, standIns := [], harness := (true, "a2c30b394dd63da343fea0d3fd54161d304fbae612e46cd03baf5ddeb8fc1181"), looks := false }, kinds := [], alts := [], laidByText := true, laidKinds := [.data], laidTests := true, laidLooks := .later }
def LedgerLoadUptoCardSaid : Prop := Claim7.holds Tryd.pinned (.plain (OpenSpec.upto ledgerLoadSpec)) ledgerLoadUptoCard
end Rows
end Go.Proofs.YtkibbcomfjhgpaaDoor
