/-
  DERIVED. GIVEN WITH THE SEED: THE CARDS: each row of YtbhffhipbdakgaaDoorRows.lean that lists a variable, with what it lists TIED to the program's text (the seventh form; the later family's looks); each row that meets fmt, with fmt's text TOLD by the authors' own Lean function (tested against real Go, not proved from fmt's source: count such statements apart). THE CARD IS WHAT COUNTS. Prove the row's statement (the work); the ties are given (YtbhffhipbdakgaaDoorTie.lean); close each card by the builder's one call (the guide's Derived/Test/ToyasCard.lean, 'card_holds'). Laid BY PROGRAM, IN A SANDBOX (cutbox-door.mjs). By AI agents, Wed Nov 11 2026. No macro, syntax, notation, axiom, sorry.
-/
import Derived.Test.YtbhffhipbdakgaaDoorRows
import GoSem.ClaimSeven
namespace Go.Proofs.YtbhffhipbdakgaaDoor
namespace Rows

/-- THE TIED CARD OF 'pontagelaw3.Int256Arithmetic'. -/
def int256ArithmeticCard : Claim7 := { stood := { row := int256ArithmeticRow, standIns := [], harness := (true, "a0cc4dc30f21a5b7383560455002c90f3cb3f68d654599c8447e843981651059"), looks := false }, kinds := [], alts := [], laidByText := true, laidKinds := [.data], laidTests := true, laidLooks := .later }
def Int256ArithmeticCardSaid : Prop := Claim7.holds Tryd.pinned (.plain (OpenSpec.ofChange int256ArithmeticSpec)) int256ArithmeticCard

/-- THE TIED CARD OF 'pontagelaw3.Int256Boundaries'. -/
def int256BoundariesCard : Claim7 := { stood := { row := int256BoundariesRow, standIns := [], harness := (true, "a0cc4dc30f21a5b7383560455002c90f3cb3f68d654599c8447e843981651059"), looks := false }, kinds := [], alts := [], laidByText := true, laidKinds := [.data], laidTests := true, laidLooks := .later }
def Int256BoundariesCardSaid : Prop := Claim7.holds Tryd.pinned (.plain (OpenSpec.ofChange int256BoundariesSpec)) int256BoundariesCard

/-- THE TIED CARD OF 'pontagelaw3.Int256DivFloor'. -/
def int256DivFloorCard : Claim7 := { stood := { row := int256DivFloorRow, standIns := [], harness := (true, "a0cc4dc30f21a5b7383560455002c90f3cb3f68d654599c8447e843981651059"), looks := false }, kinds := [], alts := [], laidByText := true, laidKinds := [.data], laidTests := true, laidLooks := .later }
def Int256DivFloorCardSaid : Prop := Claim7.holds Tryd.pinned (.plain (OpenSpec.ofChange int256DivFloorSpec)) int256DivFloorCard

/-- THE TIED CARD OF 'pontagelaw3.Int256DiffAddClamped'. -/
def int256DiffAddClampedCard : Claim7 := { stood := { row := int256DiffAddClampedRow, standIns := [], harness := (true, "a0cc4dc30f21a5b7383560455002c90f3cb3f68d654599c8447e843981651059"), looks := false }, kinds := [], alts := [], laidByText := true, laidKinds := [.data], laidTests := true, laidLooks := .later }
def Int256DiffAddClampedCardSaid : Prop := Claim7.holds Tryd.pinned (.plain (OpenSpec.ofChange int256DiffAddClampedSpec)) int256DiffAddClampedCard

/-- THE TIED CARD OF 'pontagelaw3.Int256Order'. -/
def int256OrderCard : Claim7 := { stood := { row := int256OrderRow, standIns := [], harness := (true, "a0cc4dc30f21a5b7383560455002c90f3cb3f68d654599c8447e843981651059"), looks := false }, kinds := [], alts := [], laidByText := true, laidKinds := [.data], laidTests := true, laidLooks := .later }
def Int256OrderCardSaid : Prop := Claim7.holds Tryd.pinned (.plain (OpenSpec.ofChange int256OrderSpec)) int256OrderCard

/-- THE TIED CARD OF 'pontagelaw3.Int256Algebra'. -/
def int256AlgebraCard : Claim7 := { stood := { row := int256AlgebraRow, standIns := [], harness := (true, "a0cc4dc30f21a5b7383560455002c90f3cb3f68d654599c8447e843981651059"), looks := false }, kinds := [], alts := [], laidByText := true, laidKinds := [.data], laidTests := true, laidLooks := .later }
def Int256AlgebraCardSaid : Prop := Claim7.holds Tryd.pinned (.plain (OpenSpec.ofChange int256AlgebraSpec)) int256AlgebraCard

/-- THE TIED CARD OF 'pontagelaw3.Int256Negation'. -/
def int256NegationCard : Claim7 := { stood := { row := int256NegationRow, standIns := [], harness := (true, "a0cc4dc30f21a5b7383560455002c90f3cb3f68d654599c8447e843981651059"), looks := false }, kinds := [], alts := [], laidByText := true, laidKinds := [.data], laidTests := true, laidLooks := .later }
def Int256NegationCardSaid : Prop := Claim7.holds Tryd.pinned (.plain (OpenSpec.ofChange int256NegationSpec)) int256NegationCard

/-- THE SECOND FORM's CARD OF 'pontagelaw3.Int256Arithmetic'. -/
def int256ArithmeticUptoCard : Claim7 := { stood := { row := int256ArithmeticUptoRow, standIns := [], harness := (true, "a0cc4dc30f21a5b7383560455002c90f3cb3f68d654599c8447e843981651059"), looks := false }, kinds := [], alts := [], laidByText := true, laidKinds := [.data], laidTests := true, laidLooks := .later }
def Int256ArithmeticUptoCardSaid : Prop := Claim7.holds Tryd.pinned (.plain (OpenSpec.upto int256ArithmeticSpec)) int256ArithmeticUptoCard

/-- THE SECOND FORM's CARD OF 'pontagelaw3.Int256Boundaries'. -/
def int256BoundariesUptoCard : Claim7 := { stood := { row := int256BoundariesUptoRow, standIns := [], harness := (true, "a0cc4dc30f21a5b7383560455002c90f3cb3f68d654599c8447e843981651059"), looks := false }, kinds := [], alts := [], laidByText := true, laidKinds := [.data], laidTests := true, laidLooks := .later }
def Int256BoundariesUptoCardSaid : Prop := Claim7.holds Tryd.pinned (.plain (OpenSpec.upto int256BoundariesSpec)) int256BoundariesUptoCard

/-- THE SECOND FORM's CARD OF 'pontagelaw3.Int256DivFloor'. -/
def int256DivFloorUptoCard : Claim7 := { stood := { row := int256DivFloorUptoRow, standIns := [], harness := (true, "a0cc4dc30f21a5b7383560455002c90f3cb3f68d654599c8447e843981651059"), looks := false }, kinds := [], alts := [], laidByText := true, laidKinds := [.data], laidTests := true, laidLooks := .later }
def Int256DivFloorUptoCardSaid : Prop := Claim7.holds Tryd.pinned (.plain (OpenSpec.upto int256DivFloorSpec)) int256DivFloorUptoCard

/-- THE SECOND FORM's CARD OF 'pontagelaw3.Int256DiffAddClamped'. -/
def int256DiffAddClampedUptoCard : Claim7 := { stood := { row := int256DiffAddClampedUptoRow, standIns := [], harness := (true, "a0cc4dc30f21a5b7383560455002c90f3cb3f68d654599c8447e843981651059"), looks := false }, kinds := [], alts := [], laidByText := true, laidKinds := [.data], laidTests := true, laidLooks := .later }
def Int256DiffAddClampedUptoCardSaid : Prop := Claim7.holds Tryd.pinned (.plain (OpenSpec.upto int256DiffAddClampedSpec)) int256DiffAddClampedUptoCard

/-- THE SECOND FORM's CARD OF 'pontagelaw3.Int256Order'. -/
def int256OrderUptoCard : Claim7 := { stood := { row := int256OrderUptoRow, standIns := [], harness := (true, "a0cc4dc30f21a5b7383560455002c90f3cb3f68d654599c8447e843981651059"), looks := false }, kinds := [], alts := [], laidByText := true, laidKinds := [.data], laidTests := true, laidLooks := .later }
def Int256OrderUptoCardSaid : Prop := Claim7.holds Tryd.pinned (.plain (OpenSpec.upto int256OrderSpec)) int256OrderUptoCard

/-- THE SECOND FORM's CARD OF 'pontagelaw3.Int256Algebra'. -/
def int256AlgebraUptoCard : Claim7 := { stood := { row := int256AlgebraUptoRow, standIns := [], harness := (true, "a0cc4dc30f21a5b7383560455002c90f3cb3f68d654599c8447e843981651059"), looks := false }, kinds := [], alts := [], laidByText := true, laidKinds := [.data], laidTests := true, laidLooks := .later }
def Int256AlgebraUptoCardSaid : Prop := Claim7.holds Tryd.pinned (.plain (OpenSpec.upto int256AlgebraSpec)) int256AlgebraUptoCard

/-- THE SECOND FORM's CARD OF 'pontagelaw3.Int256Negation'. -/
def int256NegationUptoCard : Claim7 := { stood := { row := int256NegationUptoRow, standIns := [], harness := (true, "a0cc4dc30f21a5b7383560455002c90f3cb3f68d654599c8447e843981651059"), looks := false }, kinds := [], alts := [], laidByText := true, laidKinds := [.data], laidTests := true, laidLooks := .later }
def Int256NegationUptoCardSaid : Prop := Claim7.holds Tryd.pinned (.plain (OpenSpec.upto int256NegationSpec)) int256NegationUptoCard
end Rows
end Go.Proofs.YtbhffhipbdakgaaDoor
