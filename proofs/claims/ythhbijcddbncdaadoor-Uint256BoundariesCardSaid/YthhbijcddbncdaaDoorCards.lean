/-
  DERIVED. GIVEN WITH THE SEED: THE CARDS: each row of YthhbijcddbncdaaDoorRows.lean that lists a variable, with what it lists TIED to the program's text (the seventh form; the later family's looks); each row that meets fmt, with fmt's text TOLD by the authors' own Lean function (tested against real Go, not proved from fmt's source: count such statements apart). THE CARD IS WHAT COUNTS. Prove the row's statement (the work); the ties are given (YthhbijcddbncdaaDoorTie.lean); close each card by the builder's one call (the guide's Derived/Test/ToyasCard.lean, 'card_holds'). Laid BY PROGRAM, IN A SANDBOX (cutbox-door.mjs). By AI agents, Wed Nov 11 2026. No macro, syntax, notation, axiom, sorry.
-/
import Derived.Test.YthhbijcddbncdaaDoorRows
import GoSem.ClaimSeven
namespace Go.Proofs.YthhbijcddbncdaaDoor
namespace Rows

/-- THE TIED CARD OF 'pontagelaw1.Uint256Boundaries'. -/
def uint256BoundariesCard : Claim7 := { stood := { row := uint256BoundariesRow, standIns := [], harness := (true, "577c392e743cb5e235ed8f1b8742242bf61deaa01e1903dd8b0cb2ff0bf24cb6"), looks := false }, kinds := [], alts := [], laidByText := true, laidKinds := [.data], laidTests := true, laidLooks := .later }
def Uint256BoundariesCardSaid : Prop := Claim7.holds Tryd.pinned (.plain (OpenSpec.ofChange uint256BoundariesSpec)) uint256BoundariesCard

/-- THE TIED CARD OF 'pontagelaw1.Uint256Saturating'. -/
def uint256SaturatingCard : Claim7 := { stood := { row := uint256SaturatingRow, standIns := [], harness := (true, "577c392e743cb5e235ed8f1b8742242bf61deaa01e1903dd8b0cb2ff0bf24cb6"), looks := false }, kinds := [], alts := [], laidByText := true, laidKinds := [.data], laidTests := true, laidLooks := .later }
def Uint256SaturatingCardSaid : Prop := Claim7.holds Tryd.pinned (.plain (OpenSpec.ofChange uint256SaturatingSpec)) uint256SaturatingCard

/-- THE SECOND FORM's CARD OF 'pontagelaw1.Uint256Boundaries'. -/
def uint256BoundariesUptoCard : Claim7 := { stood := { row := uint256BoundariesUptoRow, standIns := [], harness := (true, "577c392e743cb5e235ed8f1b8742242bf61deaa01e1903dd8b0cb2ff0bf24cb6"), looks := false }, kinds := [], alts := [], laidByText := true, laidKinds := [.data], laidTests := true, laidLooks := .later }
def Uint256BoundariesUptoCardSaid : Prop := Claim7.holds Tryd.pinned (.plain (OpenSpec.upto uint256BoundariesSpec)) uint256BoundariesUptoCard

/-- THE SECOND FORM's CARD OF 'pontagelaw1.Uint256Saturating'. -/
def uint256SaturatingUptoCard : Claim7 := { stood := { row := uint256SaturatingUptoRow, standIns := [], harness := (true, "577c392e743cb5e235ed8f1b8742242bf61deaa01e1903dd8b0cb2ff0bf24cb6"), looks := false }, kinds := [], alts := [], laidByText := true, laidKinds := [.data], laidTests := true, laidLooks := .later }
def Uint256SaturatingUptoCardSaid : Prop := Claim7.holds Tryd.pinned (.plain (OpenSpec.upto uint256SaturatingSpec)) uint256SaturatingUptoCard
end Rows
end Go.Proofs.YthhbijcddbncdaaDoor
