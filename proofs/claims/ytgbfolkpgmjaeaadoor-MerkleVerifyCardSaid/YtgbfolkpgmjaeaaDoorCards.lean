/-
  DERIVED. GIVEN WITH THE SEED: THE CARDS: each row of YtgbfolkpgmjaeaaDoorRows.lean that lists a variable, with what it lists TIED to the program's text (the seventh form; the later family's looks); each row that meets fmt, with fmt's text TOLD by the authors' own Lean function (tested against real Go, not proved from fmt's source: count such statements apart). THE CARD IS WHAT COUNTS. Prove the row's statement (the work); the ties are given (YtgbfolkpgmjaeaaDoorTie.lean); close each card by the builder's one call (the guide's Derived/Test/ToyasCard.lean, 'card_holds'). Laid BY PROGRAM, IN A SANDBOX (cutbox-door.mjs). By AI agents, Wed Nov 11 2026. No macro, syntax, notation, axiom, sorry.
-/
import Derived.Test.YtgbfolkpgmjaeaaDoorRows
import GoSem.ClaimSeven
namespace Go.Proofs.YtgbfolkpgmjaeaaDoor
namespace Rows

/-- THE TIED CARD OF 'pontagelaw8.MerkleRoots'. -/
def merkleRootsCard : Claim7 := { stood := { row := merkleRootsRow, standIns := [], harness := (true, "8c76f99c8162644c9d78abd98c7d00578ae90f0ec1e61574a4ee4ccdbd2830e5"), looks := false }, kinds := [], alts := [], laidByText := true, laidKinds := [.data], laidTests := true, laidLooks := .later }
def MerkleRootsCardSaid : Prop := Claim7.holds Tryd.pinned (.plain (OpenSpec.ofChange merkleRootsSpec)) merkleRootsCard

/-- THE TIED CARD OF 'pontagelaw8.MerkleProofs'. -/
def merkleProofsCard : Claim7 := { stood := { row := merkleProofsRow, standIns := [], harness := (true, "8c76f99c8162644c9d78abd98c7d00578ae90f0ec1e61574a4ee4ccdbd2830e5"), looks := false }, kinds := [], alts := [], laidByText := true, laidKinds := [.data], laidTests := true, laidLooks := .later }
def MerkleProofsCardSaid : Prop := Claim7.holds Tryd.pinned (.plain (OpenSpec.ofChange merkleProofsSpec)) merkleProofsCard

/-- THE TIED CARD OF 'pontagelaw8.MerkleVerify'. -/
def merkleVerifyCard : Claim7 := { stood := { row := merkleVerifyRow, standIns := [], harness := (true, "8c76f99c8162644c9d78abd98c7d00578ae90f0ec1e61574a4ee4ccdbd2830e5"), looks := false }, kinds := [], alts := [], laidByText := true, laidKinds := [.data], laidTests := true, laidLooks := .later }
def MerkleVerifyCardSaid : Prop := Claim7.holds Tryd.pinned (.plain (OpenSpec.ofChange merkleVerifySpec)) merkleVerifyCard

/-- THE TIED CARD OF 'pontagelaw8.MerkleCompleteness'. -/
def merkleCompletenessCard : Claim7 := { stood := { row := merkleCompletenessRow, standIns := [], harness := (true, "8c76f99c8162644c9d78abd98c7d00578ae90f0ec1e61574a4ee4ccdbd2830e5"), looks := false }, kinds := [], alts := [], laidByText := true, laidKinds := [.data], laidTests := true, laidLooks := .later }
def MerkleCompletenessCardSaid : Prop := Claim7.holds Tryd.pinned (.plain (OpenSpec.ofChange merkleCompletenessSpec)) merkleCompletenessCard

/-- THE TIED CARD OF 'pontagelaw8.MerkleAppendOnly'. -/
def merkleAppendOnlyCard : Claim7 := { stood := { row := merkleAppendOnlyRow, standIns := [], harness := (true, "8c76f99c8162644c9d78abd98c7d00578ae90f0ec1e61574a4ee4ccdbd2830e5"), looks := false }, kinds := [], alts := [], laidByText := true, laidKinds := [.data], laidTests := true, laidLooks := .later }
def MerkleAppendOnlyCardSaid : Prop := Claim7.holds Tryd.pinned (.plain (OpenSpec.ofChange merkleAppendOnlySpec)) merkleAppendOnlyCard

/-- THE TIED CARD OF 'pontagelaw8.MerkleSubtrees'. -/
def merkleSubtreesCard : Claim7 := { stood := { row := merkleSubtreesRow, standIns := [], harness := (true, "8c76f99c8162644c9d78abd98c7d00578ae90f0ec1e61574a4ee4ccdbd2830e5"), looks := false }, kinds := [], alts := [], laidByText := true, laidKinds := [.data], laidTests := true, laidLooks := .later }
def MerkleSubtreesCardSaid : Prop := Claim7.holds Tryd.pinned (.plain (OpenSpec.ofChange merkleSubtreesSpec)) merkleSubtreesCard

/-- THE SECOND FORM's CARD OF 'pontagelaw8.MerkleRoots'. -/
def merkleRootsUptoCard : Claim7 := { stood := { row := merkleRootsUptoRow, standIns := [], harness := (true, "8c76f99c8162644c9d78abd98c7d00578ae90f0ec1e61574a4ee4ccdbd2830e5"), looks := false }, kinds := [], alts := [], laidByText := true, laidKinds := [.data], laidTests := true, laidLooks := .later }
def MerkleRootsUptoCardSaid : Prop := Claim7.holds Tryd.pinned (.plain (OpenSpec.upto merkleRootsSpec)) merkleRootsUptoCard

/-- THE SECOND FORM's CARD OF 'pontagelaw8.MerkleProofs'. -/
def merkleProofsUptoCard : Claim7 := { stood := { row := merkleProofsUptoRow, standIns := [], harness := (true, "8c76f99c8162644c9d78abd98c7d00578ae90f0ec1e61574a4ee4ccdbd2830e5"), looks := false }, kinds := [], alts := [], laidByText := true, laidKinds := [.data], laidTests := true, laidLooks := .later }
def MerkleProofsUptoCardSaid : Prop := Claim7.holds Tryd.pinned (.plain (OpenSpec.upto merkleProofsSpec)) merkleProofsUptoCard

/-- THE SECOND FORM's CARD OF 'pontagelaw8.MerkleVerify'. -/
def merkleVerifyUptoCard : Claim7 := { stood := { row := merkleVerifyUptoRow, standIns := [], harness := (true, "8c76f99c8162644c9d78abd98c7d00578ae90f0ec1e61574a4ee4ccdbd2830e5"), looks := false }, kinds := [], alts := [], laidByText := true, laidKinds := [.data], laidTests := true, laidLooks := .later }
def MerkleVerifyUptoCardSaid : Prop := Claim7.holds Tryd.pinned (.plain (OpenSpec.upto merkleVerifySpec)) merkleVerifyUptoCard

/-- THE SECOND FORM's CARD OF 'pontagelaw8.MerkleCompleteness'. -/
def merkleCompletenessUptoCard : Claim7 := { stood := { row := merkleCompletenessUptoRow, standIns := [], harness := (true, "8c76f99c8162644c9d78abd98c7d00578ae90f0ec1e61574a4ee4ccdbd2830e5"), looks := false }, kinds := [], alts := [], laidByText := true, laidKinds := [.data], laidTests := true, laidLooks := .later }
def MerkleCompletenessUptoCardSaid : Prop := Claim7.holds Tryd.pinned (.plain (OpenSpec.upto merkleCompletenessSpec)) merkleCompletenessUptoCard

/-- THE SECOND FORM's CARD OF 'pontagelaw8.MerkleAppendOnly'. -/
def merkleAppendOnlyUptoCard : Claim7 := { stood := { row := merkleAppendOnlyUptoRow, standIns := [], harness := (true, "8c76f99c8162644c9d78abd98c7d00578ae90f0ec1e61574a4ee4ccdbd2830e5"), looks := false }, kinds := [], alts := [], laidByText := true, laidKinds := [.data], laidTests := true, laidLooks := .later }
def MerkleAppendOnlyUptoCardSaid : Prop := Claim7.holds Tryd.pinned (.plain (OpenSpec.upto merkleAppendOnlySpec)) merkleAppendOnlyUptoCard

/-- THE SECOND FORM's CARD OF 'pontagelaw8.MerkleSubtrees'. -/
def merkleSubtreesUptoCard : Claim7 := { stood := { row := merkleSubtreesUptoRow, standIns := [], harness := (true, "8c76f99c8162644c9d78abd98c7d00578ae90f0ec1e61574a4ee4ccdbd2830e5"), looks := false }, kinds := [], alts := [], laidByText := true, laidKinds := [.data], laidTests := true, laidLooks := .later }
def MerkleSubtreesUptoCardSaid : Prop := Claim7.holds Tryd.pinned (.plain (OpenSpec.upto merkleSubtreesSpec)) merkleSubtreesUptoCard
end Rows
end Go.Proofs.YtgbfolkpgmjaeaaDoor
