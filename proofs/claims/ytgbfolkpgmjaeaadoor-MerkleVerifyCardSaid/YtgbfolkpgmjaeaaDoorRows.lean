/-
  NARROWER THAN 'FOR EVERY INPUT', by the rows' own cells (each row's printed sentence says how): MerkleRoots: laid · MerkleProofs: laid · MerkleVerify: laid · MerkleCompleteness: laid · MerkleAppendOnly: laid · MerkleSubtrees: laid.
  DERIVED. THE GIVEN ROWS OF THIS SEAT. 6 by the template 'for every input the law returns true; each argument reads behind the call as it read before'; 0 by the template 'total and deterministic' (their statements: YtgbfolkpgmjaeaaDoorTotals.lean).
  GIVEN WITH THE SEED: the statements are not yours to turn. If you find one false, say at which input.
  Laid BY PROGRAM, IN A SANDBOX (cutbox-rows.mjs): the forced cells as the released guide's own fill.sh prints them over the translation c0fc55dd1842d382… (all of the seat's roots in one cut). By AI agents, Wed Nov 11 2026. No macro, syntax, notation, axiom, sorry.
-/
import Derived.Test.YtgbfolkpgmjaeaaDoorChecked
import GoSem.Claim
import GoSem.ClaimJoined
import GoSem.ClaimMapViews
import Derived.JoinedTies
import Derived.KernelRfl
namespace Go.Proofs.YtgbfolkpgmjaeaaDoor
/- THE CELL 'sum', in the pinned program and in every row, IS THE sha256 OF THE DUMP (.gsa) THAT YtgbfolkpgmjaeaaDoorProg.lean LOADS. Nothing in Lean hashes anything: it is a label: what it is worth is what the hold of that sum in a sandbox is worth. -/
noncomputable def Tryd.pinned : Pinned := { name := "ytgbfolkpgmjaeaadoor", sum := "c0fc55dd1842d382e559c31ed14304d8e09e6f48a367938d947c482499b91fcb", checked := Tryd.checked }
namespace Rows
def none {H : Type} : Left H := { results := [], args := [] }

/- WHAT THE LISTED PACKAGE-LEVEL VARIABLES READ AS WHEN THE CALL BEGINS. Each datum BY PROGRAM (the guide's laid-datum.mjs) off the statement by which the dump's own 'gosem.cut.vars' lays the variable. In a bare row this is a premise. The card (YtgbfolkpgmjaeaaDoorCards.lean) ties it to the program's text. -/
def laid_pontage_hash_roundConstants {H : Type} : DataW H := .agg [.lit (.int .u32 1116352408), .lit (.int .u32 1899447441), .lit (.int .u32 3049323471), .lit (.int .u32 3921009573), .lit (.int .u32 961987163), .lit (.int .u32 1508970993), .lit (.int .u32 2453635748), .lit (.int .u32 2870763221), .lit (.int .u32 3624381080), .lit (.int .u32 310598401), .lit (.int .u32 607225278), .lit (.int .u32 1426881987), .lit (.int .u32 1925078388), .lit (.int .u32 2162078206), .lit (.int .u32 2614888103), .lit (.int .u32 3248222580), .lit (.int .u32 3835390401), .lit (.int .u32 4022224774), .lit (.int .u32 264347078), .lit (.int .u32 604807628), .lit (.int .u32 770255983), .lit (.int .u32 1249150122), .lit (.int .u32 1555081692), .lit (.int .u32 1996064986), .lit (.int .u32 2554220882), .lit (.int .u32 2821834349), .lit (.int .u32 2952996808), .lit (.int .u32 3210313671), .lit (.int .u32 3336571891), .lit (.int .u32 3584528711), .lit (.int .u32 113926993), .lit (.int .u32 338241895), .lit (.int .u32 666307205), .lit (.int .u32 773529912), .lit (.int .u32 1294757372), .lit (.int .u32 1396182291), .lit (.int .u32 1695183700), .lit (.int .u32 1986661051), .lit (.int .u32 2177026350), .lit (.int .u32 2456956037), .lit (.int .u32 2730485921), .lit (.int .u32 2820302411), .lit (.int .u32 3259730800), .lit (.int .u32 3345764771), .lit (.int .u32 3516065817), .lit (.int .u32 3600352804), .lit (.int .u32 4094571909), .lit (.int .u32 275423344), .lit (.int .u32 430227734), .lit (.int .u32 506948616), .lit (.int .u32 659060556), .lit (.int .u32 883997877), .lit (.int .u32 958139571), .lit (.int .u32 1322822218), .lit (.int .u32 1537002063), .lit (.int .u32 1747873779), .lit (.int .u32 1955562222), .lit (.int .u32 2024104815), .lit (.int .u32 2227730452), .lit (.int .u32 2361852424), .lit (.int .u32 2428436474), .lit (.int .u32 2756734187), .lit (.int .u32 3204031479), .lit (.int .u32 3329325298)]

/-- 'pontagelaw8.MerkleRoots': WHATEVER THE INPUT: true; the input reads as it did. -/
def merkleRootsSpec : ChangeSpec := { name := "merkleRoots", fn := fun _ => fun
  | [d1, d2] => { results := [.lit (.bool true)], args := [d1, d2] }
  | _ => none }
def merkleRootsRow : OpenClaim := { program := "ytgbfolkpgmjaeaadoor", sum := "c0fc55dd1842d382e559c31ed14304d8e09e6f48a367938d947c482499b91fcb", func := "pontage/pontagelaw8.MerkleRoots", spec := "merkleRoots", recurses := true, named := ["pontage/hash.roundConstants"], apart := false, laid := [("pontage/hash.roundConstants", laid_pontage_hash_roundConstants)] }
def MerkleRootsSaid : Prop := merkleRootsRow.holds Tryd.pinned (OpenSpec.ofChange merkleRootsSpec)

/-- ITS FALSE NEIGHBOUR: 'it returns false'. Refute it at one input. -/
def merkleRootsWrong : ChangeSpec := { name := "merkleRoots", fn := fun _ => fun
  | [d1, d2] => { results := [.lit (.bool false)], args := [d1, d2] }
  | _ => none }
def MerkleRootsWrongFalsely : Prop := merkleRootsRow.holds Tryd.pinned (OpenSpec.ofChange merkleRootsWrong)

/-- 'pontagelaw8.MerkleProofs': WHATEVER THE INPUT: true; the input reads as it did. -/
def merkleProofsSpec : ChangeSpec := { name := "merkleProofs", fn := fun _ => fun
  | [d1, d2, d3] => { results := [.lit (.bool true)], args := [d1, d2, d3] }
  | _ => none }
def merkleProofsRow : OpenClaim := { program := "ytgbfolkpgmjaeaadoor", sum := "c0fc55dd1842d382e559c31ed14304d8e09e6f48a367938d947c482499b91fcb", func := "pontage/pontagelaw8.MerkleProofs", spec := "merkleProofs", recurses := true, named := ["pontage/hash.roundConstants"], apart := false, laid := [("pontage/hash.roundConstants", laid_pontage_hash_roundConstants)] }
def MerkleProofsSaid : Prop := merkleProofsRow.holds Tryd.pinned (OpenSpec.ofChange merkleProofsSpec)

/-- ITS FALSE NEIGHBOUR: 'it returns false'. Refute it at one input. -/
def merkleProofsWrong : ChangeSpec := { name := "merkleProofs", fn := fun _ => fun
  | [d1, d2, d3] => { results := [.lit (.bool false)], args := [d1, d2, d3] }
  | _ => none }
def MerkleProofsWrongFalsely : Prop := merkleProofsRow.holds Tryd.pinned (OpenSpec.ofChange merkleProofsWrong)

/-- 'pontagelaw8.MerkleVerify': WHATEVER THE INPUT: true; the input reads as it did. -/
def merkleVerifySpec : ChangeSpec := { name := "merkleVerify", fn := fun _ => fun
  | [d1, d2, d3, d4, d5, d6, d7, d8] => { results := [.lit (.bool true)], args := [d1, d2, d3, d4, d5, d6, d7, d8] }
  | _ => none }
def merkleVerifyRow : OpenClaim := { program := "ytgbfolkpgmjaeaadoor", sum := "c0fc55dd1842d382e559c31ed14304d8e09e6f48a367938d947c482499b91fcb", func := "pontage/pontagelaw8.MerkleVerify", spec := "merkleVerify", recurses := true, named := ["pontage/hash.roundConstants"], apart := false, laid := [("pontage/hash.roundConstants", laid_pontage_hash_roundConstants)] }
def MerkleVerifySaid : Prop := merkleVerifyRow.holds Tryd.pinned (OpenSpec.ofChange merkleVerifySpec)

/-- ITS FALSE NEIGHBOUR: 'it returns false'. Refute it at one input. -/
def merkleVerifyWrong : ChangeSpec := { name := "merkleVerify", fn := fun _ => fun
  | [d1, d2, d3, d4, d5, d6, d7, d8] => { results := [.lit (.bool false)], args := [d1, d2, d3, d4, d5, d6, d7, d8] }
  | _ => none }
def MerkleVerifyWrongFalsely : Prop := merkleVerifyRow.holds Tryd.pinned (OpenSpec.ofChange merkleVerifyWrong)

/-- 'pontagelaw8.MerkleCompleteness': WHATEVER THE INPUT: true; the input reads as it did. -/
def merkleCompletenessSpec : ChangeSpec := { name := "merkleCompleteness", fn := fun _ => fun
  | [d1, d2, d3] => { results := [.lit (.bool true)], args := [d1, d2, d3] }
  | _ => none }
def merkleCompletenessRow : OpenClaim := { program := "ytgbfolkpgmjaeaadoor", sum := "c0fc55dd1842d382e559c31ed14304d8e09e6f48a367938d947c482499b91fcb", func := "pontage/pontagelaw8.MerkleCompleteness", spec := "merkleCompleteness", recurses := true, named := ["pontage/hash.roundConstants"], apart := false, laid := [("pontage/hash.roundConstants", laid_pontage_hash_roundConstants)] }
def MerkleCompletenessSaid : Prop := merkleCompletenessRow.holds Tryd.pinned (OpenSpec.ofChange merkleCompletenessSpec)

/-- ITS FALSE NEIGHBOUR: 'it returns false'. Refute it at one input. -/
def merkleCompletenessWrong : ChangeSpec := { name := "merkleCompleteness", fn := fun _ => fun
  | [d1, d2, d3] => { results := [.lit (.bool false)], args := [d1, d2, d3] }
  | _ => none }
def MerkleCompletenessWrongFalsely : Prop := merkleCompletenessRow.holds Tryd.pinned (OpenSpec.ofChange merkleCompletenessWrong)

/-- 'pontagelaw8.MerkleAppendOnly': WHATEVER THE INPUT: true; the input reads as it did. -/
def merkleAppendOnlySpec : ChangeSpec := { name := "merkleAppendOnly", fn := fun _ => fun
  | [d1, d2, d3] => { results := [.lit (.bool true)], args := [d1, d2, d3] }
  | _ => none }
def merkleAppendOnlyRow : OpenClaim := { program := "ytgbfolkpgmjaeaadoor", sum := "c0fc55dd1842d382e559c31ed14304d8e09e6f48a367938d947c482499b91fcb", func := "pontage/pontagelaw8.MerkleAppendOnly", spec := "merkleAppendOnly", recurses := true, named := ["pontage/hash.roundConstants"], apart := false, laid := [("pontage/hash.roundConstants", laid_pontage_hash_roundConstants)] }
def MerkleAppendOnlySaid : Prop := merkleAppendOnlyRow.holds Tryd.pinned (OpenSpec.ofChange merkleAppendOnlySpec)

/-- ITS FALSE NEIGHBOUR: 'it returns false'. Refute it at one input. -/
def merkleAppendOnlyWrong : ChangeSpec := { name := "merkleAppendOnly", fn := fun _ => fun
  | [d1, d2, d3] => { results := [.lit (.bool false)], args := [d1, d2, d3] }
  | _ => none }
def MerkleAppendOnlyWrongFalsely : Prop := merkleAppendOnlyRow.holds Tryd.pinned (OpenSpec.ofChange merkleAppendOnlyWrong)

/-- 'pontagelaw8.MerkleSubtrees': WHATEVER THE INPUT: true; the input reads as it did. -/
def merkleSubtreesSpec : ChangeSpec := { name := "merkleSubtrees", fn := fun _ => fun
  | [d1, d2] => { results := [.lit (.bool true)], args := [d1, d2] }
  | _ => none }
def merkleSubtreesRow : OpenClaim := { program := "ytgbfolkpgmjaeaadoor", sum := "c0fc55dd1842d382e559c31ed14304d8e09e6f48a367938d947c482499b91fcb", func := "pontage/pontagelaw8.MerkleSubtrees", spec := "merkleSubtrees", recurses := true, named := ["pontage/hash.roundConstants"], apart := false, laid := [("pontage/hash.roundConstants", laid_pontage_hash_roundConstants)] }
def MerkleSubtreesSaid : Prop := merkleSubtreesRow.holds Tryd.pinned (OpenSpec.ofChange merkleSubtreesSpec)

/-- ITS FALSE NEIGHBOUR: 'it returns false'. Refute it at one input. -/
def merkleSubtreesWrong : ChangeSpec := { name := "merkleSubtrees", fn := fun _ => fun
  | [d1, d2] => { results := [.lit (.bool false)], args := [d1, d2] }
  | _ => none }
def MerkleSubtreesWrongFalsely : Prop := merkleSubtreesRow.holds Tryd.pinned (OpenSpec.ofChange merkleSubtreesWrong)

/- THE SECOND FORM. 'bulk': how many values and letters a reading holds, each counted each time it is reached (what is shared counts as often as it is met; a slice's spare places count too). A statement '..UptoSaid' is the law's where the arguments, and the package variables that the reading takes, are together of bulk at most 1048576: NARROWER than '..Said'. Prove '..Said' where nothing that the law and all that it calls make is longer than what came in: it says more and counts as full. Else prove '..UptoSaid'. A law counts once. -/
mutual
def uptoBulk {H : Type} : DataW H → Nat
  | .lit (.string bytes) => bytes.length + 1
  | .lit _ => 1
  | .nil => 1
  | .ptr d => uptoBulk d + 1
  | .slice elems spare => uptoBulkAll elems + uptoBulkAll spare + 1
  | .agg parts => uptoBulkAll parts + 1
  | .iface _ d => uptoBulk d + 1
  | .map entries => uptoBulkEntries entries + 1
  | .held _ => 1
def uptoBulkAll {H : Type} : List (DataW H) → Nat
  | [] => 0
  | d :: r => uptoBulk d + uptoBulkAll r
def uptoBulkEntries {H : Type} : List (Lit × DataW H) → Nat
  | [] => 0
  | x :: r => uptoBulkEntry x + uptoBulkEntries r
def uptoBulkEntry {H : Type} : Lit × DataW H → Nat
  | (.string bytes, d) => bytes.length + uptoBulk d + 1
  | (_, d) => uptoBulk d + 1
 end
def uptoSmall : (H : Type) → List (DataW H) → Bool := fun _ ds => decide (uptoBulkAll ds ≤ 1048576)
def OpenSpec.upto (s : _root_.Go.ChangeSpec) : _root_.Go.OpenSpec := { _root_.Go.OpenSpec.ofChange s with cond := some uptoSmall }

/-- 'pontagelaw8.MerkleRoots', WHERE WHAT IT READS IS OF BULK AT MOST 1048576: true; the input reads as it did. -/
def merkleRootsUptoRow : OpenClaim := { program := "ytgbfolkpgmjaeaadoor", sum := "c0fc55dd1842d382e559c31ed14304d8e09e6f48a367938d947c482499b91fcb", func := "pontage/pontagelaw8.MerkleRoots", spec := "merkleRoots", recurses := true, named := ["pontage/hash.roundConstants"], apart := false, laid := [("pontage/hash.roundConstants", laid_pontage_hash_roundConstants)], narrowed := true }
def MerkleRootsUptoSaid : Prop := merkleRootsUptoRow.holds Tryd.pinned (OpenSpec.upto merkleRootsSpec)

/-- 'pontagelaw8.MerkleProofs', WHERE WHAT IT READS IS OF BULK AT MOST 1048576: true; the input reads as it did. -/
def merkleProofsUptoRow : OpenClaim := { program := "ytgbfolkpgmjaeaadoor", sum := "c0fc55dd1842d382e559c31ed14304d8e09e6f48a367938d947c482499b91fcb", func := "pontage/pontagelaw8.MerkleProofs", spec := "merkleProofs", recurses := true, named := ["pontage/hash.roundConstants"], apart := false, laid := [("pontage/hash.roundConstants", laid_pontage_hash_roundConstants)], narrowed := true }
def MerkleProofsUptoSaid : Prop := merkleProofsUptoRow.holds Tryd.pinned (OpenSpec.upto merkleProofsSpec)

/-- 'pontagelaw8.MerkleVerify', WHERE WHAT IT READS IS OF BULK AT MOST 1048576: true; the input reads as it did. -/
def merkleVerifyUptoRow : OpenClaim := { program := "ytgbfolkpgmjaeaadoor", sum := "c0fc55dd1842d382e559c31ed14304d8e09e6f48a367938d947c482499b91fcb", func := "pontage/pontagelaw8.MerkleVerify", spec := "merkleVerify", recurses := true, named := ["pontage/hash.roundConstants"], apart := false, laid := [("pontage/hash.roundConstants", laid_pontage_hash_roundConstants)], narrowed := true }
def MerkleVerifyUptoSaid : Prop := merkleVerifyUptoRow.holds Tryd.pinned (OpenSpec.upto merkleVerifySpec)

/-- 'pontagelaw8.MerkleCompleteness', WHERE WHAT IT READS IS OF BULK AT MOST 1048576: true; the input reads as it did. -/
def merkleCompletenessUptoRow : OpenClaim := { program := "ytgbfolkpgmjaeaadoor", sum := "c0fc55dd1842d382e559c31ed14304d8e09e6f48a367938d947c482499b91fcb", func := "pontage/pontagelaw8.MerkleCompleteness", spec := "merkleCompleteness", recurses := true, named := ["pontage/hash.roundConstants"], apart := false, laid := [("pontage/hash.roundConstants", laid_pontage_hash_roundConstants)], narrowed := true }
def MerkleCompletenessUptoSaid : Prop := merkleCompletenessUptoRow.holds Tryd.pinned (OpenSpec.upto merkleCompletenessSpec)

/-- 'pontagelaw8.MerkleAppendOnly', WHERE WHAT IT READS IS OF BULK AT MOST 1048576: true; the input reads as it did. -/
def merkleAppendOnlyUptoRow : OpenClaim := { program := "ytgbfolkpgmjaeaadoor", sum := "c0fc55dd1842d382e559c31ed14304d8e09e6f48a367938d947c482499b91fcb", func := "pontage/pontagelaw8.MerkleAppendOnly", spec := "merkleAppendOnly", recurses := true, named := ["pontage/hash.roundConstants"], apart := false, laid := [("pontage/hash.roundConstants", laid_pontage_hash_roundConstants)], narrowed := true }
def MerkleAppendOnlyUptoSaid : Prop := merkleAppendOnlyUptoRow.holds Tryd.pinned (OpenSpec.upto merkleAppendOnlySpec)

/-- 'pontagelaw8.MerkleSubtrees', WHERE WHAT IT READS IS OF BULK AT MOST 1048576: true; the input reads as it did. -/
def merkleSubtreesUptoRow : OpenClaim := { program := "ytgbfolkpgmjaeaadoor", sum := "c0fc55dd1842d382e559c31ed14304d8e09e6f48a367938d947c482499b91fcb", func := "pontage/pontagelaw8.MerkleSubtrees", spec := "merkleSubtrees", recurses := true, named := ["pontage/hash.roundConstants"], apart := false, laid := [("pontage/hash.roundConstants", laid_pontage_hash_roundConstants)], narrowed := true }
def MerkleSubtreesUptoSaid : Prop := merkleSubtreesUptoRow.holds Tryd.pinned (OpenSpec.upto merkleSubtreesSpec)

end Rows
end Go.Proofs.YtgbfolkpgmjaeaaDoor
