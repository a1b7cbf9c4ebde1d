/-
  NARROWER THAN 'FOR EVERY INPUT', by the rows' own cells (each row's printed sentence says how): Uint256Boundaries: laid · Uint256Saturating: laid.
  DERIVED. THE GIVEN ROWS OF THIS SEAT. 2 by the template 'for every input the law returns true; each argument reads behind the call as it read before'; 0 by the template 'total and deterministic' (their statements: YthhbijcddbncdaaDoorTotals.lean).
  GIVEN WITH THE SEED: the statements are not yours to turn. If you find one false, say at which input.
  Laid BY PROGRAM, IN A SANDBOX (cutbox-rows.mjs): the forced cells as the released guide's own fill.sh prints them over the translation 5d894c87713e2481… (all of the seat's roots in one cut). By AI agents, Wed Nov 11 2026. No macro, syntax, notation, axiom, sorry.
-/
import Derived.Test.YthhbijcddbncdaaDoorChecked
import GoSem.Claim
import GoSem.ClaimJoined
import GoSem.ClaimMapViews
import Derived.JoinedTies
import Derived.KernelRfl
namespace Go.Proofs.YthhbijcddbncdaaDoor
/- THE CELL 'sum', in the pinned program and in every row, IS THE sha256 OF THE DUMP (.gsa) THAT YthhbijcddbncdaaDoorProg.lean LOADS. Nothing in Lean hashes anything: it is a label: what it is worth is what the hold of that sum in a sandbox is worth. -/
noncomputable def Tryd.pinned : Pinned := { name := "ythhbijcddbncdaadoor", sum := "5d894c87713e248124f991123039f4c44c1845977fd7751b8fd509bf7b47bfcc", checked := Tryd.checked }
namespace Rows
def none {H : Type} : Left H := { results := [], args := [] }

/- WHAT THE LISTED PACKAGE-LEVEL VARIABLES READ AS WHEN THE CALL BEGINS. Each datum BY PROGRAM (the guide's laid-datum.mjs) off the statement by which the dump's own 'gosem.cut.vars' lays the variable. In a bare row this is a premise. The card (YthhbijcddbncdaaDoorCards.lean) ties it to the program's text. -/
def laid_pontage_uint256_largest {H : Type} : DataW H := .agg [.lit (.int .u64 18446744073709551615), .lit (.int .u64 18446744073709551615), .lit (.int .u64 18446744073709551615), .lit (.int .u64 18446744073709551615)]

/-- 'pontagelaw1.Uint256Boundaries': WHATEVER THE INPUT: true; the input reads as it did. -/
def uint256BoundariesSpec : ChangeSpec := { name := "uint256Boundaries", fn := fun _ => fun
  | [d1, d2, d3, d4, d5, d6] => { results := [.lit (.bool true)], args := [d1, d2, d3, d4, d5, d6] }
  | _ => none }
def uint256BoundariesRow : OpenClaim := { program := "ythhbijcddbncdaadoor", sum := "5d894c87713e248124f991123039f4c44c1845977fd7751b8fd509bf7b47bfcc", func := "pontage/pontagelaw1.Uint256Boundaries", spec := "uint256Boundaries", inPlace := ["math/bits.Add64", "math/bits.Sub64"], named := ["pontage/uint256.largest"], apart := false, laid := [("pontage/uint256.largest", laid_pontage_uint256_largest)] }
def Uint256BoundariesSaid : Prop := uint256BoundariesRow.holds Tryd.pinned (OpenSpec.ofChange uint256BoundariesSpec)

/-- ITS FALSE NEIGHBOUR: 'it returns false'. Refute it at one input. -/
def uint256BoundariesWrong : ChangeSpec := { name := "uint256Boundaries", fn := fun _ => fun
  | [d1, d2, d3, d4, d5, d6] => { results := [.lit (.bool false)], args := [d1, d2, d3, d4, d5, d6] }
  | _ => none }
def Uint256BoundariesWrongFalsely : Prop := uint256BoundariesRow.holds Tryd.pinned (OpenSpec.ofChange uint256BoundariesWrong)

/-- 'pontagelaw1.Uint256Saturating': WHATEVER THE INPUT: true; the input reads as it did. -/
def uint256SaturatingSpec : ChangeSpec := { name := "uint256Saturating", fn := fun _ => fun
  | [d1, d2] => { results := [.lit (.bool true)], args := [d1, d2] }
  | _ => none }
def uint256SaturatingRow : OpenClaim := { program := "ythhbijcddbncdaadoor", sum := "5d894c87713e248124f991123039f4c44c1845977fd7751b8fd509bf7b47bfcc", func := "pontage/pontagelaw1.Uint256Saturating", spec := "uint256Saturating", inPlace := ["math/bits.Add64", "math/bits.Sub64"], named := ["pontage/uint256.largest"], apart := false, laid := [("pontage/uint256.largest", laid_pontage_uint256_largest)] }
def Uint256SaturatingSaid : Prop := uint256SaturatingRow.holds Tryd.pinned (OpenSpec.ofChange uint256SaturatingSpec)

/-- ITS FALSE NEIGHBOUR: 'it returns false'. Refute it at one input. -/
def uint256SaturatingWrong : ChangeSpec := { name := "uint256Saturating", fn := fun _ => fun
  | [d1, d2] => { results := [.lit (.bool false)], args := [d1, d2] }
  | _ => none }
def Uint256SaturatingWrongFalsely : Prop := uint256SaturatingRow.holds Tryd.pinned (OpenSpec.ofChange uint256SaturatingWrong)

/- THE SECOND FORM. 'bulk': how many values and letters a reading holds, each counted each time it is reached (what is shared counts as often as it is met; a slice's spare places count too). A statement '..UptoSaid' is the law's where the arguments, and the package variables that the reading takes, are together of bulk at most 1048576: NARROWER than '..Said'. Prove '..Said' where nothing that the law and all that it calls make is longer than what came in: it says more and counts as full. Else prove '..UptoSaid'. A law counts once. -/
mutual
def uptoBulk {H : Type} : DataW H → Nat
  | .lit (.string bytes) => bytes.length + 1
  | .lit _ => 1
  | .nil => 1
  | .ptr d => uptoBulk d + 1
  | .slice elems spare => uptoBulkAll elems + uptoBulkAll spare + 1
  | .agg parts => uptoBulkAll parts + 1
  | .iface _ d => uptoBulk d + 1
  | .map entries => uptoBulkEntries entries + 1
  | .held _ => 1
def uptoBulkAll {H : Type} : List (DataW H) → Nat
  | [] => 0
  | d :: r => uptoBulk d + uptoBulkAll r
def uptoBulkEntries {H : Type} : List (Lit × DataW H) → Nat
  | [] => 0
  | x :: r => uptoBulkEntry x + uptoBulkEntries r
def uptoBulkEntry {H : Type} : Lit × DataW H → Nat
  | (.string bytes, d) => bytes.length + uptoBulk d + 1
  | (_, d) => uptoBulk d + 1
 end
def uptoSmall : (H : Type) → List (DataW H) → Bool := fun _ ds => decide (uptoBulkAll ds ≤ 1048576)
def OpenSpec.upto (s : _root_.Go.ChangeSpec) : _root_.Go.OpenSpec := { _root_.Go.OpenSpec.ofChange s with cond := some uptoSmall }

/-- 'pontagelaw1.Uint256Boundaries', WHERE WHAT IT READS IS OF BULK AT MOST 1048576: true; the input reads as it did. -/
def uint256BoundariesUptoRow : OpenClaim := { program := "ythhbijcddbncdaadoor", sum := "5d894c87713e248124f991123039f4c44c1845977fd7751b8fd509bf7b47bfcc", func := "pontage/pontagelaw1.Uint256Boundaries", spec := "uint256Boundaries", inPlace := ["math/bits.Add64", "math/bits.Sub64"], named := ["pontage/uint256.largest"], apart := false, laid := [("pontage/uint256.largest", laid_pontage_uint256_largest)], narrowed := true }
def Uint256BoundariesUptoSaid : Prop := uint256BoundariesUptoRow.holds Tryd.pinned (OpenSpec.upto uint256BoundariesSpec)

/-- 'pontagelaw1.Uint256Saturating', WHERE WHAT IT READS IS OF BULK AT MOST 1048576: true; the input reads as it did. -/
def uint256SaturatingUptoRow : OpenClaim := { program := "ythhbijcddbncdaadoor", sum := "5d894c87713e248124f991123039f4c44c1845977fd7751b8fd509bf7b47bfcc", func := "pontage/pontagelaw1.Uint256Saturating", spec := "uint256Saturating", inPlace := ["math/bits.Add64", "math/bits.Sub64"], named := ["pontage/uint256.largest"], apart := false, laid := [("pontage/uint256.largest", laid_pontage_uint256_largest)], narrowed := true }
def Uint256SaturatingUptoSaid : Prop := uint256SaturatingUptoRow.holds Tryd.pinned (OpenSpec.upto uint256SaturatingSpec)

end Rows
end Go.Proofs.YthhbijcddbncdaaDoor
