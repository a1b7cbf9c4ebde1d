/-
  NARROWER THAN 'FOR EVERY INPUT', by the rows' own cells (each row's printed sentence says how): LedgerCalls: laid · LedgerLoad: laid.
  DERIVED. THE GIVEN ROWS OF THIS SEAT. 2 by the template 'for every input the law returns true; each argument reads behind the call as it read before'; 0 by the template 'total and deterministic' (their statements: YtkibbcomfjhgpaaDoorTotals.lean).
  GIVEN WITH THE SEED: the statements are not yours to turn. If you find one false, say at which input.
  Laid BY PROGRAM, IN A SANDBOX (cutbox-rows.mjs): the forced cells as the released guide's own fill.sh prints them over the translation 167615669ca0f667… (all of the seat's roots in one cut). By AI agents, Wed Nov 11 2026. No macro, syntax, notation, axiom, sorry.
-/
import Derived.Test.YtkibbcomfjhgpaaDoorChecked
import GoSem.Claim
import GoSem.ClaimJoined
import GoSem.ClaimMapViews
import Derived.JoinedTies
import Derived.KernelRfl
namespace Go.Proofs.YtkibbcomfjhgpaaDoor
/- THE CELL 'sum', in the pinned program and in every row, IS THE sha256 OF THE DUMP (.gsa) THAT YtkibbcomfjhgpaaDoorProg.lean LOADS. Nothing in Lean hashes anything: it is a label: what it is worth is what the hold of that sum in a sandbox is worth. -/
noncomputable def Tryd.pinned : Pinned := { name := "ytkibbcomfjhgpaadoor", sum := "167615669ca0f667537493bcb5435f0aa737317914f7340d2a9d04a56dd169cb", checked := Tryd.checked }
namespace Rows
def none {H : Type} : Left H := { results := [], args := [] }

/- WHAT THE LISTED PACKAGE-LEVEL VARIABLES READ AS WHEN THE CALL BEGINS. Each datum BY PROGRAM (the guide's laid-datum.mjs) off the statement by which the dump's own 'gosem.cut.vars' lays the variable. In a bare row this is a premise. The card (YtkibbcomfjhgpaaDoorCards.lean) ties it to the program's text. -/
def laid_pontage_uint256_largest {H : Type} : DataW H := .agg [.lit (.int .u64 18446744073709551615), .lit (.int .u64 18446744073709551615), .lit (.int .u64 18446744073709551615), .lit (.int .u64 18446744073709551615)]

/-- 'pontagelaw11.LedgerCalls': WHATEVER THE INPUT: true; the input reads as it did. -/
def ledgerCallsSpec : ChangeSpec := { name := "ledgerCalls", fn := fun _ => fun
  | [d] => { results := [.lit (.bool true)], args := [d] }
  | _ => none }
def ledgerCallsRow : OpenClaim := { program := "ytkibbcomfjhgpaadoor", sum := "167615669ca0f667537493bcb5435f0aa737317914f7340d2a9d04a56dd169cb", func := "pontage/pontagelaw11.LedgerCalls", spec := "ledgerCalls", inPlace := ["math/bits.Add64", "math/bits.Sub64"], unfollowed := true, recurses := true, named := ["pontage/uint256.largest"], apart := false, laid := [("pontage/uint256.largest", laid_pontage_uint256_largest)] }
def LedgerCallsSaid : Prop := ledgerCallsRow.holds Tryd.pinned (OpenSpec.ofChange ledgerCallsSpec)

/-- ITS FALSE NEIGHBOUR: 'it returns false'. Refute it at one input. -/
def ledgerCallsWrong : ChangeSpec := { name := "ledgerCalls", fn := fun _ => fun
  | [d] => { results := [.lit (.bool false)], args := [d] }
  | _ => none }
def LedgerCallsWrongFalsely : Prop := ledgerCallsRow.holds Tryd.pinned (OpenSpec.ofChange ledgerCallsWrong)

/-- 'pontagelaw11.LedgerLoad': WHATEVER THE INPUT: true; the input reads as it did. -/
def ledgerLoadSpec : ChangeSpec := { name := "ledgerLoad", fn := fun _ => fun
  | [d1, d2, d3, d4] => { results := [.lit (.bool true)], args := [d1, d2, d3, d4] }
  | _ => none }
def ledgerLoadRow : OpenClaim := { program := "ytkibbcomfjhgpaadoor", sum := "167615669ca0f667537493bcb5435f0aa737317914f7340d2a9d04a56dd169cb", func := "pontage/pontagelaw11.LedgerLoad", spec := "ledgerLoad", inPlace := ["math/bits.Add64", "math/bits.Sub64"], unfollowed := true, recurses := true, named := ["pontage/uint256.largest"], apart := false, laid := [("pontage/uint256.largest", laid_pontage_uint256_largest)] }
def LedgerLoadSaid : Prop := ledgerLoadRow.holds Tryd.pinned (OpenSpec.ofChange ledgerLoadSpec)

/-- ITS FALSE NEIGHBOUR: 'it returns false'. Refute it at one input. -/
def ledgerLoadWrong : ChangeSpec := { name := "ledgerLoad", fn := fun _ => fun
  | [d1, d2, d3, d4] => { results := [.lit (.bool false)], args := [d1, d2, d3, d4] }
  | _ => none }
def LedgerLoadWrongFalsely : Prop := ledgerLoadRow.holds Tryd.pinned (OpenSpec.ofChange ledgerLoadWrong)

/- THE SECOND FORM. 'bulk': how many values and letters a reading holds, each counted each time it is reached (what is shared counts as often as it is met; a slice's spare places count too). A statement '..UptoSaid' is the law's where the arguments, and the package variables that the reading takes, are together of bulk at most 1048576: NARROWER than '..Said'. Prove '..Said' where nothing that the law and all that it calls make is longer than what came in: it says more and counts as full. Else prove '..UptoSaid'. A law counts once. -/
mutual
def uptoBulk {H : Type} : DataW H → Nat
  | .lit (.string bytes) => bytes.length + 1
  | .lit _ => 1
  | .nil => 1
  | .ptr d => uptoBulk d + 1
  | .slice elems spare => uptoBulkAll elems + uptoBulkAll spare + 1
  | .agg parts => uptoBulkAll parts + 1
  | .iface _ d => uptoBulk d + 1
  | .map entries => uptoBulkEntries entries + 1
  | .held _ => 1
def uptoBulkAll {H : Type} : List (DataW H) → Nat
  | [] => 0
  | d :: r => uptoBulk d + uptoBulkAll r
def uptoBulkEntries {H : Type} : List (Lit × DataW H) → Nat
  | [] => 0
  | x :: r => uptoBulkEntry x + uptoBulkEntries r
def uptoBulkEntry {H : Type} : Lit × DataW H → Nat
  | (.string bytes, d) => bytes.length + uptoBulk d + 1
  | (_, d) => uptoBulk d + 1
 end
def uptoSmall : (H : Type) → List (DataW H) → Bool := fun _ ds => decide (uptoBulkAll ds ≤ 1048576)
def OpenSpec.upto (s : _root_.Go.ChangeSpec) : _root_.Go.OpenSpec := { _root_.Go.OpenSpec.ofChange s with cond := some uptoSmall }

/-- 'pontagelaw11.LedgerCalls', WHERE WHAT IT READS IS OF BULK AT MOST 1048576: true; the input reads as it did. -/
def ledgerCallsUptoRow : OpenClaim := { program := "ytkibbcomfjhgpaadoor", sum := "167615669ca0f667537493bcb5435f0aa737317914f7340d2a9d04a56dd169cb", func := "pontage/pontagelaw11.LedgerCalls", spec := "ledgerCalls", inPlace := ["math/bits.Add64", "math/bits.Sub64"], unfollowed := true, recurses := true, named := ["pontage/uint256.largest"], apart := false, laid := [("pontage/uint256.largest", laid_pontage_uint256_largest)], narrowed := true }
def LedgerCallsUptoSaid : Prop := ledgerCallsUptoRow.holds Tryd.pinned (OpenSpec.upto ledgerCallsSpec)

/-- 'pontagelaw11.LedgerLoad', WHERE WHAT IT READS IS OF BULK AT MOST 1048576: true; the input reads as it did. -/
def ledgerLoadUptoRow : OpenClaim := { program := "ytkibbcomfjhgpaadoor", sum := "167615669ca0f667537493bcb5435f0aa737317914f7340d2a9d04a56dd169cb", func := "pontage/pontagelaw11.LedgerLoad", spec := "ledgerLoad", inPlace := ["math/bits.Add64", "math/bits.Sub64"], unfollowed := true, recurses := true, named := ["pontage/uint256.largest"], apart := false, laid := [("pontage/uint256.largest", laid_pontage_uint256_largest)], narrowed := true }
def LedgerLoadUptoSaid : Prop := ledgerLoadUptoRow.holds Tryd.pinned (OpenSpec.upto ledgerLoadSpec)

end Rows
end Go.Proofs.YtkibbcomfjhgpaaDoor
