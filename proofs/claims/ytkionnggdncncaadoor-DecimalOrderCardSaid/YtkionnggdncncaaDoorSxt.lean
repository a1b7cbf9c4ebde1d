/- What the writer of conditions needs of this program: its orders, its types' comparisons. No conditions. -/
import Derived.Test.YtkionnggdncncaaDoorSxb
namespace Go.Proofs.YtkionnggdncncaaDoor
open Go.RowKit Sx

theorem Tryd.mixed : Tryd.prog.follows .mixedOrders = true := by kernel_rfl

def lvU : List Leaf := [.i .u64, .i .u64, .i .u64, .i .u64]
theorem lvU_ok : leaves Tryd.prog 3 24 = some lvU := by kernel_rfl
theorem guardU : Tryd.prog.eqGuardType Tryd.prog.depth 24 = false := by kernel_rfl
theorem eqT_api_Uint256 {xs ys : Array Value} (hx : fitL lvU xs.toList = true) (hy : fitL lvU ys.toList = true) : EqRun Tryd.prog 24 (.agg xs) (.agg ys) (cellsEq xs.toList ys.toList) :=
  eqRun_of lvU_ok (by omega) (.inr ⟨_, _, Tryd.underlying24⟩) guardU hx hy

def lvI : List Leaf := [.b, .i .u64, .i .u64, .i .u64, .i .u64]
theorem lvI_ok : leaves Tryd.prog 4 26 = some lvI := by kernel_rfl
theorem guardI : Tryd.prog.eqGuardType Tryd.prog.depth 26 = false := by kernel_rfl
theorem eqT_api_Int256 {xs ys : Array Value} (hx : fitL lvI xs.toList = true) (hy : fitL lvI ys.toList = true) : EqRun Tryd.prog 26 (.agg xs) (.agg ys) (cellsEq xs.toList ys.toList) :=
  eqRun_of lvI_ok (by omega) (.inl ⟨_, Tryd.underlying26⟩) guardI hx hy

/-- A pair of a sign and a magnitude. -/
abbrev Ic (s : Bool) (n : Nat) : Value := .agg #[.bool s, .int .u64 (limb n 0), .int .u64 (limb n 1), .int .u64 (limb n 2), .int .u64 (limb n 3)]
/-- Is the number zero? As Go's '==' answers. -/
abbrev isz (n : Nat) : Bool := cellsEq [.int .u64 (limb n 0), .int .u64 (limb n 1), .int .u64 (limb n 2), .int .u64 (limb n 3)] [.int .u64 0, .int .u64 0, .int .u64 0, .int .u64 0]
end Go.Proofs.YtkionnggdncncaaDoor

