/- Contracts of packages uint256 and muldiv over this translation, as the writer of conditions takes them. -/
import Derived.Test.YtkibbcomfjhgpaaDoorMx
import Derived.Test.YtkibbcomfjhgpaaDoorMd
import Derived.Test.YtkibbcomfjhgpaaDoorMu
namespace Go.Proofs.YtkibbcomfjhgpaaDoor
open Go.RowKit Sx
set_option maxRecDepth 100000

theorem d_add (a b : Nat) (ha : a < B256) (hb : b < B256) : Det Tryd.prog 51 [U a, U b] (.tuple #[U (addR a b), .int .i64 (addE a b)]) := .of_calls ⟨_, Tryd.func51, by kernel_rfl, rfl⟩ fun w => add_any a b ha hb w
theorem d_satsub (a b : Nat) (ha : a < B256) (hb : b < B256) : Det Tryd.prog 57 [U a, U b] (U (subR a b)) := .of_calls ⟨_, Tryd.func57, by kernel_rfl, rfl⟩ fun w => satsub_any a b ha hb w
end Go.Proofs.YtkibbcomfjhgpaaDoor

