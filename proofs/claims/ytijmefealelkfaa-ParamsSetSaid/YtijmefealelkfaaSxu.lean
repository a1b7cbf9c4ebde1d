/- Contracts of packages uint256 and muldiv over this translation, as the writer of conditions takes them. -/
import Derived.Test.YtijmefealelkfaaMx
import Derived.Test.YtijmefealelkfaaMd
import Derived.Test.YtijmefealelkfaaMu
namespace Go.Proofs.Ytijmefealelkfaa
open Go.RowKit Sx
set_option maxRecDepth 100000

theorem d_add (a b : Nat) (ha : a < B256) (hb : b < B256) : Det Try.prog 21 [U a, U b] (.tuple #[U (addR a b), .int .i64 (addE a b)]) := .of_calls ⟨_, Try.func21, by kernel_rfl, rfl⟩ fun w => add_any a b ha hb w
theorem d_u64 (n : Nat) (hn : n < 18446744073709551616) : Det Try.prog 28 [.int .u64 n] (U n) := .of_calls ⟨_, Try.func28, by kernel_rfl, rfl⟩ fun w => u64_any n hn w
theorem d_blen (a : Nat) (ha : a < B256) : Det Try.prog 36 [U a] (.int .i64 (blen a)) := .of_calls ⟨_, Try.func36, by kernel_rfl, rfl⟩ fun w => bitlen_any a ha w
end Go.Proofs.Ytijmefealelkfaa

