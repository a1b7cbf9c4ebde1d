/- Contracts of packages uint256 and muldiv over this translation, as the writer of conditions takes them. -/
import Derived.Test.YteepoeljihbpjaaMx
import Derived.Test.YteepoeljihbpjaaMd
import Derived.Test.YteepoeljihbpjaaMu
namespace Go.Proofs.Yteepoeljihbpjaa
open Go.RowKit Sx
set_option maxRecDepth 100000

theorem d_add (a b : Nat) (ha : a < B256) (hb : b < B256) : Det Try.prog 16 [U a, U b] (.tuple #[U (addR a b), .int .i64 (addE a b)]) := .of_calls ⟨_, Try.func16, by kernel_rfl, rfl⟩ fun w => add_any a b ha hb w
theorem d_mul (a b : Nat) (ha : a < B256) (hb : b < B256) : Det Try.prog 18 [U a, U b] (.tuple #[U (mulR a b), .int .i64 (mulE a b)]) := .of_calls ⟨_, Try.func18, by kernel_rfl, rfl⟩ fun w => mul_any a b ha hb w
theorem d_u64 (n : Nat) (hn : n < 18446744073709551616) : Det Try.prog 19 [.int .u64 n] (U n) := .of_calls ⟨_, Try.func19, by kernel_rfl, rfl⟩ fun w => u64_any n hn w
end Go.Proofs.Yteepoeljihbpjaa

