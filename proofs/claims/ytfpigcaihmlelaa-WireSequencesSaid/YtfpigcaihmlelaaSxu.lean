/- Contracts of packages uint256 and muldiv over this translation, as the writer of conditions takes them. -/
import Derived.Test.YtfpigcaihmlelaaMx
import Derived.Test.YtfpigcaihmlelaaMd
import Derived.Test.YtfpigcaihmlelaaMu
namespace Go.Proofs.Ytfpigcaihmlelaa
open Go.RowKit Sx
set_option maxRecDepth 100000

theorem d_u64 (n : Nat) (hn : n < 18446744073709551616) : Det Try.prog 32 [.int .u64 n] (U n) := .of_calls ⟨_, Try.func32, by kernel_rfl, rfl⟩ fun w => u64_any n hn w
theorem d_blen (a : Nat) (ha : a < B256) : Det Try.prog 28 [U a] (.int .i64 (blen a)) := .of_calls ⟨_, Try.func28, by kernel_rfl, rfl⟩ fun w => bitlen_any a ha w
end Go.Proofs.Ytfpigcaihmlelaa

