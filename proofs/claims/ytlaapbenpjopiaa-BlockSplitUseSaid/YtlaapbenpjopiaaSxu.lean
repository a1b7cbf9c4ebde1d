/- Contracts of packages uint256 and muldiv over this translation, as the writer of conditions takes them. -/
import Derived.Test.YtlaapbenpjopiaaMx
import Derived.Test.YtlaapbenpjopiaaMd
import Derived.Test.YtlaapbenpjopiaaMu
namespace Go.Proofs.Ytlaapbenpjopiaa
open Go.RowKit Sx
set_option maxRecDepth 100000

theorem d_cmp (a b : Nat) (ha : a < B256) (hb : b < B256) : Det Try.prog 68 [U a, U b] (.int .i64 (cmpI a b)) := .of_calls ⟨_, Try.func68, by kernel_rfl, rfl⟩ fun w => cmp_any a b ha hb w
theorem d_u64 (n : Nat) (hn : n < 18446744073709551616) : Det Try.prog 21 [.int .u64 n] (U n) := .of_calls ⟨_, Try.func21, by kernel_rfl, rfl⟩ fun w => u64_any n hn w
theorem d_blen (a : Nat) (ha : a < B256) : Det Try.prog 73 [U a] (.int .i64 (blen a)) := .of_calls ⟨_, Try.func73, by kernel_rfl, rfl⟩ fun w => bitlen_any a ha w
theorem d_floor (a b c : Nat) (ha : a < B256) (hb : b < B256) (hc : c < B256) : Det Try.prog 54 [U a, U b, U c] (.tuple #[U (quoR c (a * b / c)), .int .i64 (quoE c (a * b / c))]) := .of_calls ⟨_, Try.func54, by kernel_rfl, rfl⟩ fun w => floor_any a b c ha hb hc w
end Go.Proofs.Ytlaapbenpjopiaa

