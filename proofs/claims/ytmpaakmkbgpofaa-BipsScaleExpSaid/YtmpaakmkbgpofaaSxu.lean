/- Contracts of packages uint256 and muldiv over this translation, as the writer of conditions takes them. -/
import Derived.Test.YtmpaakmkbgpofaaMx
import Derived.Test.YtmpaakmkbgpofaaMd
import Derived.Test.YtmpaakmkbgpofaaMu
namespace Go.Proofs.Ytmpaakmkbgpofaa
open Go.RowKit Sx
set_option maxRecDepth 100000

theorem d_add (a b : Nat) (ha : a < B256) (hb : b < B256) : Det Try.prog 15 [U a, U b] (.tuple #[U (addR a b), .int .i64 (addE a b)]) := .of_calls ⟨_, Try.func15, by kernel_rfl, rfl⟩ fun w => add_any a b ha hb w
theorem d_cmp (a b : Nat) (ha : a < B256) (hb : b < B256) : Det Try.prog 16 [U a, U b] (.int .i64 (cmpI a b)) := .of_calls ⟨_, Try.func16, by kernel_rfl, rfl⟩ fun w => cmp_any a b ha hb w
theorem d_u64 (n : Nat) (hn : n < 18446744073709551616) : Det Try.prog 28 [.int .u64 n] (U n) := .of_calls ⟨_, Try.func28, by kernel_rfl, rfl⟩ fun w => u64_any n hn w
theorem d_satsub (a b : Nat) (ha : a < B256) (hb : b < B256) : Det Try.prog 18 [U a, U b] (U (subR a b)) := .of_calls ⟨_, Try.func18, by kernel_rfl, rfl⟩ fun w => satsub_any a b ha hb w
theorem d_blen (a : Nat) (ha : a < B256) : Det Try.prog 44 [U a] (.int .i64 (blen a)) := .of_calls ⟨_, Try.func44, by kernel_rfl, rfl⟩ fun w => bitlen_any a ha w
theorem d_floor (a b c : Nat) (ha : a < B256) (hb : b < B256) (hc : c < B256) : Det Try.prog 27 [U a, U b, U c] (.tuple #[U (quoR c (a * b / c)), .int .i64 (quoE c (a * b / c))]) := .of_calls ⟨_, Try.func27, by kernel_rfl, rfl⟩ fun w => floor_any a b c ha hb hc w
end Go.Proofs.Ytmpaakmkbgpofaa

