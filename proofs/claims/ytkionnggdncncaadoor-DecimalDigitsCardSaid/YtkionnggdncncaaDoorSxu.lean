/- Contracts of packages uint256 and muldiv over this translation, as the writer of conditions takes them. -/
import Derived.Test.YtkionnggdncncaaDoorMx
import Derived.Test.YtkionnggdncncaaDoorMd
import Derived.Test.YtkionnggdncncaaDoorMu
namespace Go.Proofs.YtkionnggdncncaaDoor
open Go.RowKit Sx
set_option maxRecDepth 100000

theorem d_add (a b : Nat) (ha : a < B256) (hb : b < B256) : Det Tryd.prog 45 [U a, U b] (.tuple #[U (addR a b), .int .i64 (addE a b)]) := .of_calls ⟨_, Tryd.func45, by kernel_rfl, rfl⟩ fun w => add_any a b ha hb w
theorem d_mul (a b : Nat) (ha : a < B256) (hb : b < B256) : Det Tryd.prog 44 [U a, U b] (.tuple #[U (mulR a b), .int .i64 (mulE a b)]) := .of_calls ⟨_, Tryd.func44, by kernel_rfl, rfl⟩ fun w => mul_any a b ha hb w
theorem d_cmp (a b : Nat) (ha : a < B256) (hb : b < B256) : Det Tryd.prog 18 [U a, U b] (.int .i64 (cmpI a b)) := .of_calls ⟨_, Tryd.func18, by kernel_rfl, rfl⟩ fun w => cmp_any a b ha hb w
theorem d_u64 (n : Nat) (hn : n < 18446744073709551616) : Det Tryd.prog 21 [.int .u64 n] (U n) := .of_calls ⟨_, Tryd.func21, by kernel_rfl, rfl⟩ fun w => u64_any n hn w
theorem d_divmod (a b : Nat) (ha : a < B256) (hb : b < B256) : Det Tryd.prog 20 [U a, U b] (.tuple #[U (quoR b (a / b)), U (remR b (a / b) (a % b)), .int .i64 (quoE b (a / b))]) := .of_calls ⟨_, Tryd.func20, by kernel_rfl, rfl⟩ fun w => dm_any a b ha hb w
theorem d_blen (a : Nat) (ha : a < B256) : Det Tryd.prog 19 [U a] (.int .i64 (blen a)) := .of_calls ⟨_, Tryd.func19, by kernel_rfl, rfl⟩ fun w => bitlen_any a ha w
end Go.Proofs.YtkionnggdncncaaDoor

