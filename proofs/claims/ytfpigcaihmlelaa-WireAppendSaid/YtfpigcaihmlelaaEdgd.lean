/- The statements' helper EdgeUint256 over this translation: it gives one number below 2^256, whatever memory holds. -/
import Derived.Test.YtfpigcaihmlelaaSxg
import Derived.Test.YtfpigcaihmlelaaEdge
namespace Go.Proofs.Ytfpigcaihmlelaa
open Go.RowKit Sx

theorem edge_det (a b s : Int) (ha : 0 ≤ a ∧ a < 18446744073709551616) (hb : 0 ≤ b ∧ b < 18446744073709551616) : ∃ n, n < B256 ∧ Det Try.prog 27 [.int .u64 a, .int .u64 b, .int .i64 s] (U n) := by
  have C : Hid (∀ w, Calls Try.prog 19 #[.int .i64 s, .int .i64 9] w fun e w' => e = .returned (.int .i64 (wrap64 ((IntKind.u64.wrap s).tmod 9))) ∧ w = w') := fun w => mod_core s w
  obtain ⟨h0, h9⟩ := mod_bounds s
  generalize wrap64 ((IntKind.u64.wrap s).tmod 9) = q at *
  have hw : 0 ≤ IntKind.u64.wrap (2 ^ (b % 64).toNat) ∧ IntKind.u64.wrap (2 ^ (b % 64).toNat) < 18446744073709551616 := by rw [IntKind.wrap_u64]; omega
  have mk : ∀ x0 x1 x2 x3 : Int, 0 ≤ x0 ∧ x0 < 18446744073709551616 → 0 ≤ x1 ∧ x1 < 18446744073709551616 → 0 ≤ x2 ∧ x2 < 18446744073709551616 → 0 ≤ x3 ∧ x3 < 18446744073709551616 →
      (∀ w, Calls Try.prog 27 #[.int .u64 a, .int .u64 b, .int .i64 s] w fun e w' => e = .returned (.agg #[.int .u64 x0, .int .u64 x1, .int .u64 x2, .int .u64 x3]) ∧ Below w.heap.size w w') →
      ∃ n, n < B256 ∧ Det Try.prog 27 [.int .u64 a, .int .u64 b, .int .i64 s] (U n) := by
    intro x0 x1 x2 x3 k0 k1 k2 k3 hc
    obtain ⟨n, hn, rfl, rfl, rfl, rfl⟩ := exists_limbs k0.1 k0.2 k1.1 k1.2 k2.1 k2.2 k3.1 k3.2
    exact ⟨n, hn, .of_calls ⟨_, Try.func27, by kernel_rfl, rfl⟩ hc⟩
  rcases (by omega : q = 0 ∨ q = 1 ∨ q = 2 ∨ q = 3 ∨ q = 4 ∨ q = 5 ∨ q = 6 ∨ q = 7 ∨ q = 8) with rfl | rfl | rfl | rfl | rfl | rfl | rfl | rfl | rfl
  · exact mk _ _ _ _ (by omega) (by omega) (by omega) (by omega) fun w => edge_0 a b s w ha.1 hb.1 C
  · exact mk _ _ _ _ (by omega) (by omega) (by omega) (by omega) fun w => edge_1 a b s w ha.1 hb.1 C
  · exact mk _ _ _ _ (by omega) (by omega) (by omega) (by omega) fun w => edge_2 a b s w ha.1 hb.1 C
  · exact mk _ _ _ _ (by omega) (by omega) (by omega) (by omega) fun w => edge_3 a b s w ha.1 hb.1 C
  · exact mk _ _ _ _ (by omega) (by omega) (by omega) (by omega) fun w => edge_4 a b s w ha.1 hb.1 C
  · exact mk _ _ _ _ (by omega) (by omega) (by omega) (by omega) fun w => edge_5 a b s w ha.1 hb.1 C
  · exact mk _ _ _ _ (by omega) (by omega) (by omega) hw fun w => edge_6 a b s w ha.1 hb.1 C
  · exact mk _ _ _ _ (by omega) (by omega) (by omega) (by omega) fun w => edge_7 a b s w ha.1 hb.1 C
  · exact mk _ _ _ _ (by omega) (by omega) (by omega) (by omega) fun w => edge_8 a b s w ha.1 hb.1 C
end Go.Proofs.Ytfpigcaihmlelaa

