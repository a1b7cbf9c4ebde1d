/- The laws of layer 3 for all arguments, from their ways: each returns true, where the package's variable for the largest number holds the largest number. -/
import Derived.Test.YtbhffhipbdakgaaDoorI3x
import Derived.Test.YtbhffhipbdakgaaDoorEdge
namespace Go.Proofs.YtbhffhipbdakgaaDoor
open Go.RowKit Sx

theorem long_of_wf {x : Int} (h : (Lit.int .i64 x).wf = true) : -9223372036854775808 ≤ x ∧ x < 9223372036854775808 := by
  simp [Lit.wf, IntKind.min, IntKind.max, IntKind.signed, IntKind.bits] at h
  exact ⟨by omega, by omega⟩
theorem order_law (s t g : Bool) (n m : Nat) (z : Int) (hn : n < B256) (hm : m < B256) (hz : -9223372036854775808 ≤ z ∧ z < 9223372036854775808) : DetL 7 [Ic s n, Ic t m, .int .i64 z, .bool g] (.bool true) := by
  rcases val_cases s n with h | ⟨rfl, rfl⟩
  · cases s <;> cases g
    · exact order_ff n m t z hn hm hz.1 hz.2
    · exact order_ft n m t z hn hm hz.1 hz.2
    · exact order_tf n m t z hn h hm hz.1 hz.2
    · exact order_tt n m t z hn h hm hz.1 hz.2
  · cases g
    · exact order_xf m t z hm hz.1 hz.2
    · exact order_xt m t z hm hz.1 hz.2

theorem iE_cases (z : Int) : iE z = 0 ∨ iE z = 4 := by unfold iE; split <;> simp
theorem ngt_law (s t : Bool) (n m : Nat) (hn : n < B256) (hm : m < B256) : DetL 9 [Ic s n, Ic t m] (.bool true) := by
  rcases val_cases s n with h | ⟨rfl, rfl⟩
  · have ha : (sgn s n).natAbs < B256 := by rwa [sgn_abs]
    rcases val_cases t m with k | ⟨rfl, rfl⟩
    · have hb : (sgn t m).natAbs < B256 := by rwa [sgn_abs]
      rw [Iz_of h, Iz_of k]
      rcases iE_cases (sgn s n + sgn t m) with g | g <;> rcases iE_cases (sgn s n * sgn t m) with j | j
      · exact ngt_00 _ _ ha hb g j
      · exact ngt_04 _ _ ha hb g j
      · exact ngt_40 _ _ ha hb g j
      · exact ngt_44 _ _ ha hb g j
    · rw [Iz_of h]; exact ngt_b _ ha
  · exact ngt_a t m

/-- A quotient that is too large times its divisor: the dividend is negative. -/
theorem over_neg {a : Int} {k : Nat} (ha : a.natAbs < B256) (h0 : k ≠ 0) (hp : iE (a / k * k) = 4) : decide (a < 0) = true := by
  rw [decide_eq_true_eq]
  apply Classical.byContradiction
  intro hc
  have h1 : (0 : Int) ≤ a / k := Int.ediv_nonneg (by omega) (by omega)
  have h2 : a / (k : Int) * k ≤ a := Int.ediv_mul_le a (by omega)
  have h3 : (0 : Int) ≤ a / k * k := Int.mul_nonneg h1 (by omega)
  have : (a / (k : Int) * k).natAbs < B256 := by omega
  rw [iE_small this] at hp
  cases hp
theorem alg_nat (s t : Bool) (n m k : Nat) (hn : n < B256) (hm : m < B256) (hk : k < 18446744073709551616) : DetL 8 [Ic s n, Ic t m, .int .u64 k] (.bool true) := by
  rcases val_cases s n with h | ⟨rfl, rfl⟩
  · have ha : (sgn s n).natAbs < B256 := by rwa [sgn_abs]
    rcases val_cases t m with j | ⟨rfl, rfl⟩
    · have hb : (sgn t m).natAbs < B256 := by rwa [sgn_abs]
      rw [Iz_of h, Iz_of j]
      by_cases h0 : k = 0
      · subst h0
        rcases iE_cases (sgn s n - sgn t m) with g | g
        · exact alg_0z _ _ ha hb g
        · exact alg_1z _ _ ha hb g
      · rcases iE_cases (sgn s n - sgn t m) with g | g <;> rcases iE_cases (sgn s n / k * k) with p | p
        · exact alg_0f _ _ ha hb g k hk h0 p
        · exact alg_0o _ _ ha hb g k hk h0 p (over_neg ha h0 p)
        · exact alg_1f _ _ ha hb g k hk h0 p
        · exact alg_1o _ _ ha hb g k hk h0 p (over_neg ha h0 p)
    · rw [Iz_of h]; exact alg_b _ ha k
  · exact alg_a t m k
theorem alg_law (s t : Bool) (n m : Nat) (k : Int) (hn : n < B256) (hm : m < B256) (hk : 0 ≤ k ∧ k < 18446744073709551616) : DetL 8 [Ic s n, Ic t m, .int .u64 k] (.bool true) := by
  obtain ⟨k, rfl⟩ := Int.eq_ofNat_of_zero_le hk.1
  exact alg_nat s t n m k hn hm (by omega)

theorem edge_det (a b s : Int) (ha : 0 ≤ a ∧ a < 18446744073709551616) (hb : 0 ≤ b ∧ b < 18446744073709551616) : ∃ n, n < B256 ∧ Det Tryd.prog 16 [.int .u64 a, .int .u64 b, .int .i64 s] (U n) := by
  have C : Hid (∀ w, Calls Tryd.prog 38 #[.int .i64 s, .int .i64 9] w fun e w' => e = .returned (.int .i64 (wrap64 ((IntKind.u64.wrap s).tmod 9))) ∧ w = w') := fun w => mod_core s w
  obtain ⟨h0, h9⟩ := mod_bounds s
  generalize wrap64 ((IntKind.u64.wrap s).tmod 9) = q at *
  have hw : 0 ≤ IntKind.u64.wrap (2 ^ (b % 64).toNat) ∧ IntKind.u64.wrap (2 ^ (b % 64).toNat) < 18446744073709551616 := by rw [IntKind.wrap_u64]; omega
  have mk : ∀ x0 x1 x2 x3 : Int, 0 ≤ x0 ∧ x0 < 18446744073709551616 → 0 ≤ x1 ∧ x1 < 18446744073709551616 → 0 ≤ x2 ∧ x2 < 18446744073709551616 → 0 ≤ x3 ∧ x3 < 18446744073709551616 →
      (∀ w, Calls Tryd.prog 16 #[.int .u64 a, .int .u64 b, .int .i64 s] w fun e w' => e = .returned (.agg #[.int .u64 x0, .int .u64 x1, .int .u64 x2, .int .u64 x3]) ∧ Below w.heap.size w w') →
      ∃ n, n < B256 ∧ Det Tryd.prog 16 [.int .u64 a, .int .u64 b, .int .i64 s] (U n) := by
    intro x0 x1 x2 x3 k0 k1 k2 k3 hc
    obtain ⟨n, hn, rfl, rfl, rfl, rfl⟩ := exists_limbs k0.1 k0.2 k1.1 k1.2 k2.1 k2.2 k3.1 k3.2
    exact ⟨n, hn, .of_calls ⟨_, Tryd.func16, by kernel_rfl, rfl⟩ hc⟩
  rcases (by omega : q = 0 ∨ q = 1 ∨ q = 2 ∨ q = 3 ∨ q = 4 ∨ q = 5 ∨ q = 6 ∨ q = 7 ∨ q = 8) with rfl | rfl | rfl | rfl | rfl | rfl | rfl | rfl | rfl
  · exact mk _ _ _ _ (by omega) (by omega) (by omega) (by omega) fun w => edge_0 a b s w ha.1 hb.1 C
  · exact mk _ _ _ _ (by omega) (by omega) (by omega) (by omega) fun w => edge_1 a b s w ha.1 hb.1 C
  · exact mk _ _ _ _ (by omega) (by omega) (by omega) (by omega) fun w => edge_2 a b s w ha.1 hb.1 C
  · exact mk _ _ _ _ (by omega) (by omega) (by omega) (by omega) fun w => edge_3 a b s w ha.1 hb.1 C
  · exact mk _ _ _ _ (by omega) (by omega) (by omega) (by omega) fun w => edge_4 a b s w ha.1 hb.1 C
  · exact mk _ _ _ _ (by omega) (by omega) (by omega) (by omega) fun w => edge_5 a b s w ha.1 hb.1 C
  · exact mk _ _ _ _ (by omega) (by omega) (by omega) hw fun w => edge_6 a b s w ha.1 hb.1 C
  · exact mk _ _ _ _ (by omega) (by omega) (by omega) (by omega) fun w => edge_7 a b s w ha.1 hb.1 C
  · exact mk _ _ _ _ (by omega) (by omega) (by omega) (by omega) fun w => edge_8 a b s w ha.1 hb.1 C
theorem bound_any (a b p q : Int) (g h : Bool) (ha : 0 ≤ a ∧ a < 18446744073709551616) (hb : 0 ≤ b ∧ b < 18446744073709551616) : DetL 4 [.int .u64 a, .int .u64 b, .int .i64 p, .int .i64 q, .bool g, .bool h] (.bool true) := by
  obtain ⟨n, hn, e1⟩ := edge_det a b p ha hb
  obtain ⟨m, hm, e2⟩ := edge_det b a q hb ha
  obtain ⟨l, hl, e3⟩ := edge_det a a q ha ha
  exact bound_law a b p q g h n m l hn hm hl e1 e2 e3
end Go.Proofs.YtbhffhipbdakgaaDoor

