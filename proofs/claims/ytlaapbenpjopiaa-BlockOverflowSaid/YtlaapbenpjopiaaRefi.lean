/- Contracts of the reference's BitLen and Uint64 over this translation: the number of binary digits; the number if it fits 64 bits. Memory that was there is as it was. -/
import Derived.Test.YtlaapbenpjopiaaMu
import Derived.Laws.Bits64b
namespace Go.Proofs.Ytlaapbenpjopiaa
open Go.RowKit

/-- The number of binary digits of the lowest k binary digits. -/
def bpre (a k : Nat) : Nat := blen (a % 2 ^ k)
theorem bpre_zero (a : Nat) : bpre a 0 = 0 := by unfold bpre; rw [Nat.pow_zero, Nat.mod_one]; rfl
theorem bpre_one (a k : Nat) (h : a / 2 ^ k % 2 = 1) : bpre a (k + 1) = k + 1 := by
  unfold bpre
  rw [Nat.mod_pow_succ, h]
  have := Nat.mod_lt a (Nat.two_pow_pos k)
  exact blen_eq (by omega) (by rw [Nat.pow_succ]; omega)
theorem bpre_same (a k : Nat) (h : ¬ a / 2 ^ k % 2 = 1) : bpre a (k + 1) = bpre a k := by
  unfold bpre
  rw [Nat.mod_pow_succ, show a / 2 ^ k % 2 = 0 from by omega, Nat.mul_zero, Nat.add_zero]
theorem bpre_all {a : Nat} (h : a < B256) : bpre a 256 = blen a := by
  unfold bpre; rw [Nat.mod_eq_of_lt (show a < 2 ^ 256 from h)]
theorem bpre_le (a k : Nat) : bpre a k ≤ k := blen_le_of (Nat.mod_lt _ (Nat.two_pow_pos k))
theorem bit_test (a k q : Nat) (hq : k / 64 = q) : (bits BinOp.and IntKind.u64 (limb a q / 2 ^ (k % 64)) 1 == 1) = decide (a / 2 ^ k % 2 = 1) := by
  have hr : k % 64 < 64 := by omega
  have hk : k = 64 * q + k % 64 := by omega
  generalize k % 64 = r at *
  have e1 : limb a q / 2 ^ r = ((a / 18446744073709551616 ^ q % 18446744073709551616 / 2 ^ r : Nat) : Int) := by
    unfold limb; rw [Int.natCast_ediv, Int.natCast_pow]; rfl
  rw [e1]
  have e2 : a / 18446744073709551616 ^ q % 18446744073709551616 / 2 ^ r < 18446744073709551616 := Nat.lt_of_le_of_lt (Nat.div_le_self _ _) (Nat.mod_lt _ (by omega))
  have e3 := bits_and_u64_nat (a / 18446744073709551616 ^ q % 18446744073709551616 / 2 ^ r) 1 e2 (by omega)
  rw [show ((1 : Nat) : Int) = 1 from rfl] at e3
  rw [e3, Nat.and_one_is_mod]
  have e4 : a / 2 ^ k = a / 18446744073709551616 ^ q / 2 ^ r := by
    rw [hk, Nat.pow_add, Nat.pow_mul, Nat.div_div_eq_div_mul]
  rw [e4]
  generalize a / 18446744073709551616 ^ q = y
  have t1 := Nat.testBit_mod_two_pow y 64 r
  rw [Nat.testBit_eq_decide_div_mod_eq, Nat.testBit_eq_decide_div_mod_eq, decide_eq_true hr, Bool.true_and] at t1
  rw [show (2 : Nat) ^ 64 = 18446744073709551616 from rfl] at t1
  rw [← t1]
  generalize y % 18446744073709551616 / 2 ^ r = z
  by_cases h : z % 2 = 1
  · rw [h]; rfl
  · rw [show z % 2 = 0 from by omega]; rfl

set_option maxHeartbeats 1000000 in
theorem ruint64_core (x0 x1 x2 x3 : Int) (w : World) (h1 : (x1 != 0) = false) (h2 : (x2 != 0) = false) (h3 : (x3 != 0) = false) :
    Calls Try.prog 63 #[.agg #[.int .u64 x0, .int .u64 x1, .int .u64 x2, .int .u64 x3]] w fun e w' => e = .returned (.tuple #[.int .u64 x0, .bool true]) ∧ Below w.heap.size w w' := by
  go_enter Try.func63, Try.ntmps63
  go_wp2
  go_ret2
  refine ⟨rfl, ?_⟩
  go_grown
set_option maxHeartbeats 1000000 in
theorem ruint64_1 (x0 x1 x2 x3 : Int) (w : World) (h1 : (x1 != 0) = true) :
    Calls Try.prog 63 #[.agg #[.int .u64 x0, .int .u64 x1, .int .u64 x2, .int .u64 x3]] w fun e w' => e = .returned (.tuple #[.int .u64 0, .bool false]) ∧ Below w.heap.size w w' := by
  go_enter Try.func63, Try.ntmps63
  go_wp2
  go_ret2
  refine ⟨rfl, ?_⟩
  go_grown
set_option maxHeartbeats 1000000 in
theorem ruint64_2 (x0 x1 x2 x3 : Int) (w : World) (h1 : (x1 != 0) = false) (h2 : (x2 != 0) = true) :
    Calls Try.prog 63 #[.agg #[.int .u64 x0, .int .u64 x1, .int .u64 x2, .int .u64 x3]] w fun e w' => e = .returned (.tuple #[.int .u64 0, .bool false]) ∧ Below w.heap.size w w' := by
  go_enter Try.func63, Try.ntmps63
  go_wp2
  go_ret2
  refine ⟨rfl, ?_⟩
  go_grown
set_option maxHeartbeats 1000000 in
theorem ruint64_3 (x0 x1 x2 x3 : Int) (w : World) (h1 : (x1 != 0) = false) (h2 : (x2 != 0) = false) (h3 : (x3 != 0) = true) :
    Calls Try.prog 63 #[.agg #[.int .u64 x0, .int .u64 x1, .int .u64 x2, .int .u64 x3]] w fun e w' => e = .returned (.tuple #[.int .u64 0, .bool false]) ∧ Below w.heap.size w w' := by
  go_enter Try.func63, Try.ntmps63
  go_wp2
  go_ret2
  refine ⟨rfl, ?_⟩
  go_grown

theorem ruint64_yes (a : Nat) (ha : a < B256) (hl : a < 18446744073709551616) (w : World) :
    Calls Try.prog 63 #[U a] w fun e w' => e = .returned (.tuple #[.int .u64 a, .bool true]) ∧ Below w.heap.size w w' := by
  have A := limb_sum ha
  have := limb_nonneg a 0; have := limb_nonneg a 1; have := limb_nonneg a 2; have := limb_nonneg a 3
  have e0 : limb a 0 = (a : Int) := by omega
  have h := ruint64_core (limb a 0) (limb a 1) (limb a 2) (limb a 3) w (by simp; omega) (by simp; omega) (by simp; omega)
  refine h.mono fun e w' k => ⟨?_, k.2⟩
  rw [k.1, e0]
theorem ruint64_no (a : Nat) (ha : a < B256) (hl : ¬ a < 18446744073709551616) (w : World) :
    Calls Try.prog 63 #[U a] w fun e w' => e = .returned (.tuple #[.int .u64 0, .bool false]) ∧ Below w.heap.size w w' := by
  have A := limb_sum ha
  have := limb_lt a 0
  by_cases h1 : limb a 1 = 0
  · by_cases h2 : limb a 2 = 0
    · by_cases h3 : limb a 3 = 0
      · exact absurd A (by omega)
      · exact ruint64_3 _ _ _ _ w (by simpa using h1) (by simpa using h2) (by simpa using h3)
    · exact ruint64_2 _ _ _ _ w (by simpa using h1) (by simpa using h2)
  · exact ruint64_1 _ _ _ _ w (by simpa using h1)

end Go.Proofs.Ytlaapbenpjopiaa

