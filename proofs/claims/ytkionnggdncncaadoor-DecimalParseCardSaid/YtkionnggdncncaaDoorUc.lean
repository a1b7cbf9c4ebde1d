/- Contracts of uint256.BitLen, Uint64 and SaturatingSub over this translation: each call returns the number that the name says; memory that was there is as it was. -/
import Derived.Test.YtkionnggdncncaaDoorUb
import Derived.Test.YtkionnggdncncaaDoorSh
namespace Go.Proofs.YtkionnggdncncaaDoor
open Go.RowKit

set_option maxHeartbeats 400000 in
theorem bitlen_3 (x0 x1 x2 x3 : Int) (w : World)  (h3 : (x3 != 0) = true) (p : 0 ≤ x3) (q : x3 < 18446744073709551616) :
    Calls Tryd.prog 19 #[.agg #[.int .u64 x0, .int .u64 x1, .int .u64 x2, .int .u64 x3]] w fun e w' => e = .returned (.int .i64 (192 + (blen x3.toNat : Int))) ∧ Below w.heap.size w w' := by
  have b := blen_word x3 q
  have C := len64_any x3 p q
  have HC : Hid (∀ w, Calls Tryd.prog 38 #[.int .u64 x3] w fun e w' => e = .returned (.int .i64 (blen x3.toNat)) ∧ w = w') := C
  clear C q
  generalize blen x3.toNat = z at *
  go_enter Tryd.func19, Tryd.ntmps19
  go_wp2
  refine wp_loop_rounds 5 ?_
  iterate 1 (rw [rounds_succ]; go_wp2_with (go_at_call 38; refine (HC.out _).mono ?_; rintro e w2 ⟨rfl, rfl⟩))
  go_ret
  refine ⟨rfl, ?_⟩
  go_grown

set_option maxHeartbeats 400000 in
theorem bitlen_2 (x0 x1 x2 x3 : Int) (w : World) (h3 : (x3 != 0) = false) (h2 : (x2 != 0) = true) (p : 0 ≤ x2) (q : x2 < 18446744073709551616) :
    Calls Tryd.prog 19 #[.agg #[.int .u64 x0, .int .u64 x1, .int .u64 x2, .int .u64 x3]] w fun e w' => e = .returned (.int .i64 (128 + (blen x2.toNat : Int))) ∧ Below w.heap.size w w' := by
  have b := blen_word x2 q
  have C := len64_any x2 p q
  have HC : Hid (∀ w, Calls Tryd.prog 38 #[.int .u64 x2] w fun e w' => e = .returned (.int .i64 (blen x2.toNat)) ∧ w = w') := C
  clear C q
  generalize blen x2.toNat = z at *
  go_enter Tryd.func19, Tryd.ntmps19
  go_wp2
  refine wp_loop_rounds 5 ?_
  iterate 2 (rw [rounds_succ]; go_wp2_with (go_at_call 38; refine (HC.out _).mono ?_; rintro e w2 ⟨rfl, rfl⟩))
  go_ret
  refine ⟨rfl, ?_⟩
  go_grown

set_option maxHeartbeats 400000 in
theorem bitlen_1 (x0 x1 x2 x3 : Int) (w : World) (h3 : (x3 != 0) = false) (h2 : (x2 != 0) = false) (h1 : (x1 != 0) = true) (p : 0 ≤ x1) (q : x1 < 18446744073709551616) :
    Calls Tryd.prog 19 #[.agg #[.int .u64 x0, .int .u64 x1, .int .u64 x2, .int .u64 x3]] w fun e w' => e = .returned (.int .i64 (64 + (blen x1.toNat : Int))) ∧ Below w.heap.size w w' := by
  have b := blen_word x1 q
  have C := len64_any x1 p q
  have HC : Hid (∀ w, Calls Tryd.prog 38 #[.int .u64 x1] w fun e w' => e = .returned (.int .i64 (blen x1.toNat)) ∧ w = w') := C
  clear C q
  generalize blen x1.toNat = z at *
  go_enter Tryd.func19, Tryd.ntmps19
  go_wp2
  refine wp_loop_rounds 5 ?_
  iterate 3 (rw [rounds_succ]; go_wp2_with (go_at_call 38; refine (HC.out _).mono ?_; rintro e w2 ⟨rfl, rfl⟩))
  go_ret
  refine ⟨rfl, ?_⟩
  go_grown

set_option maxHeartbeats 400000 in
theorem bitlen_0 (x0 x1 x2 x3 : Int) (w : World) (h3 : (x3 != 0) = false) (h2 : (x2 != 0) = false) (h1 : (x1 != 0) = false) (h0 : (x0 != 0) = true) (p : 0 ≤ x0) (q : x0 < 18446744073709551616) :
    Calls Tryd.prog 19 #[.agg #[.int .u64 x0, .int .u64 x1, .int .u64 x2, .int .u64 x3]] w fun e w' => e = .returned (.int .i64 (blen x0.toNat : Int)) ∧ Below w.heap.size w w' := by
  have b := blen_word x0 q
  have C := len64_any x0 p q
  have HC : Hid (∀ w, Calls Tryd.prog 38 #[.int .u64 x0] w fun e w' => e = .returned (.int .i64 (blen x0.toNat)) ∧ w = w') := C
  clear C q
  generalize blen x0.toNat = z at *
  go_enter Tryd.func19, Tryd.ntmps19
  go_wp2
  refine wp_loop_rounds 5 ?_
  iterate 4 (rw [rounds_succ]; go_wp2_with (go_at_call 38; refine (HC.out _).mono ?_; rintro e w2 ⟨rfl, rfl⟩))
  go_ret
  refine ⟨rfl, ?_⟩
  go_grown

set_option maxHeartbeats 400000 in
theorem bitlen_z (w : World) :
    Calls Tryd.prog 19 #[.agg #[.int .u64 0, .int .u64 0, .int .u64 0, .int .u64 0]] w fun e w' => e = .returned (.int .i64 0) ∧ Below w.heap.size w w' := by
  go_enter Tryd.func19, Tryd.ntmps19
  go_wp2
  refine wp_loop_rounds 5 ?_
  iterate 5 (rw [rounds_succ]; go_wp2)
  go_ret
  refine ⟨rfl, ?_⟩
  go_grown

theorem bne_of {x : Int} (h : x ≠ 0) : (x != 0) = true := by simpa using h
theorem bne_of0 {x : Int} (h : x = 0) : (x != 0) = false := by simpa using h

theorem bitlen_any (a : Nat) (ha : a < B256) (w : World) :
    Calls Tryd.prog 19 #[U a] w fun e w' => e = .returned (.int .i64 (blen a)) ∧ Below w.heap.size w w' := by
  by_cases h3 : limb a 3 = 0
  · by_cases h2 : limb a 2 = 0
    · by_cases h1 : limb a 1 = 0
      · by_cases h0 : limb a 0 = 0
        · have A := limb_sum ha
          have e : a = 0 := by omega
          subst e
          rw [U_zero]; exact bitlen_z w
        · rw [blen_at0 ha h3 h2 h1]; exact bitlen_0 _ _ _ _ w (bne_of0 h3) (bne_of0 h2) (bne_of0 h1) (bne_of h0) (limb_nonneg _ _) (limb_lt _ _)
      · rw [blen_at1 ha h3 h2 h1, Int.natCast_add]; exact bitlen_1 _ _ _ _ w (bne_of0 h3) (bne_of0 h2) (bne_of h1) (limb_nonneg _ _) (limb_lt _ _)
    · rw [blen_at2 ha h3 h2, Int.natCast_add]; exact bitlen_2 _ _ _ _ w (bne_of0 h3) (bne_of h2) (limb_nonneg _ _) (limb_lt _ _)
  · rw [blen_at3 ha h3, Int.natCast_add]; exact bitlen_3 _ _ _ _ w (bne_of h3) (limb_nonneg _ _) (limb_lt _ _)

end Go.Proofs.YtkionnggdncncaaDoor

