/- Contracts of uint256.FromUint64, Cmp, BitLen, Uint64 and SaturatingSub over this translation: each call returns the number that the name says; memory that was there is as it was. -/
import Derived.Test.YtkionnggdncncaaDoorUa
namespace Go.Proofs.YtkionnggdncncaaDoor
open Go.RowKit

theorem u64_any (n : Nat) (hn : n < 18446744073709551616) (w : World) :
    Calls Tryd.prog 21 #[.int .u64 n] w fun e w' => e = .returned (U n) ∧ Below w.heap.size w w' := by
  have x3 : U n = .agg #[.int .u64 n, .int .u64 0, .int .u64 0, .int .u64 0] := by
    obtain ⟨y0, y1, y2, y3⟩ := limb_of (n := n) (x0 := n) (x1 := 0) (x2 := 0) (x3 := 0) (by omega) (by omega) (by omega) (by omega) (by omega) (by omega) (by omega) (by omega) (by omega)
    rw [U, ← y0, ← y1, ← y2, ← y3]
  rw [x3]
  go_enter Tryd.func21, Tryd.ntmps21
  go_wp2
  refine bodyPost_ret (v := .agg #[.int .u64 n, .int .u64 0, .int .u64 0, .int .u64 0]) (by simp [results, Tryd.results21, go_sem]) rfl ⟨rfl, ?_⟩
  go_grown

/-! ### Cmp -/
/-- The order of two words as cmp.Compare says it. -/
def cmpZ (x y : Int) : Int := if x < y then -1 else if y < x then 1 else 0

theorem compare_any (x y : Int) (w : World) :
    Calls Tryd.prog 37 #[.int .u64 x, .int .u64 y] w fun e w' => e = .returned (.int .i64 (cmpZ x y)) ∧ w = w' := by
  rcases Int.lt_trichotomy x y with h | rfl | h
  · have e : cmpZ x y = -1 := if_pos h
    rw [e]
    go_enter Tryd.func37, Tryd.ntmps37
    go_wp2
    go_ret
    exact ⟨rfl, rfl⟩
  · have e : cmpZ x x = 0 := by unfold cmpZ; rw [if_neg (by omega), if_neg (by omega)]
    rw [e]
    go_enter Tryd.func37, Tryd.ntmps37
    go_wp2
    go_ret
    exact ⟨rfl, rfl⟩
  · have e : cmpZ x y = 1 := by unfold cmpZ; rw [if_neg (by omega), if_pos h]
    have h' : ¬ x < y := by omega
    rw [e]
    go_enter Tryd.func37, Tryd.ntmps37
    go_wp2
    go_ret
    exact ⟨rfl, rfl⟩

set_option maxHeartbeats 400000 in
theorem cmp_at3 (x0 x1 x2 x3 y0 y1 y2 y3 : Int) (w : World)  (h3 : (cmpZ x3 y3 != 0) = true) :
    Calls Tryd.prog 18 #[.agg #[.int .u64 x0, .int .u64 x1, .int .u64 x2, .int .u64 x3], .agg #[.int .u64 y0, .int .u64 y1, .int .u64 y2, .int .u64 y3]] w fun e w' =>
      e = .returned (.int .i64 (cmpZ x3 y3)) ∧ Below w.heap.size w w' := by
  go_enter Tryd.func18, Tryd.ntmps18
  go_wp2
  refine wp_loop_rounds 5 ?_
  iterate 1 (rw [rounds_succ]; go_wp2; go_quiet ((go_at_call 37; first | with_reducible exact quietL (compare_any _ _ _) | with_reducible exact quietA (compare_any _ _ _))); go_wp2)
  go_ret
  refine ⟨rfl, belowN ?_⟩
  go_grown

set_option maxHeartbeats 400000 in
theorem cmp_at2 (x0 x1 x2 x3 y0 y1 y2 y3 : Int) (w : World) (h3 : (cmpZ x3 y3 != 0) = false) (h2 : (cmpZ x2 y2 != 0) = true) :
    Calls Tryd.prog 18 #[.agg #[.int .u64 x0, .int .u64 x1, .int .u64 x2, .int .u64 x3], .agg #[.int .u64 y0, .int .u64 y1, .int .u64 y2, .int .u64 y3]] w fun e w' =>
      e = .returned (.int .i64 (cmpZ x2 y2)) ∧ Below w.heap.size w w' := by
  go_enter Tryd.func18, Tryd.ntmps18
  go_wp2
  refine wp_loop_rounds 5 ?_
  iterate 2 (rw [rounds_succ]; go_wp2; go_quiet ((go_at_call 37; first | with_reducible exact quietL (compare_any _ _ _) | with_reducible exact quietA (compare_any _ _ _))); go_wp2)
  go_ret
  refine ⟨rfl, belowN ?_⟩
  go_grown

set_option maxHeartbeats 400000 in
theorem cmp_at1 (x0 x1 x2 x3 y0 y1 y2 y3 : Int) (w : World) (h3 : (cmpZ x3 y3 != 0) = false) (h2 : (cmpZ x2 y2 != 0) = false) (h1 : (cmpZ x1 y1 != 0) = true) :
    Calls Tryd.prog 18 #[.agg #[.int .u64 x0, .int .u64 x1, .int .u64 x2, .int .u64 x3], .agg #[.int .u64 y0, .int .u64 y1, .int .u64 y2, .int .u64 y3]] w fun e w' =>
      e = .returned (.int .i64 (cmpZ x1 y1)) ∧ Below w.heap.size w w' := by
  go_enter Tryd.func18, Tryd.ntmps18
  go_wp2
  refine wp_loop_rounds 5 ?_
  iterate 3 (rw [rounds_succ]; go_wp2; go_quiet ((go_at_call 37; first | with_reducible exact quietL (compare_any _ _ _) | with_reducible exact quietA (compare_any _ _ _))); go_wp2)
  go_ret
  refine ⟨rfl, belowN ?_⟩
  go_grown

set_option maxHeartbeats 400000 in
theorem cmp_at0 (x0 x1 x2 x3 y0 y1 y2 y3 : Int) (w : World) (h3 : (cmpZ x3 y3 != 0) = false) (h2 : (cmpZ x2 y2 != 0) = false) (h1 : (cmpZ x1 y1 != 0) = false) (h0 : (cmpZ x0 y0 != 0) = true) :
    Calls Tryd.prog 18 #[.agg #[.int .u64 x0, .int .u64 x1, .int .u64 x2, .int .u64 x3], .agg #[.int .u64 y0, .int .u64 y1, .int .u64 y2, .int .u64 y3]] w fun e w' =>
      e = .returned (.int .i64 (cmpZ x0 y0)) ∧ Below w.heap.size w w' := by
  go_enter Tryd.func18, Tryd.ntmps18
  go_wp2
  refine wp_loop_rounds 5 ?_
  iterate 4 (rw [rounds_succ]; go_wp2; go_quiet ((go_at_call 37; first | with_reducible exact quietL (compare_any _ _ _) | with_reducible exact quietA (compare_any _ _ _))); go_wp2)
  go_ret
  refine ⟨rfl, belowN ?_⟩
  go_grown

set_option maxHeartbeats 400000 in
theorem cmp_same (x0 x1 x2 x3 y0 y1 y2 y3 : Int) (w : World) (h3 : (cmpZ x3 y3 != 0) = false) (h2 : (cmpZ x2 y2 != 0) = false) (h1 : (cmpZ x1 y1 != 0) = false) (h0 : (cmpZ x0 y0 != 0) = false) :
    Calls Tryd.prog 18 #[.agg #[.int .u64 x0, .int .u64 x1, .int .u64 x2, .int .u64 x3], .agg #[.int .u64 y0, .int .u64 y1, .int .u64 y2, .int .u64 y3]] w fun e w' =>
      e = .returned (.int .i64 0) ∧ Below w.heap.size w w' := by
  go_enter Tryd.func18, Tryd.ntmps18
  go_wp2
  refine wp_loop_rounds 5 ?_
  iterate 4 (rw [rounds_succ]; go_wp2; go_quiet ((go_at_call 37; first | with_reducible exact quietL (compare_any _ _ _) | with_reducible exact quietA (compare_any _ _ _))); go_wp2)
  rw [rounds_succ]
  go_wp2
  go_ret
  refine ⟨rfl, belowN ?_⟩
  go_grown

theorem cmpZ_ne {x y : Int} (h : (cmpZ x y != 0) = true) : x ≠ y := by rintro rfl; unfold cmpZ at h; simp at h
theorem cmpZ_eq {x y : Int} (h : (cmpZ x y != 0) = false) : x = y := by
  unfold cmpZ at h; split at h
  · simp at h
  · split at h
    · simp at h
    · omega

theorem cmp_any (a b : Nat) (ha : a < B256) (hb : b < B256) (w : World) :
    Calls Tryd.prog 18 #[U a, U b] w fun e w' => e = .returned (.int .i64 (cmpI a b)) ∧ Below w.heap.size w w' := by
  have A := limb_sum ha
  have B := limb_sum hb
  have a0 := limb_nonneg a 0; have a1 := limb_nonneg a 1; have a2 := limb_nonneg a 2; have a3 := limb_nonneg a 3
  have b0 := limb_nonneg b 0; have b1 := limb_nonneg b 1; have b2 := limb_nonneg b 2; have b3 := limb_nonneg b 3
  have c0 := limb_lt a 0; have c1 := limb_lt a 1; have c2 := limb_lt a 2; have c3 := limb_lt a 3
  have d0 := limb_lt b 0; have d1 := limb_lt b 1; have d2 := limb_lt b 2; have d3 := limb_lt b 3
  cases h3 : (cmpZ (limb a 3) (limb b 3) != 0)
  case true =>
    have n3 := cmpZ_ne h3
    have r : cmpI a b = cmpZ (limb a 3) (limb b 3) := by unfold cmpI cmpZ; split <;> split <;> first | rfl | omega | (split <;> first | rfl | omega | (split <;> first | rfl | omega))
    rw [r]; exact cmp_at3 _ _ _ _ _ _ _ _ w h3
  have n3 := cmpZ_eq h3
  cases h2 : (cmpZ (limb a 2) (limb b 2) != 0)
  case true =>
    have n2 := cmpZ_ne h2
    have r : cmpI a b = cmpZ (limb a 2) (limb b 2) := by unfold cmpI cmpZ; split <;> split <;> first | rfl | omega | (split <;> first | rfl | omega | (split <;> first | rfl | omega))
    rw [r]; exact cmp_at2 _ _ _ _ _ _ _ _ w h3 h2
  have n2 := cmpZ_eq h2
  cases h1 : (cmpZ (limb a 1) (limb b 1) != 0)
  case true =>
    have n1 := cmpZ_ne h1
    have r : cmpI a b = cmpZ (limb a 1) (limb b 1) := by unfold cmpI cmpZ; split <;> split <;> first | rfl | omega | (split <;> first | rfl | omega | (split <;> first | rfl | omega))
    rw [r]; exact cmp_at1 _ _ _ _ _ _ _ _ w h3 h2 h1
  have n1 := cmpZ_eq h1
  cases h0 : (cmpZ (limb a 0) (limb b 0) != 0)
  case true =>
    have n0 := cmpZ_ne h0
    have r : cmpI a b = cmpZ (limb a 0) (limb b 0) := by unfold cmpI cmpZ; split <;> split <;> first | rfl | omega | (split <;> first | rfl | omega | (split <;> first | rfl | omega))
    rw [r]; exact cmp_at0 _ _ _ _ _ _ _ _ w h3 h2 h1 h0
  have n0 := cmpZ_eq h0
  have r : cmpI a b = 0 := by unfold cmpI; split <;> first | omega | (split <;> first | rfl | omega)
  rw [r]; exact cmp_same _ _ _ _ _ _ _ _ w h3 h2 h1 h0

end Go.Proofs.YtkionnggdncncaaDoor

