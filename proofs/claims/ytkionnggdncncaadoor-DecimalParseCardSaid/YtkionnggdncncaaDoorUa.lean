/- Contracts of uint256.Add and uint256.Sub over this translation: the sum or the difference, or zero and ErrOverflow; memory that was there is as it was. -/
import Derived.Test.YtkionnggdncncaaDoorUh
namespace Go.Proofs.YtkionnggdncncaaDoor
open Go.RowKit

theorem add64_run {x y c s d : Int} (hx : 0 ≤ x) (hy : 0 ≤ y) (hc0 : 0 ≤ c) (hc : c ≤ 1) (hs : 0 ≤ s) (hs' : s < 18446744073709551616) (h : x + y + c = s + 18446744073709551616 * d) (w : World) :
    (callFunc 65 #[.int .u64 x, .int .u64 y, .int .u64 c]).run Tryd.prog w = .ok (.value (.tuple #[.int .u64 s, .int .u64 d])) w := by
  rw [run_callFunc_extern Tryd.func65 (by kernel_rfl) (by kernel_rfl) (by kernel_rfl) (e := add64Entry) (by kernel_rfl), run_add64 x y c hx hy hc0 hc]
  have e1 : (x + y + c) % 18446744073709551616 = s := by omega
  have e2 : (x + y + c) / 18446744073709551616 = d := by omega
  rw [e1, e2]; rfl

theorem sub64_run {x y c s d : Int} (hx : 0 ≤ x) (hx' : x < 18446744073709551616) (hy : 0 ≤ y) (hy' : y < 18446744073709551616) (hc0 : 0 ≤ c) (hc : c ≤ 1) (hs : 0 ≤ s) (hs' : s < 18446744073709551616)
    (h : x - y - c = s - 18446744073709551616 * d) (w : World) :
    (callFunc 88 #[.int .u64 x, .int .u64 y, .int .u64 c]).run Tryd.prog w = .ok (.value (.tuple #[.int .u64 s, .int .u64 d])) w := by
  obtain ⟨x, rfl⟩ := Int.eq_ofNat_of_zero_le hx
  obtain ⟨y, rfl⟩ := Int.eq_ofNat_of_zero_le hy
  obtain ⟨c, rfl⟩ := Int.eq_ofNat_of_zero_le hc0
  rw [run_callFunc_extern Tryd.func88 (by kernel_rfl) (by kernel_rfl) (by kernel_rfl) (e := sub64Entry) (by kernel_rfl), run_sub64 x y c (by omega)]
  have e1 : (((x + 18446744073709551616 - y - c) % 18446744073709551616 : Nat) : Int) = s := by omega
  have e2 : ((if x < y + c then 1 else 0 : Nat) : Int) = d := by split <;> omega
  rw [e1, e2]; rfl

theorem split_add (x y c : Int) (hx : 0 ≤ x) (hx' : x < 18446744073709551616) (hy : 0 ≤ y) (hy' : y < 18446744073709551616) (hc0 : 0 ≤ c) (hc : c ≤ 1) :
    ∃ s d : Int, 0 ≤ s ∧ s < 18446744073709551616 ∧ 0 ≤ d ∧ d ≤ 1 ∧ x + y + c = s + 18446744073709551616 * d :=
  ⟨(x + y + c) % 18446744073709551616, (x + y + c) / 18446744073709551616, by omega, by omega, by omega, by omega, by omega⟩
theorem split_sub (x y c : Int) (hx : 0 ≤ x) (hx' : x < 18446744073709551616) (hy : 0 ≤ y) (hy' : y < 18446744073709551616) (hc0 : 0 ≤ c) (hc : c ≤ 1) :
    ∃ s d : Int, 0 ≤ s ∧ s < 18446744073709551616 ∧ 0 ≤ d ∧ d ≤ 1 ∧ x - y - c = s - 18446744073709551616 * d :=
  ⟨(x - y - c) % 18446744073709551616, -((x - y - c) / 18446744073709551616), by omega, by omega, by omega, by omega, by omega⟩

/-! ### Add -/
set_option maxHeartbeats 400000 in
theorem add_ok (x0 x1 x2 x3 y0 y1 y2 y3 s0 s1 s2 s3 c0 c1 c2 c3 : Int) (w : World)
  (h0 : ∀ w, (callFunc 65 #[.int .u64 x0, .int .u64 y0, .int .u64 0]).run Tryd.prog w = .ok (.value (.tuple #[.int .u64 s0, .int .u64 c0])) w)
  (h1 : ∀ w, (callFunc 65 #[.int .u64 x1, .int .u64 y1, .int .u64 c0]).run Tryd.prog w = .ok (.value (.tuple #[.int .u64 s1, .int .u64 c1])) w)
  (h2 : ∀ w, (callFunc 65 #[.int .u64 x2, .int .u64 y2, .int .u64 c1]).run Tryd.prog w = .ok (.value (.tuple #[.int .u64 s2, .int .u64 c2])) w)
  (h3 : ∀ w, (callFunc 65 #[.int .u64 x3, .int .u64 y3, .int .u64 c2]).run Tryd.prog w = .ok (.value (.tuple #[.int .u64 s3, .int .u64 c3])) w)
  (hc : (c3 != 0) = false) :
    Calls Tryd.prog 45 #[.agg #[.int .u64 x0, .int .u64 x1, .int .u64 x2, .int .u64 x3], .agg #[.int .u64 y0, .int .u64 y1, .int .u64 y2, .int .u64 y3]] w fun e w' =>
      e = .returned (.tuple #[.agg #[.int .u64 s0, .int .u64 s1, .int .u64 s2, .int .u64 s3], .int .i64 0]) ∧ Below w.heap.size w w' := by
  go_enter Tryd.func45, Tryd.ntmps45
  go_wp2
  refine wp_loop_rounds 5 ?_
  iterate 4 (rw [rounds_succ]; go_wp2; go_region; go_wp2)
  rw [rounds_succ]
  go_wp2
  refine bodyPost_ret (v := .tuple #[.agg #[.int .u64 s0, .int .u64 s1, .int .u64 s2, .int .u64 s3], .int .i64 0]) (by simp [results, Tryd.results45, go_sem]) rfl ⟨rfl, ?_⟩
  go_grown

set_option maxHeartbeats 400000 in
theorem add_over (x0 x1 x2 x3 y0 y1 y2 y3 s0 s1 s2 s3 c0 c1 c2 c3 : Int) (w : World)
  (h0 : ∀ w, (callFunc 65 #[.int .u64 x0, .int .u64 y0, .int .u64 0]).run Tryd.prog w = .ok (.value (.tuple #[.int .u64 s0, .int .u64 c0])) w)
  (h1 : ∀ w, (callFunc 65 #[.int .u64 x1, .int .u64 y1, .int .u64 c0]).run Tryd.prog w = .ok (.value (.tuple #[.int .u64 s1, .int .u64 c1])) w)
  (h2 : ∀ w, (callFunc 65 #[.int .u64 x2, .int .u64 y2, .int .u64 c1]).run Tryd.prog w = .ok (.value (.tuple #[.int .u64 s2, .int .u64 c2])) w)
  (h3 : ∀ w, (callFunc 65 #[.int .u64 x3, .int .u64 y3, .int .u64 c2]).run Tryd.prog w = .ok (.value (.tuple #[.int .u64 s3, .int .u64 c3])) w)
  (hc : (c3 != 0) = true) :
    Calls Tryd.prog 45 #[.agg #[.int .u64 x0, .int .u64 x1, .int .u64 x2, .int .u64 x3], .agg #[.int .u64 y0, .int .u64 y1, .int .u64 y2, .int .u64 y3]] w fun e w' =>
      e = .returned (.tuple #[.agg #[.int .u64 0, .int .u64 0, .int .u64 0, .int .u64 0], .int .i64 4]) ∧ Below w.heap.size w w' := by
  go_enter Tryd.func45, Tryd.ntmps45
  go_wp2
  refine wp_loop_rounds 5 ?_
  iterate 4 (rw [rounds_succ]; go_wp2; go_region; go_wp2)
  rw [rounds_succ]
  go_wp2
  refine bodyPost_ret (v := .tuple #[.agg #[.int .u64 0, .int .u64 0, .int .u64 0, .int .u64 0], .int .i64 4]) (by simp [results, Tryd.results45, go_sem]) rfl ⟨rfl, ?_⟩
  go_grown

theorem add_any (a b : Nat) (ha : a < B256) (hb : b < B256) (w : World) :
    Calls Tryd.prog 45 #[U a, U b] w fun e w' => e = .returned (.tuple #[U (addR a b), .int .i64 (addE a b)]) ∧ Below w.heap.size w w' := by
  have A := limb_sum ha
  have B := limb_sum hb
  obtain ⟨s0, c0, p0, q0, r0, t0, e0⟩ := split_add (limb a 0) (limb b 0) 0 (limb_nonneg _ _) (limb_lt _ _) (limb_nonneg _ _) (limb_lt _ _) (by omega) (by omega)
  obtain ⟨s1, c1, p1, q1, r1, t1, e1⟩ := split_add (limb a 1) (limb b 1) c0 (limb_nonneg _ _) (limb_lt _ _) (limb_nonneg _ _) (limb_lt _ _) r0 t0
  obtain ⟨s2, c2, p2, q2, r2, t2, e2⟩ := split_add (limb a 2) (limb b 2) c1 (limb_nonneg _ _) (limb_lt _ _) (limb_nonneg _ _) (limb_lt _ _) r1 t1
  obtain ⟨s3, c3, p3, q3, r3, t3, e3⟩ := split_add (limb a 3) (limb b 3) c2 (limb_nonneg _ _) (limb_lt _ _) (limb_nonneg _ _) (limb_lt _ _) r2 t2
  have k0 := add64_run (limb_nonneg a 0) (limb_nonneg b 0) (by omega) (by omega) p0 q0 e0
  have k1 := add64_run (limb_nonneg a 1) (limb_nonneg b 1) r0 t0 p1 q1 e1
  have k2 := add64_run (limb_nonneg a 2) (limb_nonneg b 2) r1 t1 p2 q2 e2
  have k3 := add64_run (limb_nonneg a 3) (limb_nonneg b 3) r2 t2 p3 q3 e3
  have hh : c3 = 0 ∨ c3 = 1 := by omega
  rcases hh with rfl | rfl
  · have hlt : a + b < B256 := by unfold B256; omega
    have x1 : addR a b = a + b := if_pos hlt
    have x2 : addE a b = 0 := if_pos hlt
    rw [x1, x2]
    obtain ⟨y0, y1, y2, y3⟩ := limb_of (n := a + b) p0 q0 p1 q1 p2 q2 p3 q3 (by omega)
    have x3 : U (a + b) = .agg #[.int .u64 s0, .int .u64 s1, .int .u64 s2, .int .u64 s3] := by rw [y0, y1, y2, y3]
    rw [x3]
    exact add_ok _ _ _ _ _ _ _ _ _ _ _ _ _ _ _ _ w k0 k1 k2 k3 rfl
  · have hlt : ¬ a + b < B256 := by unfold B256; omega
    have x1 : addR a b = 0 := if_neg hlt
    have x2 : addE a b = 4 := if_neg hlt
    rw [x1, x2]
    rw [U_zero]
    exact add_over _ _ _ _ _ _ _ _ _ _ _ _ _ _ _ _ w k0 k1 k2 k3 rfl

/-! ### Sub -/
end Go.Proofs.YtkionnggdncncaaDoor

