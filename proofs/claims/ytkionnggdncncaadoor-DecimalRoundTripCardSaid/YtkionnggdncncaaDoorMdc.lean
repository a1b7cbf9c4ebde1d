/- Contracts of muldiv's subtractMultiple and addWide over this translation: the difference modulo 2^320 and whether it is negative; the sum modulo 2^320 and its carry. Memory that was there is as it was. -/
import Derived.Test.YtkionnggdncncaaDoorMdn
import Derived.Test.YtkionnggdncncaaDoorSh
namespace Go.Proofs.YtkionnggdncncaaDoor
open Go.RowKit

/-- 2^320. -/
def B320 : Nat := 2135987035920910082395021706169552114602704522356652769947041607822219725780640550022962086936576
/-- A number of five words. -/
abbrev W5 (n : Nat) : Value := .agg #[.int .u64 (limb n 0), .int .u64 (limb n 1), .int .u64 (limb n 2), .int .u64 (limb n 3), .int .u64 (limb n 4)]
theorem limb4 (n : Nat) : limb n 4 = ((n / 115792089237316195423570985008687907853269984665640564039457584007913129639936 % 18446744073709551616 : Nat) : Int) := by simp [limb]
theorem limb_of5 {n : Nat} {x0 x1 x2 x3 x4 : Int} (a0 : 0 ≤ x0) (b0 : x0 < 18446744073709551616) (a1 : 0 ≤ x1) (b1 : x1 < 18446744073709551616) (a2 : 0 ≤ x2) (b2 : x2 < 18446744073709551616) (a3 : 0 ≤ x3) (b3 : x3 < 18446744073709551616) (a4 : 0 ≤ x4) (b4 : x4 < 18446744073709551616)
    (h : (n : Int) = x0 + 18446744073709551616 * x1 + 340282366920938463463374607431768211456 * x2 + 6277101735386680763835789423207666416102355444464034512896 * x3 + 115792089237316195423570985008687907853269984665640564039457584007913129639936 * x4) :
    x0 = limb n 0 ∧ x1 = limb n 1 ∧ x2 = limb n 2 ∧ x3 = limb n 3 ∧ x4 = limb n 4 := by
  rw [limb0, limb1, limb2, limb3, limb4]; omega
theorem W5_of {n : Nat} {x0 x1 x2 x3 x4 : Int} (h : x0 = limb n 0 ∧ x1 = limb n 1 ∧ x2 = limb n 2 ∧ x3 = limb n 3 ∧ x4 = limb n 4) : W5 n = .agg #[.int .u64 x0, .int .u64 x1, .int .u64 x2, .int .u64 x3, .int .u64 x4] := by
  obtain ⟨h0, h1, h2, h3, h4⟩ := h
  rw [W5, h0, h1, h2, h3, h4]
theorem limb_sum5 {n : Nat} (h : n < B320) : (n : Int) = limb n 0 + 18446744073709551616 * limb n 1 + 340282366920938463463374607431768211456 * limb n 2 + 6277101735386680763835789423207666416102355444464034512896 * limb n 3 + 115792089237316195423570985008687907853269984665640564039457584007913129639936 * limb n 4 := by
  rw [limb0, limb1, limb2, limb3, limb4]; unfold B320 at h; omega

set_option maxRecDepth 100000 in
set_option maxHeartbeats 2000000 in
theorem aw_core (x0 x1 x2 x3 x4 y0 y1 y2 y3 s0 s1 s2 s3 s4 c0 c1 c2 c3 c4 : Int) (w : World)
  (h0 : ∀ w, (callFunc 65 #[.int .u64 x0, .int .u64 y0, .int .u64 0]).run Tryd.prog w = .ok (.value (.tuple #[.int .u64 s0, .int .u64 c0])) w)
  (h1 : ∀ w, (callFunc 65 #[.int .u64 x1, .int .u64 y1, .int .u64 c0]).run Tryd.prog w = .ok (.value (.tuple #[.int .u64 s1, .int .u64 c1])) w)
  (h2 : ∀ w, (callFunc 65 #[.int .u64 x2, .int .u64 y2, .int .u64 c1]).run Tryd.prog w = .ok (.value (.tuple #[.int .u64 s2, .int .u64 c2])) w)
  (h3 : ∀ w, (callFunc 65 #[.int .u64 x3, .int .u64 y3, .int .u64 c2]).run Tryd.prog w = .ok (.value (.tuple #[.int .u64 s3, .int .u64 c3])) w)
  (h4 : ∀ w, (callFunc 65 #[.int .u64 x4, .int .u64 0, .int .u64 c3]).run Tryd.prog w = .ok (.value (.tuple #[.int .u64 s4, .int .u64 c4])) w) :
    Calls Tryd.prog 82 #[.agg #[.int .u64 x0, .int .u64 x1, .int .u64 x2, .int .u64 x3, .int .u64 x4], .agg #[.int .u64 y0, .int .u64 y1, .int .u64 y2, .int .u64 y3]] w fun e w' =>
      e = .returned (.tuple #[.agg #[.int .u64 s0, .int .u64 s1, .int .u64 s2, .int .u64 s3, .int .u64 s4], .bool (c4 != 0)]) ∧ Below w.heap.size w w' := by
  have i0 : ∀ (p q r s : Value) w, (Instr.index 24 (.agg #[p, q, r, s]) (.int .i64 0)).run Tryd.prog w = .ok p w := fun _ _ _ _ _ => by kernel_rfl
  have i1 : ∀ (p q r s : Value) w, (Instr.index 24 (.agg #[p, q, r, s]) (.int .i64 1)).run Tryd.prog w = .ok q w := fun _ _ _ _ _ => by kernel_rfl
  have i2 : ∀ (p q r s : Value) w, (Instr.index 24 (.agg #[p, q, r, s]) (.int .i64 2)).run Tryd.prog w = .ok r w := fun _ _ _ _ _ => by kernel_rfl
  have i3 : ∀ (p q r s : Value) w, (Instr.index 24 (.agg #[p, q, r, s]) (.int .i64 3)).run Tryd.prog w = .ok s w := fun _ _ _ _ _ => by kernel_rfl
  go_enter Tryd.func82, Tryd.ntmps82
  go_wp2
  refine wp_loop_rounds 5 ?_
  iterate 4 (rw [rounds_succ]; go_wp2)
  rw [rounds_succ]
  go_wp2
  refine bodyPost_ret (v := .tuple #[.agg #[.int .u64 s0, .int .u64 s1, .int .u64 s2, .int .u64 s3, .int .u64 s4], .bool (c4 != 0)]) (by simp [results, Tryd.results82, go_sem]) rfl ⟨rfl, ?_⟩
  go_grown

theorem aw_any (a b : Nat) (ha : a < B320) (hb : b < B256) (w : World) :
    Calls Tryd.prog 82 #[W5 a, U b] w fun e w' => e = .returned (.tuple #[W5 ((a + b) % B320), .bool (decide (B320 ≤ a + b))]) ∧ Below w.heap.size w w' := by
  have A := limb_sum5 ha
  have B := limb_sum hb
  obtain ⟨s0, c0, p0, q0, r0, t0, e0⟩ := split_add (limb a 0) (limb b 0) 0 (limb_nonneg _ _) (limb_lt _ _) (limb_nonneg _ _) (limb_lt _ _) (by omega) (by omega)
  obtain ⟨s1, c1, p1, q1, r1, t1, e1⟩ := split_add (limb a 1) (limb b 1) c0 (limb_nonneg _ _) (limb_lt _ _) (limb_nonneg _ _) (limb_lt _ _) r0 t0
  obtain ⟨s2, c2, p2, q2, r2, t2, e2⟩ := split_add (limb a 2) (limb b 2) c1 (limb_nonneg _ _) (limb_lt _ _) (limb_nonneg _ _) (limb_lt _ _) r1 t1
  obtain ⟨s3, c3, p3, q3, r3, t3, e3⟩ := split_add (limb a 3) (limb b 3) c2 (limb_nonneg _ _) (limb_lt _ _) (limb_nonneg _ _) (limb_lt _ _) r2 t2
  obtain ⟨s4, c4, p4, q4, r4, t4, e4⟩ := split_add (limb a 4) 0 c3 (limb_nonneg _ _) (limb_lt _ _) (by omega) (by omega) r3 t3
  have k0 := add64_run (limb_nonneg a 0) (limb_nonneg b 0) (by omega) (by omega) p0 q0 e0
  have k1 := add64_run (limb_nonneg a 1) (limb_nonneg b 1) r0 t0 p1 q1 e1
  have k2 := add64_run (limb_nonneg a 2) (limb_nonneg b 2) r1 t1 p2 q2 e2
  have k3 := add64_run (limb_nonneg a 3) (limb_nonneg b 3) r2 t2 p3 q3 e3
  have k4 := add64_run (limb_nonneg a 4) (by omega) r3 t3 p4 q4 e4
  have hcore := aw_core _ _ _ _ _ _ _ _ _ s0 s1 s2 s3 s4 c0 c1 c2 c3 c4 w k0 k1 k2 k3 k4
  have hh : c4 = 0 ∨ c4 = 1 := by omega
  unfold B320 at *
  rcases hh with rfl | rfl
  · have x := W5_of (limb_of5 (n := (a + b) % 2135987035920910082395021706169552114602704522356652769947041607822219725780640550022962086936576) p0 q0 p1 q1 p2 q2 p3 q3 p4 q4 (by omega))
    rw [decide_eq_false (by omega), x]
    exact hcore
  · have x := W5_of (limb_of5 (n := (a + b) % 2135987035920910082395021706169552114602704522356652769947041607822219725780640550022962086936576) p0 q0 p1 q1 p2 q2 p3 q3 p4 q4 (by omega))
    rw [decide_eq_true (by omega), x]
    exact hcore

/-! ### subtractMultiple -/
set_option maxRecDepth 100000 in
set_option maxHeartbeats 2000000 in
theorem sm_core (r0 r1 r2 r3 n c0 c1 c2 c3 q k1 k2 k3 k4 p0 p1 p2 p3 d0 d1 d2 d3 d4 b1 b2 b3 b4 b5 : Int) (w : World)
  (M0 : ∀ w, Calls Tryd.prog 78 #[.int .u64 c0, .int .u64 q, .int .u64 0, .int .u64 0] w fun e w' => e = .returned (.tuple #[.int .u64 k1, .int .u64 p0]) ∧ w = w')
  (M1 : ∀ w, Calls Tryd.prog 78 #[.int .u64 c1, .int .u64 q, .int .u64 k1, .int .u64 0] w fun e w' => e = .returned (.tuple #[.int .u64 k2, .int .u64 p1]) ∧ w = w')
  (M2 : ∀ w, Calls Tryd.prog 78 #[.int .u64 c2, .int .u64 q, .int .u64 k2, .int .u64 0] w fun e w' => e = .returned (.tuple #[.int .u64 k3, .int .u64 p2]) ∧ w = w')
  (M3 : ∀ w, Calls Tryd.prog 78 #[.int .u64 c3, .int .u64 q, .int .u64 k3, .int .u64 0] w fun e w' => e = .returned (.tuple #[.int .u64 k4, .int .u64 p3]) ∧ w = w')
  (h0 : ∀ w, (callFunc 88 #[.int .u64 n, .int .u64 p0, .int .u64 0]).run Tryd.prog w = .ok (.value (.tuple #[.int .u64 d0, .int .u64 b1])) w)
  (h1 : ∀ w, (callFunc 88 #[.int .u64 r0, .int .u64 p1, .int .u64 b1]).run Tryd.prog w = .ok (.value (.tuple #[.int .u64 d1, .int .u64 b2])) w)
  (h2 : ∀ w, (callFunc 88 #[.int .u64 r1, .int .u64 p2, .int .u64 b2]).run Tryd.prog w = .ok (.value (.tuple #[.int .u64 d2, .int .u64 b3])) w)
  (h3 : ∀ w, (callFunc 88 #[.int .u64 r2, .int .u64 p3, .int .u64 b3]).run Tryd.prog w = .ok (.value (.tuple #[.int .u64 d3, .int .u64 b4])) w)
  (h4 : ∀ w, (callFunc 88 #[.int .u64 r3, .int .u64 k4, .int .u64 b4]).run Tryd.prog w = .ok (.value (.tuple #[.int .u64 d4, .int .u64 b5])) w) :
    Calls Tryd.prog 81 #[.agg #[.int .u64 r0, .int .u64 r1, .int .u64 r2, .int .u64 r3], .int .u64 n, .agg #[.int .u64 c0, .int .u64 c1, .int .u64 c2, .int .u64 c3], .int .u64 q] w fun e w' =>
      e = .returned (.tuple #[.agg #[.int .u64 d0, .int .u64 d1, .int .u64 d2, .int .u64 d3, .int .u64 d4], .bool (b5 != 0)]) ∧ Below w.heap.size w w' := by
  have i0 : ∀ (p q r s : Value) w, (Instr.index 24 (.agg #[p, q, r, s]) (.int .i64 0)).run Tryd.prog w = .ok p w := fun _ _ _ _ _ => by kernel_rfl
  have i1 : ∀ (p q r s : Value) w, (Instr.index 24 (.agg #[p, q, r, s]) (.int .i64 1)).run Tryd.prog w = .ok q w := fun _ _ _ _ _ => by kernel_rfl
  have i2 : ∀ (p q r s : Value) w, (Instr.index 24 (.agg #[p, q, r, s]) (.int .i64 2)).run Tryd.prog w = .ok r w := fun _ _ _ _ _ => by kernel_rfl
  have i3 : ∀ (p q r s : Value) w, (Instr.index 24 (.agg #[p, q, r, s]) (.int .i64 3)).run Tryd.prog w = .ok s w := fun _ _ _ _ _ => by kernel_rfl
  have H0 := Lib.hid M0
  have H1 := Lib.hid M1
  have H2 := Lib.hid M2
  have H3 := Lib.hid M3
  clear M0 M1 M2 M3
  go_enter Tryd.func81, Tryd.ntmps81
  go_wp2
  refine wp_loop_rounds 5 ?_
  rw [rounds_succ]
  go_wp2_with (go_at_call 78; refine (H0.out _).mono ?_; rintro e w2 ⟨rfl, rfl⟩)
  rw [rounds_succ]
  go_wp2_with (go_at_call 78; refine (H1.out _).mono ?_; rintro e w2 ⟨rfl, rfl⟩)
  rw [rounds_succ]
  go_wp2_with (go_at_call 78; refine (H2.out _).mono ?_; rintro e w2 ⟨rfl, rfl⟩)
  rw [rounds_succ]
  go_wp2_with (go_at_call 78; refine (H3.out _).mono ?_; rintro e w2 ⟨rfl, rfl⟩)
  rw [rounds_succ]
  go_wp2
  refine bodyPost_ret (v := .tuple #[.agg #[.int .u64 d0, .int .u64 d1, .int .u64 d2, .int .u64 d3, .int .u64 d4], .bool (b5 != 0)]) (by simp [results, Tryd.results81, go_sem]) rfl ⟨rfl, ?_⟩
  go_grown

/-- One product: what is carried over and what stays. -/
theorem mad_split (x y m : Int) (hx : 0 ≤ x) (hx' : x < 18446744073709551616) (hy : 0 ≤ y) (hy' : y < 18446744073709551616) (hm : 0 ≤ m) (hm' : m < 18446744073709551616) :
    ∃ h l : Int, 0 ≤ h ∧ h < 18446744073709551616 ∧ 0 ≤ l ∧ l < 18446744073709551616 ∧ x * y + m = l + 18446744073709551616 * h ∧
      ∀ w, Calls Tryd.prog 78 #[.int .u64 x, .int .u64 y, .int .u64 m, .int .u64 0] w fun e w' => e = .returned (.tuple #[.int .u64 h, .int .u64 l]) ∧ w = w' := by
  obtain ⟨x, rfl⟩ := Int.eq_ofNat_of_zero_le hx
  obtain ⟨y, rfl⟩ := Int.eq_ofNat_of_zero_le hy
  obtain ⟨m, rfl⟩ := Int.eq_ofNat_of_zero_le hm
  have hxy : x * y ≤ 18446744073709551615 * 18446744073709551615 := Nat.mul_le_mul (by omega) (by omega)
  refine ⟨(((x * y + m + 0) / 18446744073709551616 : Nat) : Int), (((x * y + m + 0) % 18446744073709551616 : Nat) : Int), ?_, ?_, ?_, ?_, ?_, fun w => mad_any x y m 0 (by omega) (by omega) (by omega) (by omega) w⟩
  all_goals (try rw [← Int.natCast_mul]) <;> (generalize x * y = z at *; omega)

theorem prod4 (c0 c1 c2 c3 q : Int) : (c0 + 18446744073709551616 * c1 + 340282366920938463463374607431768211456 * c2 + 6277101735386680763835789423207666416102355444464034512896 * c3) * q = c0 * q + 18446744073709551616 * (c1 * q) + 340282366920938463463374607431768211456 * (c2 * q) + 6277101735386680763835789423207666416102355444464034512896 * (c3 * q) := by
  rw [Int.add_mul, Int.add_mul, Int.add_mul, Int.mul_assoc, Int.mul_assoc, Int.mul_assoc]

/-- The difference modulo 2^320, and whether it is negative. -/
def subW (n m : Nat) : Nat := if n < m then n + B320 - m else n - m

theorem sm_any (r n c q : Nat) (hr : r < B256) (hn : n < 18446744073709551616) (hc : c < B256) (hq : q < 18446744073709551616) (w : World) :
    Calls Tryd.prog 81 #[U r, .int .u64 (n : Int), U c, .int .u64 (q : Int)] w fun e w' =>
      e = .returned (.tuple #[W5 (subW (r * 18446744073709551616 + n) (c * q)), .bool (decide (r * 18446744073709551616 + n < c * q))]) ∧ Below w.heap.size w w' := by
  have A := limb_sum hr
  have C := limb_sum hc
  have q0 : (0 : Int) ≤ q := by omega
  have q1 : (q : Int) < 18446744073709551616 := by omega
  obtain ⟨k1, p0, f0, g0, m0, n0, e0, M0⟩ := mad_split (limb c 0) q 0 (limb_nonneg _ _) (limb_lt _ _) q0 q1 (by omega) (by omega)
  obtain ⟨k2, p1, f1, g1, m1, n1, e1, M1⟩ := mad_split (limb c 1) q k1 (limb_nonneg _ _) (limb_lt _ _) q0 q1 f0 g0
  obtain ⟨k3, p2, f2, g2, m2, n2, e2, M2⟩ := mad_split (limb c 2) q k2 (limb_nonneg _ _) (limb_lt _ _) q0 q1 f1 g1
  obtain ⟨k4, p3, f3, g3, m3, n3, e3, M3⟩ := mad_split (limb c 3) q k3 (limb_nonneg _ _) (limb_lt _ _) q0 q1 f2 g2
  obtain ⟨d0, b1, u0, v0, x0, y0, z0⟩ := split_sub (n : Int) p0 0 (by omega) (by omega) m0 n0 (by omega) (by omega)
  obtain ⟨d1, b2, u1, v1, x1, y1, z1⟩ := split_sub (limb r 0) p1 b1 (limb_nonneg _ _) (limb_lt _ _) m1 n1 x0 y0
  obtain ⟨d2, b3, u2, v2, x2, y2, z2⟩ := split_sub (limb r 1) p2 b2 (limb_nonneg _ _) (limb_lt _ _) m2 n2 x1 y1
  obtain ⟨d3, b4, u3, v3, x3, y3, z3⟩ := split_sub (limb r 2) p3 b3 (limb_nonneg _ _) (limb_lt _ _) m3 n3 x2 y2
  obtain ⟨d4, b5, u4, v4, x4, y4, z4⟩ := split_sub (limb r 3) k4 b4 (limb_nonneg _ _) (limb_lt _ _) f3 g3 x3 y3
  have s0 := sub64_run (by omega) (by omega) m0 n0 (by omega) (by omega) u0 v0 z0
  have s1 := sub64_run (limb_nonneg r 0) (limb_lt r 0) m1 n1 x0 y0 u1 v1 z1
  have s2 := sub64_run (limb_nonneg r 1) (limb_lt r 1) m2 n2 x1 y1 u2 v2 z2
  have s3 := sub64_run (limb_nonneg r 2) (limb_lt r 2) m3 n3 x2 y2 u3 v3 z3
  have s4 := sub64_run (limb_nonneg r 3) (limb_lt r 3) f3 g3 x3 y3 u4 v4 z4
  have hcore := sm_core _ _ _ _ _ _ _ _ _ _ k1 k2 k3 k4 p0 p1 p2 p3 d0 d1 d2 d3 d4 b1 b2 b3 b4 b5 w M0 M1 M2 M3 s0 s1 s2 s3 s4
  have P := prod4 (limb c 0) (limb c 1) (limb c 2) (limb c 3) q
  rw [← C, ← Int.natCast_mul] at P
  clear M0 M1 M2 M3 s0 s1 s2 s3 s4
  have hh : b5 = 0 ∨ b5 = 1 := by omega
  unfold subW B320
  generalize c * q = z at *
  generalize limb c 0 * (q : Int) = w0 at *
  generalize limb c 1 * (q : Int) = w1 at *
  generalize limb c 2 * (q : Int) = w2 at *
  generalize limb c 3 * (q : Int) = w3 at *
  rcases hh with rfl | rfl
  · have hlt : ¬ r * 18446744073709551616 + n < z := by omega
    rw [if_neg hlt, decide_eq_false hlt]
    have x := W5_of (limb_of5 (n := r * 18446744073709551616 + n - z) u0 v0 u1 v1 u2 v2 u3 v3 u4 v4 (by omega))
    rw [x]
    exact hcore
  · have hlt : r * 18446744073709551616 + n < z := by omega
    rw [if_pos hlt, decide_eq_true hlt]
    have x := W5_of (limb_of5 (n := r * 18446744073709551616 + n + 2135987035920910082395021706169552114602704522356652769947041607822219725780640550022962086936576 - z) u0 v0 u1 v1 u2 v2 u3 v3 u4 v4 (by omega))
    rw [x]
    exact hcore

end Go.Proofs.YtkionnggdncncaaDoor

