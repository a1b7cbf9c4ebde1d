/- Contracts of limbs.Product and uint256.Mul over this translation: both halves of the exact product; the product, or zero and ErrOverflow. Memory that was there is as it was. -/
import Derived.Test.YtkionnggdncncaaDoorSh
import Derived.Laws.Cover3
import Derived.Lib.Hide
namespace Go.Proofs.YtkionnggdncncaaDoor
open Go.RowKit

/-- A word. -/
def W64 (x : Int) : Prop := 0 ≤ x ∧ x < 18446744073709551616

theorem mad_ex (x y m n : Int) (hx : W64 x) (hy : W64 y) (hm : W64 m) (hn : W64 n) (w : World) :
    Calls Tryd.prog 78 #[.int .u64 x, .int .u64 y, .int .u64 m, .int .u64 n] w fun e w' =>
      ∃ h l : Int, Hid (x * y + m + n = l + 18446744073709551616 * h) ∧ W64 h ∧ W64 l ∧ e = .returned (.tuple #[.int .u64 h, .int .u64 l]) ∧ w = w' := by
  obtain ⟨x, rfl⟩ := Int.eq_ofNat_of_zero_le hx.1
  obtain ⟨y, rfl⟩ := Int.eq_ofNat_of_zero_le hy.1
  obtain ⟨m, rfl⟩ := Int.eq_ofNat_of_zero_le hm.1
  obtain ⟨n, rfl⟩ := Int.eq_ofNat_of_zero_le hn.1
  have h1 := hx.2; have h2 := hy.2; have h3 := hm.2; have h4 := hn.2
  have hxy : x * y ≤ 18446744073709551615 * 18446744073709551615 := Nat.mul_le_mul (by omega) (by omega)
  refine (mad_any x y m n (by omega) (by omega) (by omega) (by omega) w).mono fun e w' h => ⟨_, _, ?_, ⟨?_, ?_⟩, ⟨?_, ?_⟩, h.1, h.2⟩
  · show _ = _
    rw [← Int.natCast_mul]; generalize x * y = z at *; omega
  all_goals (generalize x * y = z at *; omega)

set_option maxRecDepth 100000 in
set_option maxHeartbeats 2000000 in
theorem full_core (x0 x1 x2 x3 y0 y1 y2 y3 : Int) (w : World) (a0 : W64 x0) (a1 : W64 x1) (a2 : W64 x2) (a3 : W64 x3) (b0 : W64 y0) (b1 : W64 y1) (b2 : W64 y2) (b3 : W64 y3) :
    Calls Tryd.prog 64 #[.agg #[.int .u64 x0, .int .u64 x1, .int .u64 x2, .int .u64 x3], .agg #[.int .u64 y0, .int .u64 y1, .int .u64 y2, .int .u64 y3]] w fun e w' =>
      ∃ t0 t1 t2 t3 t4 t5 t6 t7 : Int, W64 t0 ∧ W64 t1 ∧ W64 t2 ∧ W64 t3 ∧ W64 t4 ∧ W64 t5 ∧ W64 t6 ∧ W64 t7 ∧ Hid ((x0 + 18446744073709551616 * x1 + 340282366920938463463374607431768211456 * x2 + 6277101735386680763835789423207666416102355444464034512896 * x3) * (y0 + 18446744073709551616 * y1 + 340282366920938463463374607431768211456 * y2 + 6277101735386680763835789423207666416102355444464034512896 * y3) = (t0 + 18446744073709551616 * t1 + 340282366920938463463374607431768211456 * t2 + 6277101735386680763835789423207666416102355444464034512896 * t3) + 115792089237316195423570985008687907853269984665640564039457584007913129639936 * (t4 + 18446744073709551616 * t5 + 340282366920938463463374607431768211456 * t6 + 6277101735386680763835789423207666416102355444464034512896 * t7)) ∧
      e = .returned (.tuple #[.agg #[.int .u64 t0, .int .u64 t1, .int .u64 t2, .int .u64 t3], .agg #[.int .u64 t4, .int .u64 t5, .int .u64 t6, .int .u64 t7]]) ∧ Below w.heap.size w w' := by
  have zz : W64 0 := ⟨by omega, by omega⟩
  have i0 : ∀ (p q r s : Value) w, (Instr.index 24 (.agg #[p, q, r, s]) (.int .i64 0)).run Tryd.prog w = .ok p w := fun _ _ _ _ _ => by kernel_rfl
  have i1 : ∀ (p q r s : Value) w, (Instr.index 24 (.agg #[p, q, r, s]) (.int .i64 1)).run Tryd.prog w = .ok q w := fun _ _ _ _ _ => by kernel_rfl
  have i2 : ∀ (p q r s : Value) w, (Instr.index 24 (.agg #[p, q, r, s]) (.int .i64 2)).run Tryd.prog w = .ok r w := fun _ _ _ _ _ => by kernel_rfl
  have i3 : ∀ (p q r s : Value) w, (Instr.index 24 (.agg #[p, q, r, s]) (.int .i64 3)).run Tryd.prog w = .ok s w := fun _ _ _ _ _ => by kernel_rfl
  have ar : ∀ (a : Option Addr) (c : Nat) (w : World), (Instr.arrayAt 24 (.slice a 4 c)).run Tryd.prog w = .ok (.pointer a) w := fun a c w => run_arrayAt w 24 22 4 a 4 c Tryd.underlying24 (by omega)
  go_enter Tryd.func64, Tryd.ntmps64
  go_wp2
  refine wp_loop_rounds 5 ?_
  rw [rounds_succ]
  go_wp2
  refine wp_loop_rounds 5 ?_
  rw [rounds_succ]
  go_wp2_with (go_at_call 78; refine (mad_ex _ _ _ _ (by assumption) (by assumption) (by assumption) (by assumption) _).mono ?_; rintro e w2 ⟨h00, l00, E00, p00, q00, rfl, rfl⟩)
  rw [rounds_succ]
  go_wp2_with (go_at_call 78; refine (mad_ex _ _ _ _ (by assumption) (by assumption) (by assumption) (by assumption) _).mono ?_; rintro e w2 ⟨h01, l01, E01, p01, q01, rfl, rfl⟩)
  rw [rounds_succ]
  go_wp2_with (go_at_call 78; refine (mad_ex _ _ _ _ (by assumption) (by assumption) (by assumption) (by assumption) _).mono ?_; rintro e w2 ⟨h02, l02, E02, p02, q02, rfl, rfl⟩)
  rw [rounds_succ]
  go_wp2_with (go_at_call 78; refine (mad_ex _ _ _ _ (by assumption) (by assumption) (by assumption) (by assumption) _).mono ?_; rintro e w2 ⟨h03, l03, E03, p03, q03, rfl, rfl⟩)
  rw [rounds_succ]
  go_wp2
  rw [rounds_succ]
  go_wp2
  refine wp_loop_rounds 5 ?_
  rw [rounds_succ]
  go_wp2_with (go_at_call 78; refine (mad_ex _ _ _ _ (by assumption) (by assumption) (by assumption) (by assumption) _).mono ?_; rintro e w2 ⟨h10, l10, E10, p10, q10, rfl, rfl⟩)
  rw [rounds_succ]
  go_wp2_with (go_at_call 78; refine (mad_ex _ _ _ _ (by assumption) (by assumption) (by assumption) (by assumption) _).mono ?_; rintro e w2 ⟨h11, l11, E11, p11, q11, rfl, rfl⟩)
  rw [rounds_succ]
  go_wp2_with (go_at_call 78; refine (mad_ex _ _ _ _ (by assumption) (by assumption) (by assumption) (by assumption) _).mono ?_; rintro e w2 ⟨h12, l12, E12, p12, q12, rfl, rfl⟩)
  rw [rounds_succ]
  go_wp2_with (go_at_call 78; refine (mad_ex _ _ _ _ (by assumption) (by assumption) (by assumption) (by assumption) _).mono ?_; rintro e w2 ⟨h13, l13, E13, p13, q13, rfl, rfl⟩)
  rw [rounds_succ]
  go_wp2
  rw [rounds_succ]
  go_wp2
  refine wp_loop_rounds 5 ?_
  rw [rounds_succ]
  go_wp2_with (go_at_call 78; refine (mad_ex _ _ _ _ (by assumption) (by assumption) (by assumption) (by assumption) _).mono ?_; rintro e w2 ⟨h20, l20, E20, p20, q20, rfl, rfl⟩)
  rw [rounds_succ]
  go_wp2_with (go_at_call 78; refine (mad_ex _ _ _ _ (by assumption) (by assumption) (by assumption) (by assumption) _).mono ?_; rintro e w2 ⟨h21, l21, E21, p21, q21, rfl, rfl⟩)
  rw [rounds_succ]
  go_wp2_with (go_at_call 78; refine (mad_ex _ _ _ _ (by assumption) (by assumption) (by assumption) (by assumption) _).mono ?_; rintro e w2 ⟨h22, l22, E22, p22, q22, rfl, rfl⟩)
  rw [rounds_succ]
  go_wp2_with (go_at_call 78; refine (mad_ex _ _ _ _ (by assumption) (by assumption) (by assumption) (by assumption) _).mono ?_; rintro e w2 ⟨h23, l23, E23, p23, q23, rfl, rfl⟩)
  rw [rounds_succ]
  go_wp2
  rw [rounds_succ]
  go_wp2
  refine wp_loop_rounds 5 ?_
  rw [rounds_succ]
  go_wp2_with (go_at_call 78; refine (mad_ex _ _ _ _ (by assumption) (by assumption) (by assumption) (by assumption) _).mono ?_; rintro e w2 ⟨h30, l30, E30, p30, q30, rfl, rfl⟩)
  rw [rounds_succ]
  go_wp2_with (go_at_call 78; refine (mad_ex _ _ _ _ (by assumption) (by assumption) (by assumption) (by assumption) _).mono ?_; rintro e w2 ⟨h31, l31, E31, p31, q31, rfl, rfl⟩)
  rw [rounds_succ]
  go_wp2_with (go_at_call 78; refine (mad_ex _ _ _ _ (by assumption) (by assumption) (by assumption) (by assumption) _).mono ?_; rintro e w2 ⟨h32, l32, E32, p32, q32, rfl, rfl⟩)
  rw [rounds_succ]
  go_wp2_with (go_at_call 78; refine (mad_ex _ _ _ _ (by assumption) (by assumption) (by assumption) (by assumption) _).mono ?_; rintro e w2 ⟨h33, l33, E33, p33, q33, rfl, rfl⟩)
  rw [rounds_succ]
  go_wp2
  rw [rounds_succ]
  go_wp2
  go_region
  go_wp2
  refine bodyPost_ret (v := .tuple #[.agg #[.int .u64 l00, .int .u64 l10, .int .u64 l20, .int .u64 l30], .agg #[.int .u64 l31, .int .u64 l32, .int .u64 l33, .int .u64 h33]]) (by simp [results, Tryd.results64, go_sem]) rfl ⟨l00, l10, l20, l30, l31, l32, l33, h33, q00, q10, q20, q30, q31, q32, q33, p33, ?_, rfl, ?_⟩
  · exact mul4 x0 x1 x2 x3 y0 y1 y2 y3 h00 l00 h01 l01 h02 l02 h03 l03 h10 l10 h11 l11 h12 l12 h13 l13 h20 l20 h21 l21 h22 l22 h23 l23 h30 l30 h31 l31 h32 l32 h33 l33 E00.out E01.out E02.out E03.out E10.out E11.out E12.out E13.out E20.out E21.out E22.out E23.out E30.out E31.out E32.out E33.out
  · go_grown

theorem full_any (a b : Nat) (ha : a < B256) (hb : b < B256) (w : World) :
    Calls Tryd.prog 64 #[U a, U b] w fun e w' => e = .returned (.tuple #[U (a * b % B256), U (a * b / B256)]) ∧ Below w.heap.size w w' := by
  have A := limb_sum ha
  have B := limb_sum hb
  refine (full_core _ _ _ _ _ _ _ _ w ⟨limb_nonneg a 0, limb_lt a 0⟩ ⟨limb_nonneg a 1, limb_lt a 1⟩ ⟨limb_nonneg a 2, limb_lt a 2⟩ ⟨limb_nonneg a 3, limb_lt a 3⟩ ⟨limb_nonneg b 0, limb_lt b 0⟩ ⟨limb_nonneg b 1, limb_lt b 1⟩ ⟨limb_nonneg b 2, limb_lt b 2⟩ ⟨limb_nonneg b 3, limb_lt b 3⟩).mono ?_
  rintro e w' ⟨t0, t1, t2, t3, t4, t5, t6, t7, ⟨p0, q0⟩, ⟨p1, q1⟩, ⟨p2, q2⟩, ⟨p3, q3⟩, ⟨p4, q4⟩, ⟨p5, q5⟩, ⟨p6, q6⟩, ⟨p7, q7⟩, E, rfl, hw⟩
  have E' := E.out
  rw [← A, ← B, ← Int.natCast_mul] at E'
  unfold B256
  obtain ⟨x0, x1, x2, x3⟩ := limb_of (n := a * b % 115792089237316195423570985008687907853269984665640564039457584007913129639936) p0 q0 p1 q1 p2 q2 p3 q3 (by generalize a * b = z at *; omega)
  obtain ⟨x4, x5, x6, x7⟩ := limb_of (n := a * b / 115792089237316195423570985008687907853269984665640564039457584007913129639936) p4 q4 p5 q5 p6 q6 p7 q7 (by generalize a * b = z at *; omega)
  refine ⟨?_, hw⟩
  rw [x0, x1, x2, x3, x4, x5, x6, x7]

theorem mul_ok (a b z : Nat) (w : World)
    (C : ∀ w, Calls Tryd.prog 64 #[U a, U b] w fun e w' => e = .returned (.tuple #[U z, .agg #[.int .u64 0, .int .u64 0, .int .u64 0, .int .u64 0]]) ∧ Below w.heap.size w w')
    (E : ∀ w, (Op.equalIn 10000 24 (.agg #[.int .u64 0, .int .u64 0, .int .u64 0, .int .u64 0]) (.agg #[.int .u64 0, .int .u64 0, .int .u64 0, .int .u64 0])).run Tryd.prog w = .ok true w) :
    Calls Tryd.prog 44 #[U a, U b] w fun e w' => e = .returned (.tuple #[U z, .int .i64 0]) ∧ Below w.heap.size w w' := by
  have HC := Lib.hid C
  clear C
  go_enter Tryd.func44, Tryd.ntmps44
  go_wp2_with (go_at_call 64; refine (HC.out _).mono ?_; rintro e w2 ⟨rfl, hw⟩; obtain ⟨hc, hm, hs⟩ := keepNew hw; simp only [World.size_alloc] at hc hm hs; have hs1 := Nat.lt_succ_of_lt hs; rw [Nat.succ_eq_add_one] at hs1)
  have hb0 : Below w.heap.size w w2 := Below.trans (by go_grown) (hw.mono (by simp; omega))
  refine bodyPost_ret (v := .tuple #[U z, .int .i64 0]) (by simp [results, Tryd.results44, go_sem, hs, hs1, hc]) rfl ⟨rfl, ?_⟩
  go_grown

theorem mul_over (a b z h : Nat) (w : World)
    (C : ∀ w, Calls Tryd.prog 64 #[U a, U b] w fun e w' => e = .returned (.tuple #[U z, U h]) ∧ Below w.heap.size w w')
    (E : ∀ w, (Op.equalIn 10000 24 (U h) (.agg #[.int .u64 0, .int .u64 0, .int .u64 0, .int .u64 0])).run Tryd.prog w = .ok false w) :
    Calls Tryd.prog 44 #[U a, U b] w fun e w' => e = .returned (.tuple #[.agg #[.int .u64 0, .int .u64 0, .int .u64 0, .int .u64 0], .int .i64 4]) ∧ Below w.heap.size w w' := by
  have HC := Lib.hid C
  clear C
  go_enter Tryd.func44, Tryd.ntmps44
  go_wp2_with (go_at_call 64; refine (HC.out _).mono ?_; rintro e w2 ⟨rfl, hw⟩; obtain ⟨hc, hm, hs⟩ := keepNew hw; simp only [World.size_alloc] at hc hm hs; have hs1 := Nat.lt_succ_of_lt hs; rw [Nat.succ_eq_add_one] at hs1)
  have hb0 : Below w.heap.size w w2 := Below.trans (by go_grown) (hw.mono (by simp; omega))
  refine bodyPost_ret (v := .tuple #[.agg #[.int .u64 0, .int .u64 0, .int .u64 0, .int .u64 0], .int .i64 4]) (by simp [results, Tryd.results44, go_sem, hs, hs1, hc]) rfl ⟨rfl, ?_⟩
  go_grown

theorem mul_any (a b : Nat) (ha : a < B256) (hb : b < B256) (w : World) :
    Calls Tryd.prog 44 #[U a, U b] w fun e w' => e = .returned (.tuple #[U (mulR a b), .int .i64 (mulE a b)]) ∧ Below w.heap.size w w' := by
  have C := full_any a b ha hb
  by_cases h : a * b < B256
  · rw [show mulR a b = a * b from if_pos h, show mulE a b = 0 from if_pos h]
    rw [Nat.mod_eq_of_lt h, Nat.div_eq_of_lt h, U_zero] at C
    exact mul_ok a b _ w C (fun w => eq4_run 0 0 0 0 0 0 0 0 w)
  · rw [show mulR a b = 0 from if_neg h, show mulE a b = 4 from if_neg h, U_zero]
    have h1 : a * b / B256 ≠ 0 := fun e => h (by rcases Nat.div_eq_zero_iff.1 e with h0 | h0; exact absurd h0 (Nat.ne_of_gt B256_pos); exact h0)
    have h2 : a * b / B256 < B256 := Nat.div_lt_of_lt_mul (Nat.mul_lt_mul'' ha hb)
    refine mul_over a b _ _ w C (fun w => ?_)
    rw [← U_zero, eqU_run _ _ h2 B256_pos, decide_eq_false h1]

end Go.Proofs.YtkionnggdncncaaDoor

