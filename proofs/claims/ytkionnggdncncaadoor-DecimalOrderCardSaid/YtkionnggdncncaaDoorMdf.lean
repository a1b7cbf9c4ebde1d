/- Contracts of muldiv.Div512 and DivMod over this translation: quotient and remainder, or zeros and ErrDivisionByZero or ErrOverflow. Memory that was there is as it was. -/
import Derived.Test.YtkionnggdncncaaDoorMde
import Derived.Test.YtkionnggdncncaaDoorUb
namespace Go.Proofs.YtkionnggdncncaaDoor
open Go.RowKit

theorem rk_lt {n d k : Nat} (h : 0 < d) : rk n d k < d := Nat.mod_lt _ h
theorem rk_step (n d k : Nat) (h : 0 < d) :
    (rk n d (k + 1) * 18446744073709551616 + word n k) / d = word (n / d) k ∧ (rk n d (k + 1) * 18446744073709551616 + word n k) % d = rk n d k := by
  have e : n / 18446744073709551616 ^ k = n / 18446744073709551616 ^ (k + 1) * 18446744073709551616 + word n k := by
    unfold word
    rw [Nat.pow_succ, ← Nat.div_div_eq_div_mul]
    generalize n / 18446744073709551616 ^ k = x
    omega
  have e2 : n / d / 18446744073709551616 ^ k = n / 18446744073709551616 ^ k / d := by rw [Nat.div_div_eq_div_mul, Nat.div_div_eq_div_mul, Nat.mul_comm]
  unfold rk
  rw [show word (n / d) k = n / d / 18446744073709551616 ^ k % 18446744073709551616 from rfl, e2, e]
  have hw := word_lt n k
  generalize word n k = x at *
  obtain ⟨A, hA⟩ : ∃ A, A = n / 18446744073709551616 ^ (k + 1) := ⟨_, rfl⟩
  rw [← hA]
  clear hA e e2
  have hd := Nat.div_add_mod A d
  obtain ⟨q, hq⟩ : ∃ q, q = A / d := ⟨_, rfl⟩
  obtain ⟨r, hr⟩ : ∃ r, r = A % d := ⟨_, rfl⟩
  rw [← hq, ← hr] at hd
  rw [← hr]
  have hrd : r < d := by rw [hr]; exact Nat.mod_lt _ h
  clear hq hr
  subst hd
  have f : (d * q + r) * 18446744073709551616 + x = r * 18446744073709551616 + x + d * (q * 18446744073709551616) := by
    rw [← Nat.mul_assoc]
    omega
  rw [f, Nat.add_mul_div_left _ _ h, Nat.add_mul_mod_self_left]
  have g : (r * 18446744073709551616 + x) / d < 18446744073709551616 := by
    rw [Nat.div_lt_iff_lt_mul h, Nat.mul_comm]
    have : (r + 1) * 18446744073709551616 ≤ d * 18446744073709551616 := Nat.mul_le_mul_right _ hrd
    omega
  refine ⟨?_, rfl⟩
  generalize (r * 18446744073709551616 + x) / d = y at *
  omega

theorem dvd_any (low high c : Nat) (hl : low < B256) (hh : high < c) (hc : c < B256) (w : World) :
    Calls Tryd.prog 50 #[U low, U high, U c] w fun e w' => e = .returned (.tuple #[U ((low + high * B256) / c), U ((low + high * B256) % c)]) ∧ Below w.heap.size w w' := by
  have hc0 : 0 < c := by omega
  have hb := blen_256 hc
  have hb0 := blen_pos (n := c) (by omega)
  have hb1 := blen_le (n := c) (by omega)
  have hb2 := blen_lt c
  obtain ⟨s, hs⟩ : ∃ s, s = 256 - blen c := ⟨_, rfl⟩
  have hp : 0 < 2 ^ s := Nat.pow_pos (by omega)
  have hD1 : 57896044618658097711785492504343953926634992332820282019728792003956564819968 ≤ c * 2 ^ s := by
    have h : 2 ^ (blen c - 1) * 2 ^ s ≤ c * 2 ^ s := Nat.mul_le_mul_right _ hb1
    rw [← Nat.pow_add, show blen c - 1 + s = 255 by omega] at h
    exact h
  have hD2 : c * 2 ^ s < B256 := by
    have h : c * 2 ^ s < 2 ^ blen c * 2 ^ s := Nat.mul_lt_mul_of_pos_right hb2 hp
    rw [← Nat.pow_add, show blen c + s = 256 by omega] at h
    exact h
  have hn : low + high * B256 < c * B256 := by
    have h : (high + 1) * B256 ≤ c * B256 := Nat.mul_le_mul_right _ hh
    rw [Nat.add_mul, Nat.one_mul] at h
    omega
  have hM : (low + high * B256) * 2 ^ s / B256 < c * 2 ^ s := by
    rw [Nat.div_lt_iff_lt_mul B256_pos]
    have h : (low + high * B256) * 2 ^ s < c * B256 * 2 ^ s := Nat.mul_lt_mul_of_pos_right hn hp
    rw [Nat.mul_right_comm] at h
    exact h
  have hQ : (low + high * B256) * 2 ^ s / (c * 2 ^ s) = (low + high * B256) / c := Nat.mul_div_mul_right _ _ hp
  have hR : (low + high * B256) * 2 ^ s % (c * 2 ^ s) = (low + high * B256) % c * 2 ^ s := Nat.mul_mod_mul_right _ _ _
  have hDp : 0 < c * 2 ^ s := Nat.lt_of_lt_of_le (by omega) hD1
  have hk0 : rk ((low + high * B256) * 2 ^ s) (c * 2 ^ s) 0 = (low + high * B256) % c * 2 ^ s := by
    unfold rk
    rw [Nat.pow_zero, Nat.div_one, hR]
  refine dvd_core low high c s (c * 2 ^ s) ((low + high * B256) * 2 ^ s) _ ((low + high * B256) / c) ((low + high * B256) % c) (by omega) rfl rfl rfl hl w ?_ ?_ ?_ ?_ ?_
  · show _ = (low + high * B256) * 2 ^ s / 18446744073709551616 ^ 4 % (c * 2 ^ s)
    rw [show (18446744073709551616 : Nat) ^ 4 = B256 from rfl, Nat.mod_eq_of_lt hM]
  · rw [hk0, Nat.mul_div_cancel _ hp]
  · exact Nat.lt_trans (rk_lt hDp) hD2
  · intro k w hk
    have h := dd_any (rk ((low + high * B256) * 2 ^ s) (c * 2 ^ s) (k + 1)) (word ((low + high * B256) * 2 ^ s) k) (c * 2 ^ s) (rk_lt hDp) hD2 hD1 (word_lt _ _) w
    obtain ⟨e1, e2⟩ := rk_step ((low + high * B256) * 2 ^ s) (c * 2 ^ s) k hDp
    rw [e1, e2, hQ] at h
    exact h
  · intro w
    have h := bitlen_any c hc w
    rw [show (256 - s : Nat) = blen c by omega]
    exact h

/-! ### Div512 -/
set_option maxHeartbeats 1000000 in
theorem d512_zero (low high c : Nat) (w : World)
    (E : ∀ w, (Op.equalIn 10000 24 (U c) (.agg #[.int .u64 0, .int .u64 0, .int .u64 0, .int .u64 0])).run Tryd.prog w = .ok true w) :
    Calls Tryd.prog 39 #[U low, U high, U c] w fun e w' => e = .returned (.tuple #[(.agg #[.int .u64 0, .int .u64 0, .int .u64 0, .int .u64 0]), (.agg #[.int .u64 0, .int .u64 0, .int .u64 0, .int .u64 0]), .int .i64 5]) ∧ Below w.heap.size w w' := by
  go_enter Tryd.func39, Tryd.ntmps39
  go_wp2
  refine bodyPost_ret (v := .tuple #[(.agg #[.int .u64 0, .int .u64 0, .int .u64 0, .int .u64 0]), (.agg #[.int .u64 0, .int .u64 0, .int .u64 0, .int .u64 0]), .int .i64 5]) (by simp [results, Tryd.results39, go_sem]) rfl ⟨rfl, ?_⟩
  go_grown

set_option maxHeartbeats 1000000 in
theorem d512_over (low high c : Nat) (v : Int) (w : World) (hv : 0 ≤ v)
    (E : ∀ w, (Op.equalIn 10000 24 (U c) (.agg #[.int .u64 0, .int .u64 0, .int .u64 0, .int .u64 0])).run Tryd.prog w = .ok false w)
    (cc : Hid (∀ w, Calls Tryd.prog 18 #[U high, U c] w fun e w' => e = .returned (.int .i64 v) ∧ Below w.heap.size w w')) :
    Calls Tryd.prog 39 #[U low, U high, U c] w fun e w' => e = .returned (.tuple #[(.agg #[.int .u64 0, .int .u64 0, .int .u64 0, .int .u64 0]), (.agg #[.int .u64 0, .int .u64 0, .int .u64 0, .int .u64 0]), .int .i64 4]) ∧ Below w.heap.size w w' := by
  have rL : Res (w.heap.size) 24 (arr low) (((((w.alloc (.cells (arr low) 24)).alloc (.cells (arr high) 24)).alloc (.cells (arr c) 24)).alloc (.cells #[.int .u64 0, .int .u64 0, .int .u64 0, .int .u64 0] 24)).alloc (.cells #[.int .u64 0, .int .u64 0, .int .u64 0, .int .u64 0] 24)) := by
    have h := (((((Res.new w 24 (arr low)).alloc (.cells (arr high) 24)).alloc (.cells (arr c) 24)).alloc (.cells #[.int .u64 0, .int .u64 0, .int .u64 0, .int .u64 0] 24)).alloc (.cells #[.int .u64 0, .int .u64 0, .int .u64 0, .int .u64 0] 24))
    exact h
  have rH : Res (w.heap.size + 1) 24 (arr high) (((((w.alloc (.cells (arr low) 24)).alloc (.cells (arr high) 24)).alloc (.cells (arr c) 24)).alloc (.cells #[.int .u64 0, .int .u64 0, .int .u64 0, .int .u64 0] 24)).alloc (.cells #[.int .u64 0, .int .u64 0, .int .u64 0, .int .u64 0] 24)) := by
    have h := ((((Res.new (w.alloc (.cells (arr low) 24)) 24 (arr high)).alloc (.cells (arr c) 24)).alloc (.cells #[.int .u64 0, .int .u64 0, .int .u64 0, .int .u64 0] 24)).alloc (.cells #[.int .u64 0, .int .u64 0, .int .u64 0, .int .u64 0] 24))
    simp only [World.size_alloc] at h
    exact h
  have rC : Res (w.heap.size + 1 + 1) 24 (arr c) (((((w.alloc (.cells (arr low) 24)).alloc (.cells (arr high) 24)).alloc (.cells (arr c) 24)).alloc (.cells #[.int .u64 0, .int .u64 0, .int .u64 0, .int .u64 0] 24)).alloc (.cells #[.int .u64 0, .int .u64 0, .int .u64 0, .int .u64 0] 24)) := by
    have h := (((Res.new ((w.alloc (.cells (arr low) 24)).alloc (.cells (arr high) 24)) 24 (arr c)).alloc (.cells #[.int .u64 0, .int .u64 0, .int .u64 0, .int .u64 0] 24)).alloc (.cells #[.int .u64 0, .int .u64 0, .int .u64 0, .int .u64 0] 24))
    simp only [World.size_alloc] at h
    exact h
  have rQ : Res (w.heap.size + 1 + 1 + 1) 24 #[.int .u64 0, .int .u64 0, .int .u64 0, .int .u64 0] (((((w.alloc (.cells (arr low) 24)).alloc (.cells (arr high) 24)).alloc (.cells (arr c) 24)).alloc (.cells #[.int .u64 0, .int .u64 0, .int .u64 0, .int .u64 0] 24)).alloc (.cells #[.int .u64 0, .int .u64 0, .int .u64 0, .int .u64 0] 24)) := by
    have h := ((Res.new (((w.alloc (.cells (arr low) 24)).alloc (.cells (arr high) 24)).alloc (.cells (arr c) 24)) 24 #[.int .u64 0, .int .u64 0, .int .u64 0, .int .u64 0]).alloc (.cells #[.int .u64 0, .int .u64 0, .int .u64 0, .int .u64 0] 24))
    simp only [World.size_alloc] at h
    exact h
  have rR : Res (w.heap.size + 1 + 1 + 1 + 1) 24 #[.int .u64 0, .int .u64 0, .int .u64 0, .int .u64 0] (((((w.alloc (.cells (arr low) 24)).alloc (.cells (arr high) 24)).alloc (.cells (arr c) 24)).alloc (.cells #[.int .u64 0, .int .u64 0, .int .u64 0, .int .u64 0] 24)).alloc (.cells #[.int .u64 0, .int .u64 0, .int .u64 0, .int .u64 0] 24)) := by
    have h := (Res.new ((((w.alloc (.cells (arr low) 24)).alloc (.cells (arr high) 24)).alloc (.cells (arr c) 24)).alloc (.cells #[.int .u64 0, .int .u64 0, .int .u64 0, .int .u64 0] 24)) 24 #[.int .u64 0, .int .u64 0, .int .u64 0, .int .u64 0])
    simp only [World.size_alloc] at h
    exact h
  have bb : Below w.heap.size w (((((w.alloc (.cells (arr low) 24)).alloc (.cells (arr high) 24)).alloc (.cells (arr c) 24)).alloc (.cells #[.int .u64 0, .int .u64 0, .int .u64 0, .int .u64 0] 24)).alloc (.cells #[.int .u64 0, .int .u64 0, .int .u64 0, .int .u64 0] 24)) := by go_grown
  go_enter Tryd.func39, Tryd.ntmps39
  go_wp2_with fail
  with_reducible refine (cc.out _).mono ?_
  rintro e w1 ⟨rfl, h1⟩
  replace rQ := rQ.keep h1
  replace rR := rR.keep h1
  replace bb := chain bb h1
  clear rL rH rC h1
  have zQ := rQ.cells; have mQ := rQ.marks; have lQ := rQ.lt
  have zR := rR.cells; have mR := rR.marks; have lR := rR.lt
  go_wp2
  refine bodyPost_ret (v := .tuple #[(.agg #[.int .u64 0, .int .u64 0, .int .u64 0, .int .u64 0]), (.agg #[.int .u64 0, .int .u64 0, .int .u64 0, .int .u64 0]), .int .i64 4]) (by simp [results, Tryd.results39, go_sem, zQ, zR]) rfl ⟨rfl, ?_⟩
  go_grown

set_option maxHeartbeats 1000000 in
theorem d512_ok (low high c q r : Nat) (v : Int) (w : World) (hv : v < 0)
    (E : ∀ w, (Op.equalIn 10000 24 (U c) (.agg #[.int .u64 0, .int .u64 0, .int .u64 0, .int .u64 0])).run Tryd.prog w = .ok false w)
    (cc : Hid (∀ w, Calls Tryd.prog 18 #[U high, U c] w fun e w' => e = .returned (.int .i64 v) ∧ Below w.heap.size w w'))
    (cd : Hid (∀ w, Calls Tryd.prog 50 #[U low, U high, U c] w fun e w' => e = .returned (.tuple #[U q, U r]) ∧ Below w.heap.size w w')) :
    Calls Tryd.prog 39 #[U low, U high, U c] w fun e w' => e = .returned (.tuple #[U q, U r, .int .i64 0]) ∧ Below w.heap.size w w' := by
  have hv' : decide (0 ≤ v) = false := decide_eq_false (by omega)
  have rL : Res (w.heap.size) 24 (arr low) (((((w.alloc (.cells (arr low) 24)).alloc (.cells (arr high) 24)).alloc (.cells (arr c) 24)).alloc (.cells #[.int .u64 0, .int .u64 0, .int .u64 0, .int .u64 0] 24)).alloc (.cells #[.int .u64 0, .int .u64 0, .int .u64 0, .int .u64 0] 24)) := by
    have h := (((((Res.new w 24 (arr low)).alloc (.cells (arr high) 24)).alloc (.cells (arr c) 24)).alloc (.cells #[.int .u64 0, .int .u64 0, .int .u64 0, .int .u64 0] 24)).alloc (.cells #[.int .u64 0, .int .u64 0, .int .u64 0, .int .u64 0] 24))
    exact h
  have rH : Res (w.heap.size + 1) 24 (arr high) (((((w.alloc (.cells (arr low) 24)).alloc (.cells (arr high) 24)).alloc (.cells (arr c) 24)).alloc (.cells #[.int .u64 0, .int .u64 0, .int .u64 0, .int .u64 0] 24)).alloc (.cells #[.int .u64 0, .int .u64 0, .int .u64 0, .int .u64 0] 24)) := by
    have h := ((((Res.new (w.alloc (.cells (arr low) 24)) 24 (arr high)).alloc (.cells (arr c) 24)).alloc (.cells #[.int .u64 0, .int .u64 0, .int .u64 0, .int .u64 0] 24)).alloc (.cells #[.int .u64 0, .int .u64 0, .int .u64 0, .int .u64 0] 24))
    simp only [World.size_alloc] at h
    exact h
  have rC : Res (w.heap.size + 1 + 1) 24 (arr c) (((((w.alloc (.cells (arr low) 24)).alloc (.cells (arr high) 24)).alloc (.cells (arr c) 24)).alloc (.cells #[.int .u64 0, .int .u64 0, .int .u64 0, .int .u64 0] 24)).alloc (.cells #[.int .u64 0, .int .u64 0, .int .u64 0, .int .u64 0] 24)) := by
    have h := (((Res.new ((w.alloc (.cells (arr low) 24)).alloc (.cells (arr high) 24)) 24 (arr c)).alloc (.cells #[.int .u64 0, .int .u64 0, .int .u64 0, .int .u64 0] 24)).alloc (.cells #[.int .u64 0, .int .u64 0, .int .u64 0, .int .u64 0] 24))
    simp only [World.size_alloc] at h
    exact h
  have rQ : Res (w.heap.size + 1 + 1 + 1) 24 #[.int .u64 0, .int .u64 0, .int .u64 0, .int .u64 0] (((((w.alloc (.cells (arr low) 24)).alloc (.cells (arr high) 24)).alloc (.cells (arr c) 24)).alloc (.cells #[.int .u64 0, .int .u64 0, .int .u64 0, .int .u64 0] 24)).alloc (.cells #[.int .u64 0, .int .u64 0, .int .u64 0, .int .u64 0] 24)) := by
    have h := ((Res.new (((w.alloc (.cells (arr low) 24)).alloc (.cells (arr high) 24)).alloc (.cells (arr c) 24)) 24 #[.int .u64 0, .int .u64 0, .int .u64 0, .int .u64 0]).alloc (.cells #[.int .u64 0, .int .u64 0, .int .u64 0, .int .u64 0] 24))
    simp only [World.size_alloc] at h
    exact h
  have rR : Res (w.heap.size + 1 + 1 + 1 + 1) 24 #[.int .u64 0, .int .u64 0, .int .u64 0, .int .u64 0] (((((w.alloc (.cells (arr low) 24)).alloc (.cells (arr high) 24)).alloc (.cells (arr c) 24)).alloc (.cells #[.int .u64 0, .int .u64 0, .int .u64 0, .int .u64 0] 24)).alloc (.cells #[.int .u64 0, .int .u64 0, .int .u64 0, .int .u64 0] 24)) := by
    have h := (Res.new ((((w.alloc (.cells (arr low) 24)).alloc (.cells (arr high) 24)).alloc (.cells (arr c) 24)).alloc (.cells #[.int .u64 0, .int .u64 0, .int .u64 0, .int .u64 0] 24)) 24 #[.int .u64 0, .int .u64 0, .int .u64 0, .int .u64 0])
    simp only [World.size_alloc] at h
    exact h
  have bb : Below w.heap.size w (((((w.alloc (.cells (arr low) 24)).alloc (.cells (arr high) 24)).alloc (.cells (arr c) 24)).alloc (.cells #[.int .u64 0, .int .u64 0, .int .u64 0, .int .u64 0] 24)).alloc (.cells #[.int .u64 0, .int .u64 0, .int .u64 0, .int .u64 0] 24)) := by go_grown
  go_enter Tryd.func39, Tryd.ntmps39
  go_wp2_with fail
  with_reducible refine (cc.out _).mono ?_
  rintro e w1 ⟨rfl, h1⟩
  replace rL := rL.keep h1
  replace rH := rH.keep h1
  replace rC := rC.keep h1
  replace rQ := rQ.keep h1
  replace rR := rR.keep h1
  replace bb := chain bb h1
  have zL := rL.cells; have lL := rL.lt
  have zH := rH.cells; have lH := rH.lt
  have zC := rC.cells; have lC := rC.lt
  clear hv
  go_wp2_with fail
  with_reducible refine (cd.out _).mono ?_
  rintro e w2 ⟨rfl, h2⟩
  clear zL lL zH lH zC lC rL rH rC
  have k1 := (rR.keep h2).lt
  replace rQ := ((rQ.keep h2).alloc (.cells (arr q) 24)).alloc (.cells (arr r) 24)
  replace rR := ((rR.keep h2).alloc (.cells (arr q) 24)).alloc (.cells (arr r) 24)
  have rX := (Res.new w2 24 (arr q)).alloc (.cells (arr r) 24)
  have rY := Res.new (w2.alloc (.cells (arr q) 24)) 24 (arr r)
  rw [World.size_alloc] at rY
  replace bb := chain bb h2
  have sz := bb.size
  replace bb := (bb.alloc bb.size (.cells (arr q) 24)).alloc (by rw [World.size_alloc]; omega) (.cells (arr r) 24)
  go_wp2
  generalize (w2.alloc (.cells (arr q) 24)).alloc (.cells (arr r) 24) = w3 at *
  generalize w2.heap.size = G at *
  have zQ := rQ.cells; have mQ := rQ.marks; have lQ := rQ.lt
  have zR := rR.cells; have mR := rR.marks; have lR := rR.lt
  have zX := rX.cells; have lX := rX.lt
  have zY := rY.cells; have lY := rY.lt
  clear rQ rR rX rY h1 h2
  go_region
  go_wp2
  refine bodyPost_ret (v := .tuple #[U q, U r, .int .i64 0]) (by simp [results, Tryd.results39, go_sem, zQ, zR]) rfl ⟨rfl, ?_⟩
  go_grown

theorem d512_any (low high c : Nat) (hl : low < B256) (hh : high < B256) (hc : c < B256) (w : World) :
    Calls Tryd.prog 39 #[U low, U high, U c] w fun e w' =>
      e = .returned (.tuple #[U (quoR c ((low + high * B256) / c)), U (remR c ((low + high * B256) / c) ((low + high * B256) % c)), .int .i64 (quoE c ((low + high * B256) / c))]) ∧ Below w.heap.size w w' := by
  have E : ∀ w, (Op.equalIn 10000 24 (U c) (.agg #[.int .u64 0, .int .u64 0, .int .u64 0, .int .u64 0])).run Tryd.prog w = .ok (decide (c = 0)) w := fun w => by
    rw [← U_zero, eqU_run _ _ hc B256_pos]
  unfold quoR remR quoE
  by_cases h0 : c = 0
  · rw [if_pos h0, if_pos h0, if_pos h0, U_zero]
    rw [decide_eq_true h0] at E
    exact d512_zero low high c w E
  rw [if_neg h0, if_neg h0, if_neg h0]
  rw [decide_eq_false h0] at E
  unfold chkR chkE
  by_cases h1 : high < c
  · have hq : (low + high * B256) / c < B256 := by
      rw [Nat.div_lt_iff_lt_mul (by omega), Nat.mul_comm B256 c]
      have h : (high + 1) * B256 ≤ c * B256 := Nat.mul_le_mul_right _ h1
      rw [Nat.add_mul, Nat.one_mul] at h
      omega
    rw [if_pos hq, if_pos hq, if_pos hq]
    exact d512_ok low high c _ _ (cmpI high c) w (by unfold cmpI; rw [if_pos h1]; omega) E (cmp_any high c hh hc) (dvd_any low high c hl h1 hc)
  · have hq : ¬ (low + high * B256) / c < B256 := by
      rw [Nat.div_lt_iff_lt_mul (by omega), Nat.mul_comm B256 c]
      have h : c * B256 ≤ high * B256 := Nat.mul_le_mul_right _ (by omega)
      omega
    rw [if_neg hq, if_neg hq, if_neg hq, U_zero]
    exact d512_over low high c (cmpI high c) w (by unfold cmpI; rw [if_neg h1]; split <;> omega) E (cmp_any high c hh hc)

end Go.Proofs.YtkionnggdncncaaDoor

