/- The laws of layer 12 over this translation, the second half. No conditions. -/
import Derived.Test.YtijmefealelkfaaV2l
namespace Go.Proofs.Ytijmefealelkfaa
open Go.RowKit Sx
set_option maxRecDepth 100000

/-! Set and Get where the key is one. -/
section
variable {p : Par} {k n : Nat}
theorem nat_K (h1 : 1 ≤ k) (h2 : k ≤ 12) : isK (k : Int) := ⟨by omega, by omega⟩
theorem s_ok (hp : PWf p) (h0 : fi p = 0) (h1 : 1 ≤ k) (h2 : k ≤ 12) (hn : n < B256) (h : fi (updP p k n) = 0) : Det Try.prog 18 [PV p, .int .i64 (k : Int), U n] (.tuple #[PV (updP p k n), .int .i64 0]) := by
  have g := p_set p hp (k : Int) n hn
  rwa [← set_4 (nat_K h1 h2) h0 h] at g
theorem s_no (hp : PWf p) (h0 : fi p = 0) (h1 : 1 ≤ k) (h2 : k ≤ 12) (hn : n < B256) (h : ¬ fi (updP p k n) = 0) : Det Try.prog 18 [PV p, .int .i64 (k : Int), U n] (.tuple #[.agg (List.replicate 21 (Value.int .u64 0)).toArray, .int .i64 15]) := by
  have g := p_set p hp (k : Int) n hn
  rwa [← set_3 (nat_K h1 h2) h0 h] at g
theorem s_okw (hp : PWf p) (h0 : fi p = 0) (h1 : 1 ≤ k) (h2 : k ≤ 12) (hn : n < 18446744073709551616) (h : fi (updP p k n) = 0) : Det Try.prog 18 [PV p, .int .i64 (k : Int), w4 n] (.tuple #[PV (updP p k n), .int .i64 0]) := by
  rw [w4_U hn]; exact s_ok hp h0 h1 h2 (lt_B hn) h
theorem s_now (hp : PWf p) (h0 : fi p = 0) (h1 : 1 ≤ k) (h2 : k ≤ 12) (hn : n < 18446744073709551616) (h : ¬ fi (updP p k n) = 0) : Det Try.prog 18 [PV p, .int .i64 (k : Int), w4 n] (.tuple #[.agg (List.replicate 21 (Value.int .u64 0)).toArray, .int .i64 15]) := by
  rw [w4_U hn]; exact s_no hp h0 h1 h2 (lt_B hn) h
theorem g_ok (hp : PWf p) (h1 : 1 ≤ k) (h2 : k ≤ 12) : Det Try.prog 8 [PV p, .int .i64 (k : Int)] (.tuple #[U (p k), .int .i64 0]) := by
  have g := p_get p hp (k : Int)
  rwa [← get_y (nat_K h1 h2)] at g
theorem g_okw (hp : PWf p) (h1 : 1 ≤ k) (h2 : k ≤ 12) (e : p k = n) (hn : n < 18446744073709551616) : Det Try.prog 8 [PV p, .int .i64 (k : Int)] (.tuple #[w4 n, .int .i64 0]) := by
  have g := g_ok hp h1 h2
  rwa [e, ← w4_U hn] at g
theorem v_ok (hp : PWf p) (h : fi p = 0) : Det Try.prog 12 [PV p] (.bool true) := by
  have g := p_valid p hp
  rwa [h] at g
end
theorem gen_0 : fi gen = 0 := by decide +kernel
theorem z21 : cellsEq (List.replicate 21 (Value.int .u64 0)) (List.replicate 21 (Value.int .u64 0)) = true := by decide +kernel
theorem ne4 (n : Nat) : (!cellsEq [.int .u64 (n : Int), .int .u64 0, .int .u64 0, .int .u64 0] [.int .u64 (n : Int), .int .u64 0, .int .u64 0, .int .u64 0]) = false := by simp [cellsEq, cellEq]
section
variable {ρ : Operand → Value} {dst : Option Tmp} {type : TypeId} {pos : String} {after : Array Edge} {guard : Option (Nat × Bool)}
theorem lq_add {a b c : Int} (h : IntKind.u64.wrap (a + b) = c) (A : Facts) {x y : Operand} (hx : ρ x = .int .u64 a := by rfl) (hy : ρ y = .int .u64 b := by rfl) :
    ∀ w, Sx.Holds w A → (execOp ρ ⟨dst, .binOp .add 22 x y 22, type, pos, after, guard⟩).run Try.prog w = .ok (.value (.int .u64 c)) w := by
  intro w _
  have e : execOp ρ ⟨dst, .binOp .add 22 x y 22, type, pos, after, guard⟩ = (do let v ← binOp .add 22 (ρ x) (ρ y); pure (.value v)) := rfl
  rw [e, hx, hy, ← h]
  rfl
theorem lq_sub {a b c : Int} (h : IntKind.u64.wrap (a - b) = c) (A : Facts) {x y : Operand} (hx : ρ x = .int .u64 a := by rfl) (hy : ρ y = .int .u64 b := by rfl) :
    ∀ w, Sx.Holds w A → (execOp ρ ⟨dst, .binOp .sub 22 x y 22, type, pos, after, guard⟩).run Try.prog w = .ok (.value (.int .u64 c)) w := by
  intro w _
  have e : execOp ρ ⟨dst, .binOp .sub 22 x y 22, type, pos, after, guard⟩ = (do let v ← binOp .sub 22 (ρ x) (ρ y); pure (.value v)) := rfl
  rw [e, hx, hy, ← h]
  rfl
theorem lq_to {n : Nat} (h : n < 9223372036854775808) (A : Facts) {x : Operand} (hx : ρ x = .int .i64 (n : Int) := by rfl) :
    ∀ w, Sx.Holds w A → (execOp ρ ⟨dst, .convert 3 22 x, type, pos, after, guard⟩).run Try.prog w = .ok (.value (.int .u64 (n : Int))) w := by
  intro w _
  have hw := u64_wrap_nat (n := n) (by omega)
  have e : execOp ρ ⟨dst, .convert 3 22 x, type, pos, after, guard⟩ = (do let v ← convert 3 22 (ρ x); pure (.value v)) := rfl
  rw [e, hx]
  simp [convert, run_underlying Try.underlying3, run_underlying Try.underlying22, Conv.intToInt, hw]
end
theorem add_1k (x : Int) : IntKind.i64.wrap (1 + ((modI x 12 : Nat) : Int)) = ((1 + modI x 12 : Nat) : Int) := by
  have := modI_lt x (n := 12) (by decide)
  rw [show (1 : Int) + ((modI x 12 : Nat) : Int) = ((1 + modI x 12 : Nat) : Int) by omega, wrap_nat (by omega)]
theorem add_k1 (x : Int) : IntKind.i64.wrap (((modI x 12 : Nat) : Int) + 1) = ((1 + modI x 12 : Nat) : Int) := by
  rw [Int.add_comm, add_1k]
theorem m12 (x : Int) : 1 + modI x 12 ≤ 12 := by have := modI_lt x (n := 12) (by decide); omega
theorem m1 (x : Int) : 1 ≤ 1 + modI x 12 := by omega
theorem m12l (x : Int) : modI x 12 < 12 := modI_lt x (by decide)

/-! ParamsRanges. -/
def moK (k : Nat) : Nat := if k = 11 then 65536 else hiK k
def wls (f : Nat → Nat) : Nat → Nat → List Value
  | _, 0 => []
  | k, n + 1 => .int .u64 (f k : Int) :: wls f (k + 1) n
theorem wls_at (f : Nat → Nat) : ∀ n k j, j < n → ((wls f k n).drop j).head? = some (.int .u64 (f (k + j) : Int)) := by
  intro n
  induction n with
  | zero => exact fun k j h => absurd h (Nat.not_lt_zero j)
  | succ n ih =>
    intro k j h
    cases j with
    | zero => rfl
    | succ j =>
      rw [wls, List.drop_succ_cons, ih (k + 1) j (by omega), show k + 1 + j = k + (j + 1) by omega]
theorem b_least : ∀ w, (Instr.build 43 #[(0, .int .u64 1), (1, .int .u64 0), (2, .int .u64 1), (3, .int .u64 1), (4, .int .u64 1), (5, .int .u64 0), (6, .int .u64 0), (7, .int .u64 0), (8, .int .u64 1), (9, .int .u64 1), (10, .int .u64 0), (11, .int .u64 16)]).run Try.prog w = .ok (.agg (wls (loK 16) 1 12).toArray) w :=
  bld_arr Try.underlying43 (s := 1) (by kernel_rfl) (z := .agg (List.replicate 12 (Value.int .u64 0)).toArray) (by kernel_rfl) (by kernel_rfl)
theorem b_most : ∀ w, (Instr.build 43 #[(0, .int .u64 1099511627776), (1, .int .u64 1048576), (2, .int .u64 1048576), (3, .int .u64 18446744073709551615), (4, .int .u64 1099511627776), (5, .int .u64 18446744073709551615), (6, .int .u64 10000), (7, .int .u64 18446744073709551615), (8, .int .u64 1099511627776), (9, .int .u64 1048576), (10, .int .u64 65536), (11, .int .u64 16777216)]).run Try.prog w = .ok (.agg (wls moK 1 12).toArray) w :=
  bld_arr Try.underlying43 (s := 1) (by kernel_rfl) (z := .agg (List.replicate 12 (Value.int .u64 0)).toArray) (by kernel_rfl) (by kernel_rfl)
theorem lo_w {t : TypeId} {L : Facts} (f : Nat → Nat) (k : Nat) {n j : Nat} {z : Int} (hz : z = (j : Int)) (hj : j < n) : ldOwn Try.prog 22 ⟨t, wls f k n, L⟩ (0 + z.toNat * 1) = some (w0 (f (k + j))) := by
  subst hz
  have h := wls_at f n k j hj
  unfold ldOwn
  simp only [Try.underlying22]
  rw [Int.toNat_natCast, Nat.zero_add, Nat.mul_one]
  exact h
theorem all12 {P : Nat → Prop} [DecidablePred P] (h : (List.range 13).all (fun k => decide (1 ≤ k → P k)) = true) {k : Nat} (h1 : 1 ≤ k) (h2 : k ≤ 12) : P k := by
  have := List.all_eq_true.1 h k (List.mem_range.2 (by omega))
  exact of_decide_eq_true this h1
theorem lo_good {k : Nat} (h1 : 1 ≤ k) (h2 : k ≤ 12) : fi (updP gen k (loK 16 k)) = 0 := all12 (P := fun k => fi (updP gen k (loK 16 k)) = 0) (by decide +kernel) h1 h2
theorem mo_good {k : Nat} (h1 : 1 ≤ k) (h2 : k ≤ 12) : fi (updP gen k (moK k)) = 0 := all12 (P := fun k => fi (updP gen k (moK k)) = 0) (by decide +kernel) h1 h2
theorem mo_bad {k e : Nat} (h1 : 1 ≤ k) (h2 : k ≤ 12) (he : e < 3) : ¬ fi (updP gen k (moK k + (1 + e))) = 0 := by
  rcases (by omega : e = 0 ∨ e = 1 ∨ e = 2) with rfl | rfl | rfl
  · exact all12 (P := fun k => ¬ fi (updP gen k (moK k + (1 + 0))) = 0) (by decide +kernel) h1 h2
  · exact all12 (P := fun k => ¬ fi (updP gen k (moK k + (1 + 1))) = 0) (by decide +kernel) h1 h2
  · exact all12 (P := fun k => ¬ fi (updP gen k (moK k + (1 + 2))) = 0) (by decide +kernel) h1 h2
theorem lo_bad {k : Nat} (h1 : 1 ≤ k) (h2 : k ≤ 12) : 0 < loK 16 k → ¬ fi (updP gen k (loK 16 k - 1)) = 0 := all12 (P := fun k => 0 < loK 16 k → ¬ fi (updP gen k (loK 16 k - 1)) = 0) (by decide +kernel) h1 h2
theorem lo_64 {k : Nat} (h1 : 1 ≤ k) (h2 : k ≤ 12) : loK 16 k < 18446744073709551616 := all12 (P := fun k => loK 16 k < 18446744073709551616) (by decide +kernel) h1 h2
theorem mo_64 {k : Nat} (h1 : 1 ≤ k) (h2 : k ≤ 12) : moK k < 18446744073709551616 := all12 (P := fun k => moK k < 18446744073709551616) (by decide +kernel) h1 h2
theorem add_w4 {a b : Nat} (ha : a < 18446744073709551616) (hb : b < 18446744073709551616) : Det Try.prog 21 [w4 a, w4 b] (.tuple #[U (a + b), .int .i64 0]) := by
  have h : a + b < B256 := by
    have : (36893488147419103232 : Nat) ≤ B256 := by unfold B256; omega
    omega
  have g := d_add a b (lt_B ha) (lt_B hb)
  rw [addR, addE, if_pos h, if_pos h, ← w4_U ha, ← w4_U hb] at g
  exact g
theorem up_B {k e : Nat} (h1 : 1 ≤ k) (h2 : k ≤ 12) (he : e < 3) : moK k + (1 + e) < B256 := by
  have := mo_64 h1 h2
  have : (36893488147419103232 : Nat) ≤ B256 := by unfold B256; omega
  omega
theorem wf_up {k n : Nat} (h1 : 1 ≤ k) (h2 : k ≤ 12) (h : fi (updP gen k n) = 0) : PWf (updP gen k n) := updP_wf gen_wf h1 h h2
theorem m3 (x : Int) : modI x 3 < 3 := modI_lt x (by decide)
theorem ad3 (x : Int) : IntKind.u64.wrap (1 + ((modI x 3 : Nat) : Int)) = ((1 + modI x 3 : Nat) : Int) := by
  have := m3 x
  rw [show (1 : Int) + ((modI x 3 : Nat) : Int) = ((1 + modI x 3 : Nat) : Int) by omega, u64_wrap_nat (by omega)]
theorem sb1 {n : Nat} (h : decide ((n : Int) > 0) = true) (hn : n < 18446744073709551616) : IntKind.u64.wrap ((n : Int) - 1) = ((n - 1 : Nat) : Int) := by
  have := of_decide_eq_true h
  rw [show (n : Int) - 1 = ((n - 1 : Nat) : Int) by omega, u64_wrap_nat (by omega)]
theorem gt0n {n : Nat} (h : decide ((n : Int) > 0) = true) : 0 < n := by have := of_decide_eq_true h; omega

/-! ParamsSetGet, ParamsCommute. -/
theorem keyeq {a b : Nat} (h : a = b) : ((a : Int) == (b : Int)) = true := by subst h; simp
theorem keyne {a b : Nat} (h : a ≠ b) : ((a : Int) == (b : Int)) = false := by simp; omega
theorem up_at (k n : Nat) : cellsEq (cU (updP gen k n k)) (cU n) = true := by rw [updP_at]; exact eqU_self n
theorem up_ne {k o : Nat} (n : Nat) (h : o ≠ k) : cellsEq (cU (updP gen k n o)) (cU (gen o)) = true := by rw [updP_ne _ _ h]; exact eqU_self _
theorem okK_congr {p q : Par} {i : Nat} (h : p i = q i) (h2 : i = 12 → p 11 = q 11) : okK p i = okK q i := by
  unfold okK
  rw [h]
  by_cases e : i = 12
  · rw [h2 e]
  · have : ∀ m m', loK m i = loK m' i := fun m m' => by
      unfold loK
      split <;> first | rfl | exact absurd rfl e
    rw [this (w64 (p 11)) (w64 (q 11))]
theorem com_ok {j k S T : Nat} (hx : ¬ (10 < j ∧ 10 < k)) (hA : fi (updP gen j S) = 0) : fi (updP (updP gen j S) k T) = 0 ↔ fi (updP gen k T) = 0 := by
  have hg := (fi_0 gen).1 gen_0
  have hA' := (fi_0 _).1 hA
  rw [fi_0, fi_0]
  constructor
  · intro h i h1 h2
    by_cases e : i = k
    · rw [← h i h1 h2]
      refine okK_congr (by rw [e, updP_at, updP_at]) fun e2 => ?_
      rw [updP_ne _ _ (by omega), updP_ne _ _ (by omega), updP_ne _ _ (by omega)]
    · by_cases e3 : i = 12 ∧ k = 11
      · rw [← h i h1 h2]
        refine okK_congr (by rw [updP_ne _ _ e, updP_ne _ _ e, updP_ne _ _ (by omega)]) fun _ => ?_
        rw [e3.2, updP_at, updP_at]
      · rw [← hg i h1 h2]
        exact okK_congr (updP_ne _ _ e) fun e2 => updP_ne _ _ (by omega)
  · intro h i h1 h2
    by_cases e : i = k
    · rw [← h i h1 h2]
      refine okK_congr (by rw [e, updP_at, updP_at]) fun e2 => ?_
      rw [updP_ne _ _ (by omega), updP_ne _ _ (by omega), updP_ne _ _ (by omega)]
    · by_cases e3 : i = 12 ∧ k = 11
      · rw [← h i h1 h2]
        refine okK_congr (by rw [updP_ne _ _ e, updP_ne _ _ e, updP_ne _ _ (by omega)]) fun _ => ?_
        rw [e3.2, updP_at, updP_at]
      · rw [← hA' i h1 h2]
        exact okK_congr (updP_ne _ _ e) fun e2 => updP_ne _ _ (by omega)
theorem upd_com (p : Par) {j k : Nat} (S T : Nat) (h : j ≠ k) : updP (updP p j S) k T = updP (updP p k T) j S := by
  funext i
  unfold updP
  by_cases e : i = k
  · rw [if_pos e, if_neg (by omega), if_pos e]
  · rw [if_neg e]
    by_cases e2 : i = j
    · rw [if_pos e2, if_pos e2]
    · rw [if_neg e2, if_neg e2, if_neg e]
theorem s_com {j k S T : Nat} (h : j ≠ k) (hj1 : 1 ≤ j) (hj2 : j ≤ 12) (hk1 : 1 ≤ k) (hk2 : k ≤ 12) (hS : S < B256) (hA : fi (updP gen j S) = 0) (hB : fi (updP gen k T) = 0) (hx : ¬ (10 < j ∧ 10 < k)) : Det Try.prog 18 [PV (updP gen k T), .int .i64 (j : Int), U S] (.tuple #[PV (updP (updP gen j S) k T), .int .i64 0]) := by
  rw [upd_com gen S T h]
  refine s_ok (wf_up hk1 hk2 hB) hB hj1 hj2 hS ?_
  rw [← upd_com gen S T h]
  exact (com_ok hx hA).2 hB
theorem gt10_t {a : Nat} (h : 10 < a) : decide ((a : Int) > 10) = true := by apply decide_eq_true; omega
theorem gt10_f {a : Nat} (h : ¬ 10 < a) : decide ((a : Int) > 10) = false := by apply decide_eq_false; omega
theorem and_l {a b : Prop} (h : ¬ a) : ¬ (a ∧ b) := fun e => h e.1
theorem and_r {a b : Prop} (h : ¬ b) : ¬ (a ∧ b) := fun e => h e.2
set_option maxHeartbeats 4000000 in
theorem rng_law (key edge : Int) : Det Try.prog 5 [.int .i64 key, .int .i64 edge] (.bool true) :=
  det_of_vc Try.mixed good_pontagelaw12_ParamsRanges (O := [.opt 1 [(0, .ld (.agg (wls (loK 16) 1 12).toArray))], .opt 2 [(0, .ld (.agg (wls moK 1 12).toArray))], .reg [(1, det (.int .i64 ((modI key 12 : Nat) : Int)))], .opt 4 [(2, .ld (w0 (loK 16 (1 + modI key 12)))), (6, .ld (w0 (moK (1 + modI key 12))))], .reg [(0, det (PV gen)), (2, .ld (.int .i64 (((1 + modI key 12) : Nat) : Int))), (4, det (.tuple #[PV (updP gen (1 + modI key 12) (loK 16 (1 + modI key 12))), .int .i64 0]))], .reg [(0, det (PV gen)), (2, .ld (.int .i64 (((1 + modI key 12) : Nat) : Int))), (4, det (.tuple #[PV (updP gen (1 + modI key 12) (moK (1 + modI key 12))), .int .i64 0]))], .reg [(2, .ld (.int .i64 (((1 + modI key 12) : Nat) : Int))), (3, det (.tuple #[w4 (loK 16 (1 + modI key 12)), .int .i64 0]))], .reg [(2, .ld (.int .i64 (((1 + modI key 12) : Nat) : Int))), (3, det (.tuple #[w4 (moK (1 + modI key 12)), .int .i64 0]))], .reg [(3, .yes), (4, .yes), (5, .no), (7, .yes), (8, .yes), (9, .yes), (10, .no), (12, .yes), (13, .yes), (14, .yes), (15, .no), (17, .yes), (18, .yes), (19, .no), (21, .yes), (22, .yes), (23, .no)], .no, .reg [(2, det (.int .i64 ((modI edge 3 : Nat) : Int))), (3, .ld (.int .u64 ((modI edge 3 : Nat) : Int))), (4, .ld (.int .u64 ((1 + modI edge 3 : Nat) : Int))), (6, det (.tuple #[U ((moK (1 + modI key 12)) + (1 + modI edge 3)), .int .i64 0]))], .reg [(0, det (PV gen)), (2, .ld (.int .i64 (((1 + modI key 12) : Nat) : Int))), (4, det (.tuple #[.agg (List.replicate 21 (Value.int .u64 0)).toArray, .int .i64 15]))], .opt 13 [(2, .ld (w0 (loK 16 (1 + modI key 12))))], .both [.reg [(0, det (PV gen)), (2, .ld (.int .i64 (((1 + modI key 12) : Nat) : Int))), (5, .ld (w0 (loK 16 (1 + modI key 12)))), (6, .ld (w0 ((loK 16 (1 + modI key 12)) - 1))), (8, det (.tuple #[.agg (List.replicate 21 (Value.int .u64 0)).toArray, .int .i64 15]))], .no, .reg [(3, det (.bool true)), (4, .yes)]] [.reg [(3, det (.bool true)), (4, .yes)]]]) fun _ => ⟨ld_b12 b_least _, ⟨ld_b12 b_most _, ⟨mod_raw key 12 (by decide) (by decide) _, fun _ => ⟨⟨Int.natCast_nonneg _, by have := m12l key; omega⟩, ⟨lo_w (loK 16) 1 rfl (m12l key), ⟨⟨Int.natCast_nonneg _, by have := m12l key; omega⟩, ⟨lo_w (moK) 1 rfl (m12l key), ⟨p_gen _, fun _ => ⟨lp_add (add_k1 key) _, ⟨s_okw gen_wf gen_0 (m1 key) (m12 key) (lo_64 (m1 key) (m12 key)) (lo_good (m1 key) (m12 key)) _, fun _ => ⟨p_gen _, fun _ => ⟨lp_add (add_k1 key) _, ⟨s_okw gen_wf gen_0 (m1 key) (m12 key) (mo_64 (m1 key) (m12 key)) (mo_good (m1 key) (m12 key)) _, fun _ => ⟨lp_add (add_k1 key) _, ⟨g_okw (wf_up (m1 key) (m12 key) (lo_good (m1 key) (m12 key))) (m1 key) (m12 key) (updP_at _ _ _) (lo_64 (m1 key) (m12 key)) _, fun _ => ⟨lp_add (add_k1 key) _, ⟨g_okw (wf_up (m1 key) (m12 key) (mo_good (m1 key) (m12 key))) (m1 key) (m12 key) (updP_at _ _ _) (mo_64 (m1 key) (m12 key)) _, fun _ => ⟨gff rfl, ⟨gff rfl, ⟨rfl, ⟨gff rfl, ⟨gff rfl, ⟨⟨gff rfl, eqT_api_Uint256 rfl rfl⟩, ⟨rfl, ⟨gff (ne4 _), ⟨gff (ne4 _), ⟨⟨gff (ne4 _), eqT_api_Uint256 rfl rfl⟩, ⟨(ne4 _), ⟨gff (ne4 _), ⟨gff (ne4 _), ⟨(ne4 _), ⟨gff rfl, ⟨gff rfl, ⟨rfl, ⟨rfl, ⟨mod_raw edge 3 (by decide) (by decide) _, fun _ => ⟨lq_to (by have := m3 edge; omega) _, ⟨lq_add (ad3 edge) _, ⟨add_w4 (mo_64 (m1 key) (m12 key)) (by have := m3 edge; omega) _, fun _ => ⟨p_gen _, fun _ => ⟨lp_add (add_k1 key) _, ⟨s_no gen_wf gen_0 (m1 key) (m12 key) (up_B (m1 key) (m12 key) (m3 edge)) (mo_bad (m1 key) (m12 key) (m3 edge)) _, fun _ => ⟨⟨Int.natCast_nonneg _, by have := m12l key; omega⟩, ⟨lo_w (loK 16) 1 rfl (m12l key), ⟨fun _h => ⟨p_gen _, fun _ => ⟨lp_add (add_k1 key) _, ⟨⟨Int.natCast_nonneg _, by have := m12l key; omega⟩, ⟨lo_w (loK 16) 1 rfl (m12l key), ⟨lq_sub (sb1 _h (lo_64 (m1 key) (m12 key))) _, ⟨s_now gen_wf gen_0 (m1 key) (m12 key) (by have := (lo_64 (m1 key) (m12 key)); omega) (lo_bad (m1 key) (m12 key) (gt0n _h)) _, fun _ => ⟨rfl, ⟨⟨gtt rfl, aw12 _⟩, fun _ => ⟨rfl, ⟨(), rfl, nofun⟩⟩⟩⟩⟩⟩⟩⟩⟩⟩, fun _h => ⟨⟨gtt rfl, aw12 _⟩, fun _ => ⟨rfl, ⟨(), rfl, nofun⟩⟩⟩⟩⟩⟩⟩⟩⟩⟩⟩⟩⟩⟩⟩⟩⟩⟩⟩⟩⟩⟩⟩⟩⟩⟩⟩⟩⟩⟩⟩⟩⟩⟩⟩⟩⟩⟩⟩⟩⟩⟩⟩⟩⟩⟩⟩⟩
theorem sg_no (u : Up) (hu : UpOk u) (z : Int) (h : ¬ fi (updP gen (1 + modI u.k 12) (valN u)) = 0) : Det Try.prog 6 [UV u, .int .i64 z] (.bool true) :=
  det_of_vc Try.mixed good_pontagelaw12_ParamsSetGet (O := [.reg [(0, det (PV gen))], .reg [(2, det (.int .i64 ((modI u.k 12 : Nat) : Int))), (3, .ld (.int .i64 (((1 + modI u.k 12) : Nat) : Int))), (5, det (.int .i64 ((modI z 12 : Nat) : Int))), (6, .ld (.int .i64 (((1 + modI z 12) : Nat) : Int)))], .reg [(3, det (U (valN u))), (4, det (.tuple #[.agg (List.replicate 21 (Value.int .u64 0)).toArray, .int .i64 15]))], .yes, .reg [(3, .yes), (4, .yes), (5, .yes), (6, .yes), (8, det (.bool true)), (9, .yes)]]) fun _ => ⟨p_gen _, fun _ => ⟨mod_raw u.k 12 (by decide) (by decide) _, fun _ => ⟨lp_add (add_1k u.k) _, ⟨mod_raw z 12 (by decide) (by decide) _, fun _ => ⟨lp_add (add_1k z) _, ⟨p_val u hu _, fun _ => ⟨s_no gen_wf gen_0 (m1 u.k) (m12 u.k) (valN_lt hu) h _, fun _ => ⟨rfl, ⟨gtt rfl, ⟨gtt rfl, ⟨⟨gtt rfl, eqT_api_Params rfl rfl⟩, ⟨rfl, ⟨⟨gtt z21, aw12 _⟩, fun _ => ⟨z21, ⟨(), rfl, nofun⟩⟩⟩⟩⟩⟩⟩⟩⟩⟩⟩⟩⟩⟩⟩
theorem sg_eq (u : Up) (hu : UpOk u) (z : Int) (h : fi (updP gen (1 + modI u.k 12) (valN u)) = 0) (e : (1 + modI z 12) = (1 + modI u.k 12)) : Det Try.prog 6 [UV u, .int .i64 z] (.bool true) :=
  det_of_vc Try.mixed good_pontagelaw12_ParamsSetGet (O := [.reg [(0, det (PV gen))], .reg [(2, det (.int .i64 ((modI u.k 12 : Nat) : Int))), (3, .ld (.int .i64 (((1 + modI u.k 12) : Nat) : Int))), (5, det (.int .i64 ((modI z 12 : Nat) : Int))), (6, .ld (.int .i64 (((1 + modI z 12) : Nat) : Int)))], .reg [(3, det (U (valN u))), (4, det (.tuple #[PV (updP gen (1 + modI u.k 12) (valN u)), .int .i64 0]))], .no, .reg [(2, det (.tuple #[U ((updP gen (1 + modI u.k 12) (valN u)) (1 + modI u.k 12)), .int .i64 0]))], .reg [(2, det (.tuple #[U ((updP gen (1 + modI u.k 12) (valN u)) (1 + modI z 12)), .int .i64 0]))], .reg [(2, det (.tuple #[U (gen (1 + modI z 12)), .int .i64 0]))], .reg ((1, det (.bool true)) :: (3, .yes) :: (4, .yes) :: (5, .yes) :: (7, .yes) :: (8, .yes) :: (9, .yes) :: (11, .yes) :: (12, .yes) :: (13, .yes) :: (15, .yes) :: (16, .yes) :: (17, det (U (valN u))) :: (18, .yes) :: (19, .yes) :: (21, .yes) :: (22, .yes) :: (23, .yes) :: (24, .yes) :: (25, .no) :: (26, .no) :: (27, .no) :: (28, .yes) :: (29, .yes) :: (31, det (.bool true)) :: (32, .yes) :: [])]) fun _ => ⟨p_gen _, fun _ => ⟨mod_raw u.k 12 (by decide) (by decide) _, fun _ => ⟨lp_add (add_1k u.k) _, ⟨mod_raw z 12 (by decide) (by decide) _, fun _ => ⟨lp_add (add_1k z) _, ⟨p_val u hu _, fun _ => ⟨s_ok gen_wf gen_0 (m1 u.k) (m12 u.k) (valN_lt hu) h _, fun _ => ⟨rfl, ⟨g_ok (wf_up (m1 u.k) (m12 u.k) h) (m1 u.k) (m12 u.k) _, fun _ => ⟨g_ok (wf_up (m1 u.k) (m12 u.k) h) (m1 z) (m12 z) _, fun _ => ⟨g_ok gen_wf (m1 z) (m12 z) _, fun _ => ⟨v_ok (wf_up (m1 u.k) (m12 u.k) h) h _, fun _ => ⟨gtt rfl, ⟨gtt rfl, ⟨rfl, ⟨gtt rfl, ⟨gtt rfl, ⟨rfl, ⟨gtt rfl, ⟨gtt rfl, ⟨rfl, ⟨gtt rfl, ⟨gtt rfl, ⟨⟨gtt rfl, p_val u hu _⟩, fun _ => ⟨⟨gtt rfl, eqT_api_Uint256 rfl rfl⟩, ⟨rfl, ⟨gtt (up_at _ _), ⟨gtt (up_at _ _), ⟨gtt (up_at _ _), ⟨gtt (up_at _ _), ⟨gft (keyeq e), ⟨gft (keyeq e), ⟨gft (keyeq e), ⟨⟨gtt (up_at _ _), (keyeq e)⟩, ⟨(up_at _ _), ⟨⟨gtt rfl, aw12 _⟩, fun _ => ⟨rfl, ⟨(), rfl, nofun⟩⟩⟩⟩⟩⟩⟩⟩⟩⟩⟩⟩⟩⟩⟩⟩⟩⟩⟩⟩⟩⟩⟩⟩⟩⟩⟩⟩⟩⟩⟩⟩⟩⟩⟩⟩⟩⟩
theorem sg_ne (u : Up) (hu : UpOk u) (z : Int) (h : fi (updP gen (1 + modI u.k 12) (valN u)) = 0) (e : (1 + modI z 12) ≠ (1 + modI u.k 12)) : Det Try.prog 6 [UV u, .int .i64 z] (.bool true) :=
  det_of_vc Try.mixed good_pontagelaw12_ParamsSetGet (O := [.reg [(0, det (PV gen))], .reg [(2, det (.int .i64 ((modI u.k 12 : Nat) : Int))), (3, .ld (.int .i64 (((1 + modI u.k 12) : Nat) : Int))), (5, det (.int .i64 ((modI z 12 : Nat) : Int))), (6, .ld (.int .i64 (((1 + modI z 12) : Nat) : Int)))], .reg [(3, det (U (valN u))), (4, det (.tuple #[PV (updP gen (1 + modI u.k 12) (valN u)), .int .i64 0]))], .no, .reg [(2, det (.tuple #[U ((updP gen (1 + modI u.k 12) (valN u)) (1 + modI u.k 12)), .int .i64 0]))], .reg [(2, det (.tuple #[U ((updP gen (1 + modI u.k 12) (valN u)) (1 + modI z 12)), .int .i64 0]))], .reg [(2, det (.tuple #[U (gen (1 + modI z 12)), .int .i64 0]))], .reg ((1, det (.bool true)) :: (3, .yes) :: (4, .yes) :: (5, .yes) :: (7, .yes) :: (8, .yes) :: (9, .yes) :: (11, .yes) :: (12, .yes) :: (13, .yes) :: (15, .yes) :: (16, .yes) :: (17, det (U (valN u))) :: (18, .yes) :: (19, .yes) :: (21, .yes) :: (22, .yes) :: (23, .yes) :: (24, .yes) :: (25, .yes) :: (26, .yes) :: (27, .yes) :: (28, .els) :: (29, .yes) :: (31, det (.bool true)) :: (32, .yes) :: [])]) fun _ => ⟨p_gen _, fun _ => ⟨mod_raw u.k 12 (by decide) (by decide) _, fun _ => ⟨lp_add (add_1k u.k) _, ⟨mod_raw z 12 (by decide) (by decide) _, fun _ => ⟨lp_add (add_1k z) _, ⟨p_val u hu _, fun _ => ⟨s_ok gen_wf gen_0 (m1 u.k) (m12 u.k) (valN_lt hu) h _, fun _ => ⟨rfl, ⟨g_ok (wf_up (m1 u.k) (m12 u.k) h) (m1 u.k) (m12 u.k) _, fun _ => ⟨g_ok (wf_up (m1 u.k) (m12 u.k) h) (m1 z) (m12 z) _, fun _ => ⟨g_ok gen_wf (m1 z) (m12 z) _, fun _ => ⟨v_ok (wf_up (m1 u.k) (m12 u.k) h) h _, fun _ => ⟨gtt rfl, ⟨gtt rfl, ⟨rfl, ⟨gtt rfl, ⟨gtt rfl, ⟨rfl, ⟨gtt rfl, ⟨gtt rfl, ⟨rfl, ⟨gtt rfl, ⟨gtt rfl, ⟨⟨gtt rfl, p_val u hu _⟩, fun _ => ⟨⟨gtt rfl, eqT_api_Uint256 rfl rfl⟩, ⟨rfl, ⟨gtt (up_at _ _), ⟨gtt (up_at _ _), ⟨gtt (up_at _ _), ⟨gtt (up_at _ _), ⟨gff (keyne e), ⟨gff (keyne e), ⟨⟨gff (keyne e), eqT_api_Uint256 rfl rfl⟩, ⟨⟨gtt (up_at _ _), (keyne e)⟩, ⟨(up_at _ _), ⟨⟨gtt (up_ne _ e), aw12 _⟩, fun _ => ⟨(up_ne _ e), ⟨(), rfl, nofun⟩⟩⟩⟩⟩⟩⟩⟩⟩⟩⟩⟩⟩⟩⟩⟩⟩⟩⟩⟩⟩⟩⟩⟩⟩⟩⟩⟩⟩⟩⟩⟩⟩⟩⟩⟩⟩⟩
theorem sg_law (u : Up) (hu : UpOk u) (z : Int) : Det Try.prog 6 [UV u, .int .i64 z] (.bool true) := by
  by_cases h : fi (updP gen (1 + modI u.k 12) (valN u)) = 0
  · by_cases e : (1 + modI z 12) = (1 + modI u.k 12)
    · exact sg_eq u hu z h e
    · exact sg_ne u hu z h e
  · exact sg_no u hu z h
theorem cm_a (s t : Up) (_hs : UpOk s) (_ht : UpOk t) (e : (1 + modI s.k 12) = (1 + modI t.k 12)) : Det Try.prog 7 [UV s, UV t] (.bool true) :=
  det_of_vc Try.mixed good_pontagelaw12_ParamsCommute (O := [.reg [(2, det (.int .i64 ((modI s.k 12 : Nat) : Int))), (3, .ld (.int .i64 (((1 + modI s.k 12) : Nat) : Int))), (6, det (.int .i64 ((modI t.k 12 : Nat) : Int))), (7, .ld (.int .i64 (((1 + modI t.k 12) : Nat) : Int)))], .reg [(4, .no), (5, .no), (6, .no), (9, .no), (10, .yes)], .yes, .reg [(0, det (.bool true))]]) fun _ => ⟨mod_raw s.k 12 (by decide) (by decide) _, fun _ => ⟨lp_add (add_1k s.k) _, ⟨mod_raw t.k 12 (by decide) (by decide) _, fun _ => ⟨lp_add (add_1k t.k) _, ⟨gft (keyeq e), ⟨gft (keyeq e), ⟨gft (keyeq e), ⟨gft (keyeq e), ⟨(keyeq e), ⟨rfl, ⟨aw12 _, fun _ => ⟨(), rfl, nofun⟩⟩⟩⟩⟩⟩⟩⟩⟩⟩⟩⟩
theorem cm_b (s t : Up) (_hs : UpOk s) (_ht : UpOk t) (e : (1 + modI s.k 12) ≠ (1 + modI t.k 12)) (h1 : 10 < (1 + modI s.k 12)) (h2 : 10 < (1 + modI t.k 12)) : Det Try.prog 7 [UV s, UV t] (.bool true) :=
  det_of_vc Try.mixed good_pontagelaw12_ParamsCommute (O := [.reg [(2, det (.int .i64 ((modI s.k 12 : Nat) : Int))), (3, .ld (.int .i64 (((1 + modI s.k 12) : Nat) : Int))), (6, det (.int .i64 ((modI t.k 12 : Nat) : Int))), (7, .ld (.int .i64 (((1 + modI t.k 12) : Nat) : Int)))], .reg [(4, .yes), (5, .yes), (6, .yes), (7, .yes), (8, .yes), (9, .yes), (10, .no)], .yes, .reg [(0, det (.bool true))]]) fun _ => ⟨mod_raw s.k 12 (by decide) (by decide) _, fun _ => ⟨lp_add (add_1k s.k) _, ⟨mod_raw t.k 12 (by decide) (by decide) _, fun _ => ⟨lp_add (add_1k t.k) _, ⟨gff (keyne e), ⟨gff (keyne e), ⟨gff (keyne e), ⟨gtt (gt10_t h1), ⟨gtt (gt10_t h1), ⟨⟨gff (keyne e), (gt10_t h1)⟩, ⟨(keyne e), ⟨(gt10_t h2), ⟨aw12 _, fun _ => ⟨(), rfl, nofun⟩⟩⟩⟩⟩⟩⟩⟩⟩⟩⟩⟩⟩⟩
set_option linter.unusedVariables false in
theorem cm_coo (s t : Up) (hs : UpOk s) (ht : UpOk t) (e : (1 + modI s.k 12) ≠ (1 + modI t.k 12)) (h1 : ¬ 10 < (1 + modI s.k 12)) (hx : ¬ (10 < (1 + modI s.k 12) ∧ 10 < (1 + modI t.k 12))) (hA : fi (updP gen (1 + modI s.k 12) (valN s)) = 0) (hB : fi (updP gen (1 + modI t.k 12) (valN t)) = 0) : Det Try.prog 7 [UV s, UV t] (.bool true) :=
  det_of_vc Try.mixed good_pontagelaw12_ParamsCommute (O := [.reg [(2, det (.int .i64 ((modI s.k 12 : Nat) : Int))), (3, .ld (.int .i64 (((1 + modI s.k 12) : Nat) : Int))), (6, det (.int .i64 ((modI t.k 12 : Nat) : Int))), (7, .ld (.int .i64 (((1 + modI t.k 12) : Nat) : Int)))], .reg [(4, .yes), (5, .yes), (6, .yes), (7, .no), (8, .no), (9, .els), (10, .no)], .no, .reg [(0, det (PV gen)), (3, det (U (valN s))), (4, det (.tuple #[PV (updP gen (1 + modI s.k 12) (valN s)), .int .i64 0]))], .reg [(0, det (PV gen)), (3, det (U (valN t))), (4, det (.tuple #[PV (updP gen (1 + modI t.k 12) (valN t)), .int .i64 0]))], .yes, .reg [(3, det (U (valN t))), (4, det (.tuple #[PV (updP (updP gen (1 + modI s.k 12) (valN s)) (1 + modI t.k 12) (valN t)), .int .i64 0]))], .no, .yes, .reg [(3, det (U (valN s))), (4, det (.tuple #[PV (updP (updP gen (1 + modI s.k 12) (valN s)) (1 + modI t.k 12) (valN t)), .int .i64 0]))], .reg [(3, .yes), (4, .yes), (5, .yes), (6, .no)], .no, .reg [(0, det (.bool true))]]) fun _ => ⟨mod_raw s.k 12 (by decide) (by decide) _, fun _ => ⟨lp_add (add_1k s.k) _, ⟨mod_raw t.k 12 (by decide) (by decide) _, fun _ => ⟨lp_add (add_1k t.k) _, ⟨gff (keyne e), ⟨gff (keyne e), ⟨gff (keyne e), ⟨gtf (gt10_f h1), ⟨gtf (gt10_f h1), ⟨⟨gff (keyne e), (gt10_f h1)⟩, ⟨(keyne e), ⟨rfl, ⟨p_gen _, fun _ => ⟨p_val s hs _, fun _ => ⟨s_ok gen_wf gen_0 (m1 s.k) (m12 s.k) (valN_lt hs) hA _, fun _ => ⟨p_gen _, fun _ => ⟨p_val t ht _, fun _ => ⟨s_ok gen_wf gen_0 (m1 t.k) (m12 t.k) (valN_lt ht) hB _, fun _ => ⟨rfl, ⟨p_val t ht _, fun _ => ⟨s_ok (wf_up (m1 s.k) (m12 s.k) hA) hA (m1 t.k) (m12 t.k) (valN_lt ht) ((com_ok hx hA).2 hB) _, fun _ => ⟨rfl, ⟨rfl, ⟨p_val s hs _, fun _ => ⟨s_com e (m1 s.k) (m12 s.k) (m1 t.k) (m12 t.k) (valN_lt hs) hA hB hx _, fun _ => ⟨gff rfl, ⟨gff rfl, ⟨⟨gff rfl, eqT_api_Params rfl rfl⟩, ⟨rfl, ⟨(neP_self _), ⟨aw12 _, fun _ => ⟨(), rfl, nofun⟩⟩⟩⟩⟩⟩⟩⟩⟩⟩⟩⟩⟩⟩⟩⟩⟩⟩⟩⟩⟩⟩⟩⟩⟩⟩⟩⟩⟩⟩⟩⟩
set_option linter.unusedVariables false in
theorem cm_con (s t : Up) (hs : UpOk s) (ht : UpOk t) (e : (1 + modI s.k 12) ≠ (1 + modI t.k 12)) (h1 : ¬ 10 < (1 + modI s.k 12)) (hx : ¬ (10 < (1 + modI s.k 12) ∧ 10 < (1 + modI t.k 12))) (hA : fi (updP gen (1 + modI s.k 12) (valN s)) = 0) (hB : ¬ fi (updP gen (1 + modI t.k 12) (valN t)) = 0) : Det Try.prog 7 [UV s, UV t] (.bool true) :=
  det_of_vc Try.mixed good_pontagelaw12_ParamsCommute (O := [.reg [(2, det (.int .i64 ((modI s.k 12 : Nat) : Int))), (3, .ld (.int .i64 (((1 + modI s.k 12) : Nat) : Int))), (6, det (.int .i64 ((modI t.k 12 : Nat) : Int))), (7, .ld (.int .i64 (((1 + modI t.k 12) : Nat) : Int)))], .reg [(4, .yes), (5, .yes), (6, .yes), (7, .no), (8, .no), (9, .els), (10, .no)], .no, .reg [(0, det (PV gen)), (3, det (U (valN s))), (4, det (.tuple #[PV (updP gen (1 + modI s.k 12) (valN s)), .int .i64 0]))], .reg [(0, det (PV gen)), (3, det (U (valN t))), (4, det (.tuple #[.agg (List.replicate 21 (Value.int .u64 0)).toArray, .int .i64 15]))], .yes, .reg [(3, det (U (valN t))), (4, det (.tuple #[.agg (List.replicate 21 (Value.int .u64 0)).toArray, .int .i64 15]))], .no, .no, .reg [(0, det (.bool true))]]) fun _ => ⟨mod_raw s.k 12 (by decide) (by decide) _, fun _ => ⟨lp_add (add_1k s.k) _, ⟨mod_raw t.k 12 (by decide) (by decide) _, fun _ => ⟨lp_add (add_1k t.k) _, ⟨gff (keyne e), ⟨gff (keyne e), ⟨gff (keyne e), ⟨gtf (gt10_f h1), ⟨gtf (gt10_f h1), ⟨⟨gff (keyne e), (gt10_f h1)⟩, ⟨(keyne e), ⟨rfl, ⟨p_gen _, fun _ => ⟨p_val s hs _, fun _ => ⟨s_ok gen_wf gen_0 (m1 s.k) (m12 s.k) (valN_lt hs) hA _, fun _ => ⟨p_gen _, fun _ => ⟨p_val t ht _, fun _ => ⟨s_no gen_wf gen_0 (m1 t.k) (m12 t.k) (valN_lt ht) hB _, fun _ => ⟨rfl, ⟨p_val t ht _, fun _ => ⟨s_no (wf_up (m1 s.k) (m12 s.k) hA) hA (m1 t.k) (m12 t.k) (valN_lt ht) (fun g => hB ((com_ok hx hA).1 g)) _, fun _ => ⟨rfl, ⟨rfl, ⟨aw12 _, fun _ => ⟨(), rfl, nofun⟩⟩⟩⟩⟩⟩⟩⟩⟩⟩⟩⟩⟩⟩⟩⟩⟩⟩⟩⟩⟩⟩⟩⟩⟩
set_option linter.unusedVariables false in
theorem cm_cno (s t : Up) (hs : UpOk s) (ht : UpOk t) (e : (1 + modI s.k 12) ≠ (1 + modI t.k 12)) (h1 : ¬ 10 < (1 + modI s.k 12)) (hx : ¬ (10 < (1 + modI s.k 12) ∧ 10 < (1 + modI t.k 12))) (hA : ¬ fi (updP gen (1 + modI s.k 12) (valN s)) = 0) (hB : fi (updP gen (1 + modI t.k 12) (valN t)) = 0) : Det Try.prog 7 [UV s, UV t] (.bool true) :=
  det_of_vc Try.mixed good_pontagelaw12_ParamsCommute (O := [.reg [(2, det (.int .i64 ((modI s.k 12 : Nat) : Int))), (3, .ld (.int .i64 (((1 + modI s.k 12) : Nat) : Int))), (6, det (.int .i64 ((modI t.k 12 : Nat) : Int))), (7, .ld (.int .i64 (((1 + modI t.k 12) : Nat) : Int)))], .reg [(4, .yes), (5, .yes), (6, .yes), (7, .no), (8, .no), (9, .els), (10, .no)], .no, .reg [(0, det (PV gen)), (3, det (U (valN s))), (4, det (.tuple #[.agg (List.replicate 21 (Value.int .u64 0)).toArray, .int .i64 15]))], .reg [(0, det (PV gen)), (3, det (U (valN t))), (4, det (.tuple #[PV (updP gen (1 + modI t.k 12) (valN t)), .int .i64 0]))], .no, .reg [(0, det (.bool true))]]) fun _ => ⟨mod_raw s.k 12 (by decide) (by decide) _, fun _ => ⟨lp_add (add_1k s.k) _, ⟨mod_raw t.k 12 (by decide) (by decide) _, fun _ => ⟨lp_add (add_1k t.k) _, ⟨gff (keyne e), ⟨gff (keyne e), ⟨gff (keyne e), ⟨gtf (gt10_f h1), ⟨gtf (gt10_f h1), ⟨⟨gff (keyne e), (gt10_f h1)⟩, ⟨(keyne e), ⟨rfl, ⟨p_gen _, fun _ => ⟨p_val s hs _, fun _ => ⟨s_no gen_wf gen_0 (m1 s.k) (m12 s.k) (valN_lt hs) hA _, fun _ => ⟨p_gen _, fun _ => ⟨p_val t ht _, fun _ => ⟨s_ok gen_wf gen_0 (m1 t.k) (m12 t.k) (valN_lt ht) hB _, fun _ => ⟨rfl, ⟨aw12 _, fun _ => ⟨(), rfl, nofun⟩⟩⟩⟩⟩⟩⟩⟩⟩⟩⟩⟩⟩⟩⟩⟩⟩⟩⟩⟩⟩
set_option linter.unusedVariables false in
theorem cm_cnn (s t : Up) (hs : UpOk s) (ht : UpOk t) (e : (1 + modI s.k 12) ≠ (1 + modI t.k 12)) (h1 : ¬ 10 < (1 + modI s.k 12)) (hx : ¬ (10 < (1 + modI s.k 12) ∧ 10 < (1 + modI t.k 12))) (hA : ¬ fi (updP gen (1 + modI s.k 12) (valN s)) = 0) (hB : ¬ fi (updP gen (1 + modI t.k 12) (valN t)) = 0) : Det Try.prog 7 [UV s, UV t] (.bool true) :=
  det_of_vc Try.mixed good_pontagelaw12_ParamsCommute (O := [.reg [(2, det (.int .i64 ((modI s.k 12 : Nat) : Int))), (3, .ld (.int .i64 (((1 + modI s.k 12) : Nat) : Int))), (6, det (.int .i64 ((modI t.k 12 : Nat) : Int))), (7, .ld (.int .i64 (((1 + modI t.k 12) : Nat) : Int)))], .reg [(4, .yes), (5, .yes), (6, .yes), (7, .no), (8, .no), (9, .els), (10, .no)], .no, .reg [(0, det (PV gen)), (3, det (U (valN s))), (4, det (.tuple #[.agg (List.replicate 21 (Value.int .u64 0)).toArray, .int .i64 15]))], .reg [(0, det (PV gen)), (3, det (U (valN t))), (4, det (.tuple #[.agg (List.replicate 21 (Value.int .u64 0)).toArray, .int .i64 15]))], .no, .reg [(0, det (.bool true))]]) fun _ => ⟨mod_raw s.k 12 (by decide) (by decide) _, fun _ => ⟨lp_add (add_1k s.k) _, ⟨mod_raw t.k 12 (by decide) (by decide) _, fun _ => ⟨lp_add (add_1k t.k) _, ⟨gff (keyne e), ⟨gff (keyne e), ⟨gff (keyne e), ⟨gtf (gt10_f h1), ⟨gtf (gt10_f h1), ⟨⟨gff (keyne e), (gt10_f h1)⟩, ⟨(keyne e), ⟨rfl, ⟨p_gen _, fun _ => ⟨p_val s hs _, fun _ => ⟨s_no gen_wf gen_0 (m1 s.k) (m12 s.k) (valN_lt hs) hA _, fun _ => ⟨p_gen _, fun _ => ⟨p_val t ht _, fun _ => ⟨s_no gen_wf gen_0 (m1 t.k) (m12 t.k) (valN_lt ht) hB _, fun _ => ⟨rfl, ⟨aw12 _, fun _ => ⟨(), rfl, nofun⟩⟩⟩⟩⟩⟩⟩⟩⟩⟩⟩⟩⟩⟩⟩⟩⟩⟩⟩⟩⟩
set_option linter.unusedVariables false in
theorem cm_doo (s t : Up) (hs : UpOk s) (ht : UpOk t) (e : (1 + modI s.k 12) ≠ (1 + modI t.k 12)) (h1 : 10 < (1 + modI s.k 12)) (h2 : ¬ 10 < (1 + modI t.k 12)) (hx : ¬ (10 < (1 + modI s.k 12) ∧ 10 < (1 + modI t.k 12))) (hA : fi (updP gen (1 + modI s.k 12) (valN s)) = 0) (hB : fi (updP gen (1 + modI t.k 12) (valN t)) = 0) : Det Try.prog 7 [UV s, UV t] (.bool true) :=
  det_of_vc Try.mixed good_pontagelaw12_ParamsCommute (O := [.reg [(2, det (.int .i64 ((modI s.k 12 : Nat) : Int))), (3, .ld (.int .i64 (((1 + modI s.k 12) : Nat) : Int))), (6, det (.int .i64 ((modI t.k 12 : Nat) : Int))), (7, .ld (.int .i64 (((1 + modI t.k 12) : Nat) : Int)))], .reg [(4, .yes), (5, .yes), (6, .yes), (7, .yes), (8, .yes), (9, .yes), (10, .no)], .no, .reg [(0, det (PV gen)), (3, det (U (valN s))), (4, det (.tuple #[PV (updP gen (1 + modI s.k 12) (valN s)), .int .i64 0]))], .reg [(0, det (PV gen)), (3, det (U (valN t))), (4, det (.tuple #[PV (updP gen (1 + modI t.k 12) (valN t)), .int .i64 0]))], .yes, .reg [(3, det (U (valN t))), (4, det (.tuple #[PV (updP (updP gen (1 + modI s.k 12) (valN s)) (1 + modI t.k 12) (valN t)), .int .i64 0]))], .no, .yes, .reg [(3, det (U (valN s))), (4, det (.tuple #[PV (updP (updP gen (1 + modI s.k 12) (valN s)) (1 + modI t.k 12) (valN t)), .int .i64 0]))], .reg [(3, .yes), (4, .yes), (5, .yes), (6, .no)], .no, .reg [(0, det (.bool true))]]) fun _ => ⟨mod_raw s.k 12 (by decide) (by decide) _, fun _ => ⟨lp_add (add_1k s.k) _, ⟨mod_raw t.k 12 (by decide) (by decide) _, fun _ => ⟨lp_add (add_1k t.k) _, ⟨gff (keyne e), ⟨gff (keyne e), ⟨gff (keyne e), ⟨gtt (gt10_t h1), ⟨gtt (gt10_t h1), ⟨⟨gff (keyne e), (gt10_t h1)⟩, ⟨(keyne e), ⟨(gt10_f h2), ⟨p_gen _, fun _ => ⟨p_val s hs _, fun _ => ⟨s_ok gen_wf gen_0 (m1 s.k) (m12 s.k) (valN_lt hs) hA _, fun _ => ⟨p_gen _, fun _ => ⟨p_val t ht _, fun _ => ⟨s_ok gen_wf gen_0 (m1 t.k) (m12 t.k) (valN_lt ht) hB _, fun _ => ⟨rfl, ⟨p_val t ht _, fun _ => ⟨s_ok (wf_up (m1 s.k) (m12 s.k) hA) hA (m1 t.k) (m12 t.k) (valN_lt ht) ((com_ok hx hA).2 hB) _, fun _ => ⟨rfl, ⟨rfl, ⟨p_val s hs _, fun _ => ⟨s_com e (m1 s.k) (m12 s.k) (m1 t.k) (m12 t.k) (valN_lt hs) hA hB hx _, fun _ => ⟨gff rfl, ⟨gff rfl, ⟨⟨gff rfl, eqT_api_Params rfl rfl⟩, ⟨rfl, ⟨(neP_self _), ⟨aw12 _, fun _ => ⟨(), rfl, nofun⟩⟩⟩⟩⟩⟩⟩⟩⟩⟩⟩⟩⟩⟩⟩⟩⟩⟩⟩⟩⟩⟩⟩⟩⟩⟩⟩⟩⟩⟩⟩⟩
set_option linter.unusedVariables false in
theorem cm_don (s t : Up) (hs : UpOk s) (ht : UpOk t) (e : (1 + modI s.k 12) ≠ (1 + modI t.k 12)) (h1 : 10 < (1 + modI s.k 12)) (h2 : ¬ 10 < (1 + modI t.k 12)) (hx : ¬ (10 < (1 + modI s.k 12) ∧ 10 < (1 + modI t.k 12))) (hA : fi (updP gen (1 + modI s.k 12) (valN s)) = 0) (hB : ¬ fi (updP gen (1 + modI t.k 12) (valN t)) = 0) : Det Try.prog 7 [UV s, UV t] (.bool true) :=
  det_of_vc Try.mixed good_pontagelaw12_ParamsCommute (O := [.reg [(2, det (.int .i64 ((modI s.k 12 : Nat) : Int))), (3, .ld (.int .i64 (((1 + modI s.k 12) : Nat) : Int))), (6, det (.int .i64 ((modI t.k 12 : Nat) : Int))), (7, .ld (.int .i64 (((1 + modI t.k 12) : Nat) : Int)))], .reg [(4, .yes), (5, .yes), (6, .yes), (7, .yes), (8, .yes), (9, .yes), (10, .no)], .no, .reg [(0, det (PV gen)), (3, det (U (valN s))), (4, det (.tuple #[PV (updP gen (1 + modI s.k 12) (valN s)), .int .i64 0]))], .reg [(0, det (PV gen)), (3, det (U (valN t))), (4, det (.tuple #[.agg (List.replicate 21 (Value.int .u64 0)).toArray, .int .i64 15]))], .yes, .reg [(3, det (U (valN t))), (4, det (.tuple #[.agg (List.replicate 21 (Value.int .u64 0)).toArray, .int .i64 15]))], .no, .no, .reg [(0, det (.bool true))]]) fun _ => ⟨mod_raw s.k 12 (by decide) (by decide) _, fun _ => ⟨lp_add (add_1k s.k) _, ⟨mod_raw t.k 12 (by decide) (by decide) _, fun _ => ⟨lp_add (add_1k t.k) _, ⟨gff (keyne e), ⟨gff (keyne e), ⟨gff (keyne e), ⟨gtt (gt10_t h1), ⟨gtt (gt10_t h1), ⟨⟨gff (keyne e), (gt10_t h1)⟩, ⟨(keyne e), ⟨(gt10_f h2), ⟨p_gen _, fun _ => ⟨p_val s hs _, fun _ => ⟨s_ok gen_wf gen_0 (m1 s.k) (m12 s.k) (valN_lt hs) hA _, fun _ => ⟨p_gen _, fun _ => ⟨p_val t ht _, fun _ => ⟨s_no gen_wf gen_0 (m1 t.k) (m12 t.k) (valN_lt ht) hB _, fun _ => ⟨rfl, ⟨p_val t ht _, fun _ => ⟨s_no (wf_up (m1 s.k) (m12 s.k) hA) hA (m1 t.k) (m12 t.k) (valN_lt ht) (fun g => hB ((com_ok hx hA).1 g)) _, fun _ => ⟨rfl, ⟨rfl, ⟨aw12 _, fun _ => ⟨(), rfl, nofun⟩⟩⟩⟩⟩⟩⟩⟩⟩⟩⟩⟩⟩⟩⟩⟩⟩⟩⟩⟩⟩⟩⟩⟩⟩
set_option linter.unusedVariables false in
theorem cm_dno (s t : Up) (hs : UpOk s) (ht : UpOk t) (e : (1 + modI s.k 12) ≠ (1 + modI t.k 12)) (h1 : 10 < (1 + modI s.k 12)) (h2 : ¬ 10 < (1 + modI t.k 12)) (hx : ¬ (10 < (1 + modI s.k 12) ∧ 10 < (1 + modI t.k 12))) (hA : ¬ fi (updP gen (1 + modI s.k 12) (valN s)) = 0) (hB : fi (updP gen (1 + modI t.k 12) (valN t)) = 0) : Det Try.prog 7 [UV s, UV t] (.bool true) :=
  det_of_vc Try.mixed good_pontagelaw12_ParamsCommute (O := [.reg [(2, det (.int .i64 ((modI s.k 12 : Nat) : Int))), (3, .ld (.int .i64 (((1 + modI s.k 12) : Nat) : Int))), (6, det (.int .i64 ((modI t.k 12 : Nat) : Int))), (7, .ld (.int .i64 (((1 + modI t.k 12) : Nat) : Int)))], .reg [(4, .yes), (5, .yes), (6, .yes), (7, .yes), (8, .yes), (9, .yes), (10, .no)], .no, .reg [(0, det (PV gen)), (3, det (U (valN s))), (4, det (.tuple #[.agg (List.replicate 21 (Value.int .u64 0)).toArray, .int .i64 15]))], .reg [(0, det (PV gen)), (3, det (U (valN t))), (4, det (.tuple #[PV (updP gen (1 + modI t.k 12) (valN t)), .int .i64 0]))], .no, .reg [(0, det (.bool true))]]) fun _ => ⟨mod_raw s.k 12 (by decide) (by decide) _, fun _ => ⟨lp_add (add_1k s.k) _, ⟨mod_raw t.k 12 (by decide) (by decide) _, fun _ => ⟨lp_add (add_1k t.k) _, ⟨gff (keyne e), ⟨gff (keyne e), ⟨gff (keyne e), ⟨gtt (gt10_t h1), ⟨gtt (gt10_t h1), ⟨⟨gff (keyne e), (gt10_t h1)⟩, ⟨(keyne e), ⟨(gt10_f h2), ⟨p_gen _, fun _ => ⟨p_val s hs _, fun _ => ⟨s_no gen_wf gen_0 (m1 s.k) (m12 s.k) (valN_lt hs) hA _, fun _ => ⟨p_gen _, fun _ => ⟨p_val t ht _, fun _ => ⟨s_ok gen_wf gen_0 (m1 t.k) (m12 t.k) (valN_lt ht) hB _, fun _ => ⟨rfl, ⟨aw12 _, fun _ => ⟨(), rfl, nofun⟩⟩⟩⟩⟩⟩⟩⟩⟩⟩⟩⟩⟩⟩⟩⟩⟩⟩⟩⟩⟩
set_option linter.unusedVariables false in
theorem cm_dnn (s t : Up) (hs : UpOk s) (ht : UpOk t) (e : (1 + modI s.k 12) ≠ (1 + modI t.k 12)) (h1 : 10 < (1 + modI s.k 12)) (h2 : ¬ 10 < (1 + modI t.k 12)) (hx : ¬ (10 < (1 + modI s.k 12) ∧ 10 < (1 + modI t.k 12))) (hA : ¬ fi (updP gen (1 + modI s.k 12) (valN s)) = 0) (hB : ¬ fi (updP gen (1 + modI t.k 12) (valN t)) = 0) : Det Try.prog 7 [UV s, UV t] (.bool true) :=
  det_of_vc Try.mixed good_pontagelaw12_ParamsCommute (O := [.reg [(2, det (.int .i64 ((modI s.k 12 : Nat) : Int))), (3, .ld (.int .i64 (((1 + modI s.k 12) : Nat) : Int))), (6, det (.int .i64 ((modI t.k 12 : Nat) : Int))), (7, .ld (.int .i64 (((1 + modI t.k 12) : Nat) : Int)))], .reg [(4, .yes), (5, .yes), (6, .yes), (7, .yes), (8, .yes), (9, .yes), (10, .no)], .no, .reg [(0, det (PV gen)), (3, det (U (valN s))), (4, det (.tuple #[.agg (List.replicate 21 (Value.int .u64 0)).toArray, .int .i64 15]))], .reg [(0, det (PV gen)), (3, det (U (valN t))), (4, det (.tuple #[.agg (List.replicate 21 (Value.int .u64 0)).toArray, .int .i64 15]))], .no, .reg [(0, det (.bool true))]]) fun _ => ⟨mod_raw s.k 12 (by decide) (by decide) _, fun _ => ⟨lp_add (add_1k s.k) _, ⟨mod_raw t.k 12 (by decide) (by decide) _, fun _ => ⟨lp_add (add_1k t.k) _, ⟨gff (keyne e), ⟨gff (keyne e), ⟨gff (keyne e), ⟨gtt (gt10_t h1), ⟨gtt (gt10_t h1), ⟨⟨gff (keyne e), (gt10_t h1)⟩, ⟨(keyne e), ⟨(gt10_f h2), ⟨p_gen _, fun _ => ⟨p_val s hs _, fun _ => ⟨s_no gen_wf gen_0 (m1 s.k) (m12 s.k) (valN_lt hs) hA _, fun _ => ⟨p_gen _, fun _ => ⟨p_val t ht _, fun _ => ⟨s_no gen_wf gen_0 (m1 t.k) (m12 t.k) (valN_lt ht) hB _, fun _ => ⟨rfl, ⟨aw12 _, fun _ => ⟨(), rfl, nofun⟩⟩⟩⟩⟩⟩⟩⟩⟩⟩⟩⟩⟩⟩⟩⟩⟩⟩⟩⟩⟩
theorem cm_law (s t : Up) (hs : UpOk s) (ht : UpOk t) : Det Try.prog 7 [UV s, UV t] (.bool true) := by
  by_cases e : (1 + modI s.k 12) = (1 + modI t.k 12)
  · exact cm_a s t hs ht e
  · by_cases h1 : 10 < (1 + modI s.k 12)
    · by_cases h2 : 10 < (1 + modI t.k 12)
      · exact cm_b s t hs ht e h1 h2
      · by_cases hA : fi (updP gen (1 + modI s.k 12) (valN s)) = 0
        · by_cases hB : fi (updP gen (1 + modI t.k 12) (valN t)) = 0
          · exact cm_doo s t hs ht e h1 h2 (and_r h2) hA hB
          · exact cm_don s t hs ht e h1 h2 (and_r h2) hA hB
        · by_cases hB : fi (updP gen (1 + modI t.k 12) (valN t)) = 0
          · exact cm_dno s t hs ht e h1 h2 (and_r h2) hA hB
          · exact cm_dnn s t hs ht e h1 h2 (and_r h2) hA hB
    · by_cases hA : fi (updP gen (1 + modI s.k 12) (valN s)) = 0
      · by_cases hB : fi (updP gen (1 + modI t.k 12) (valN t)) = 0
        · exact cm_coo s t hs ht e h1 (and_l h1) hA hB
        · exact cm_con s t hs ht e h1 (and_l h1) hA hB
      · by_cases hB : fi (updP gen (1 + modI t.k 12) (valN t)) = 0
        · exact cm_cno s t hs ht e h1 (and_l h1) hA hB
        · exact cm_cnn s t hs ht e h1 (and_l h1) hA hB
end Go.Proofs.Ytijmefealelkfaa

