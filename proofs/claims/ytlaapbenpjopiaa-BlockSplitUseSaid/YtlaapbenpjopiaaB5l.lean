/- The laws of layer 5 over this translation, for all arguments: each returns true. No conditions besides. -/
import Derived.Test.YtlaapbenpjopiaaB5p
namespace Go.Proofs.Ytlaapbenpjopiaa
open Go.RowKit Sx
set_option maxRecDepth 100000

/-- The rounds of a loop over three, and over two. -/
inductive I4 where
  | a | b | c | d
def I4.n : I4 → Nat
  | .a => 0 | .b => 1 | .c => 2 | .d => 3
inductive J3 where
  | a | b | c
def J3.n : J3 → Nat
  | .a => 0 | .b => 1 | .c => 2

theorem aw_e1 : Det Try.prog 39 [.int .u64 10000, .int .i64 1] (.tuple #[.int .u64 20000, .int .i64 0]) := by
  have := exp_ok 10000 1 (by decide) (by decide) (by decide)
  rwa [show expN 10000 1 = 20000 by decide] at this
theorem aw_e4 : Det Try.prog 39 [.int .u64 10000, .int .i64 4] (.tuple #[.int .u64 27083, .int .i64 0]) := by
  have := exp_ok 10000 4 (by decide) (by decide) (by decide)
  rwa [show expN 10000 4 = 27083 by decide] at this
theorem one_mod (s : Int) : IntKind.i64.wrap (1 + (modI s 20 : Int)) = ((1 + modI s 20 : Nat) : Int) := by
  have := modI_lt s (n := 20) (by decide)
  rw [show (1 : Int) + (modI s 20 : Int) = ((1 + modI s 20 : Nat) : Int) by omega, wrap_nat (by omega)]
theorem se_arr (t : Int) : Value.agg #[.int .i64 t, .int .i64 (IntKind.i64.wrap (1 + (modI t 20 : Int)))] = .agg #[.int .i64 t, .int .i64 ((1 + modI t 20 : Nat) : Int)] := by rw [one_mod]
theorem le_m (x : Nat) : x % 200001 ≤ 200000 := by omega
theorem le_s (x : Nat) : x % 10001 ≤ 10000 := by omega
theorem exp_m (x : Nat) (s : Int) (hx : x ≤ 200000) : Det Try.prog 39 [.int .u64 x, .int .i64 (IntKind.i64.wrap (1 + (modI s 20 : Int)))] (.tuple #[.int .u64 (expN x (1 + modI s 20)), .int .i64 0]) := by
  have := modI_lt s (n := 20) (by decide)
  rw [one_mod]
  exact exp_ok x (1 + modI s 20) hx (by omega) (by omega)
theorem exp_z (s : Int) : Det Try.prog 39 [.int .u64 0, .int .i64 (IntKind.i64.wrap (1 + (modI s 20 : Int)))] (.tuple #[.int .u64 10000, .int .i64 0]) := by
  have := exp_m 0 s (by omega)
  rwa [exp_zero] at this
theorem gt_n {a b : Nat} (h : decide ((a : Int) > (b : Int)) = true) : b ≤ a := by have := of_decide_eq_true h; omega
theorem le_n {a b : Nat} (h : decide ((a : Int) > (b : Int)) = false) : a ≤ b := by have := of_decide_eq_false h; omega
theorem gt_m {s t : Int} (h : decide (IntKind.i64.wrap (1 + (modI s 20 : Int)) > IntKind.i64.wrap (1 + (modI t 20 : Int))) = true) : 1 + modI t 20 ≤ 1 + modI s 20 := by
  rw [one_mod, one_mod] at h; exact gt_n h
theorem le_mm {s t : Int} (h : decide (IntKind.i64.wrap (1 + (modI s 20 : Int)) > IntKind.i64.wrap (1 + (modI t 20 : Int))) = false) : 1 + modI s 20 ≤ 1 + modI t 20 := by
  rw [one_mod, one_mod] at h; exact le_n h
theorem ge_dec {a b : Nat} (h : b ≤ a) : decide ((a : Int) ≥ (b : Int)) = true := by apply decide_eq_true; omega
theorem p_ge (x : Nat) (s : Int) : decide ((expN (x % 200001) (1 + modI s 20) : Int) ≥ IntKind.u64.wrap (10000 + ((x % 200001 : Nat) : Int))) = true := by
  rw [show (10000 : Int) + ((x % 200001 : Nat) : Int) = ((10000 + x % 200001 : Nat) : Int) by omega, u64_wrap_nat (by omega)]
  exact ge_dec (exp_ge _ (by omega))
theorem q_ge {a b : Nat} (s : Int) (h : a ≤ b) : decide ((expN b (1 + modI s 20) : Int) ≥ (expN a (1 + modI s 20) : Int)) = true := ge_dec (exp_mono h _)
theorem r_ge (x : Nat) {m n : Nat} (h : m ≤ n) : decide ((expN (x % 200001) n : Int) ≥ (expN (x % 200001) m : Int)) = true := ge_dec (exp_terms _ h)
theorem cmp_le {a b : Nat} (h : a ≤ b) : decide (cmpI a b ≤ 0) = true := by
  apply decide_eq_true
  unfold cmpI
  split
  · omega
  · rw [if_neg (by omega)]; omega
theorem ad_x (b : Nat) : IntKind.u64.wrap (10001 - ((b % 10001 : Nat) : Int)) = ((10001 - b % 10001 : Nat) : Int) := by
  rw [show (10001 : Int) - ((b % 10001 : Nat) : Int) = ((10001 - b % 10001 : Nat) : Int) by omega, u64_wrap_nat (by omega)]
theorem ad_nz (b : Nat) : IntKind.u64.wrap (10001 - ((b % 10001 : Nat) : Int)) ≠ 0 := by rw [ad_x]; omega
theorem ad_y (b c : Nat) : (c : Int).tmod (IntKind.u64.wrap (10001 - ((b % 10001 : Nat) : Int))) = ((c % (10001 - b % 10001) : Nat) : Int) := by rw [ad_x]; rfl
theorem y_lt (b c : Nat) : c % (10001 - b % 10001) < 10001 - b % 10001 := Nat.mod_lt _ (by omega)
theorem le_y (b c : Nat) : c % (10001 - b % 10001) ≤ 10000 := by have := y_lt b c; omega
theorem le_xy (b c : Nat) : b % 10001 + c % (10001 - b % 10001) ≤ 10000 := by have := y_lt b c; omega
theorem ad_xy (b c : Nat) : IntKind.u64.wrap (((b % 10001 : Nat) : Int) + (c : Int).tmod (IntKind.u64.wrap (10001 - ((b % 10001 : Nat) : Int)))) = ((b % 10001 + c % (10001 - b % 10001) : Nat) : Int) := by
  have := le_xy b c
  rw [ad_y, show ((b % 10001 : Nat) : Int) + ((c % (10001 - b % 10001) : Nat) : Int) = ((b % 10001 + c % (10001 - b % 10001) : Nat) : Int) by omega, u64_wrap_nat (by omega)]
theorem parts_lt (n b c : Nat) (hn : n < B256) : scN n (b % 10001) + scN n (c % (10001 - b % 10001)) < B256 := Nat.lt_of_le_of_lt (scN_add n _ _).1 (scN_lt hn (le_xy b c))
theorem one_ge (n b c : Nat) : scN n (b % 10001 + c % (10001 - b % 10001)) - (scN n (b % 10001) + scN n (c % (10001 - b % 10001))) ≤ 1 := by
  have := (scN_add n (b % 10001) (c % (10001 - b % 10001))).2
  omega
theorem cmp_one (d : Nat) (hd : d < B256) : Det Try.prog 68 [U d, .agg #[.int .u64 1, .int .u64 0, .int .u64 0, .int .u64 0]] (.int .i64 (cmpI d 1)) := by
  have := d_cmp d 1 hd (by decide)
  rwa [U_word 1 (by decide)] at this

end Go.Proofs.Ytlaapbenpjopiaa

