/- Small facts that the laws of several layers lean on: Mod's remainder, comparisons of numbers as Go's '==' answers them. No conditions besides. -/
import Derived.Test.YtlaapbenpjopiaaSxu
namespace Go.Proofs.Ytlaapbenpjopiaa
open Go.RowKit Sx
set_option maxRecDepth 100000

theorem cellsEq_U {a b : Nat} (ha : a < B256) (hb : b < B256) : cellsEq [.int .u64 (limb a 0), .int .u64 (limb a 1), .int .u64 (limb a 2), .int .u64 (limb a 3)] [.int .u64 (limb b 0), .int .u64 (limb b 1), .int .u64 (limb b 2), .int .u64 (limb b 3)] = decide (a = b) := by
  simp only [cellsEq, cellEq, Bool.and_true]
  by_cases h : a = b
  · subst h; simp
  · rw [decide_eq_false h]
    cases e : (limb a 0 == limb b 0 && (limb a 1 == limb b 1 && (limb a 2 == limb b 2 && limb a 3 == limb b 3))) with
    | false => rfl
    | true =>
      simp at e
      exact absurd (limb_inj ha hb e.1 e.2.1 e.2.2.1 e.2.2.2) h
theorem isz_eq {n : Nat} (hn : n < B256) : isz n = decide (n = 0) := by
  have := cellsEq_U hn (b := 0) B256_pos
  obtain ⟨h0, h1, h2, h3⟩ := limb_zero
  rwa [h0, h1, h2, h3] at this
/-- A number's words. -/
abbrev cU (n : Nat) : List Value := [.int .u64 (limb n 0), .int .u64 (limb n 1), .int .u64 (limb n 2), .int .u64 (limb n 3)]
theorem bne_t {z : Int} (h : z ≠ 0) : (z != 0) = true := by simpa using h
theorem bne_f {z : Int} (h : z = 0) : (z != 0) = false := by simpa using h
theorem isz_t {n : Nat} (h : n = 0) : isz n = true := by rw [isz_eq (by rw [h]; exact B256_pos)]; simpa using h
theorem isz_f {n : Nat} (hn : n < B256) (h : n ≠ 0) : isz n = false := by rw [isz_eq hn]; simpa using h
/-- The remainder that Mod gives. -/
def modI (x : Int) (n : Nat) : Nat := (IntKind.u64.wrap x).toNat % n
theorem u64_wrap_nat {n : Nat} (h : n < 18446744073709551616) : IntKind.u64.wrap (n : Int) = (n : Int) := by simp [IntKind.wrap, IntKind.bits, IntKind.signed]; omega
theorem u64_nonneg (x : Int) : 0 ≤ IntKind.u64.wrap x ∧ IntKind.u64.wrap x < 18446744073709551616 := by simp [IntKind.wrap, IntKind.bits, IntKind.signed]; omega
theorem mod_nz {n : Nat} (h0 : n ≠ 0) (hn : n < 4611686018427387904) : IntKind.u64.wrap (n : Int) ≠ 0 := by rw [u64_wrap_nat (by omega)]; omega
theorem mod_fin (x : Int) {n : Nat} (h0 : n ≠ 0) (hn : n < 4611686018427387904) : Value.int .i64 (IntKind.i64.wrap ((IntKind.u64.wrap x).tmod (IntKind.u64.wrap (n : Int)))) = .int .i64 (modI x n) := by
  rw [u64_wrap_nat (by omega)]
  have h := u64_nonneg x
  obtain ⟨y, hy⟩ : ∃ y : Nat, IntKind.u64.wrap x = y := ⟨(IntKind.u64.wrap x).toNat, by omega⟩
  have hlt : y % n < n := Nat.mod_lt _ (by omega)
  rw [modI, hy, show (y : Int).tmod (n : Int) = ((y % n : Nat) : Int) from rfl, wrap_nat (show y % n < 9223372036854775808 by omega)]
  rfl
theorem modI_lt (x : Int) {n : Nat} (h : 0 < n) : modI x n < n := Nat.mod_lt _ h
theorem eqU_self (n : Nat) : cellsEq (cU n) (cU n) = true := by simp [cellsEq, cellEq]
theorem neU_self (n : Nat) : (!cellsEq (cU n) (cU n)) = false := by rw [eqU_self]; rfl
theorem ne_self (z : Int) : (z != z) = false := by simp
theorem lt_B {n : Nat} (hn : n < 18446744073709551616) : n < B256 := Nat.lt_of_lt_of_le hn (by unfold B256; omega)
theorem cU_word {k : Nat} (hk : k < 18446744073709551616) : ([.int .u64 k, .int .u64 0, .int .u64 0, .int .u64 0] : List Value) = cU k := by
  have := U_word k hk
  simp only [U, Value.agg.injEq, Array.mk.injEq] at this
  exact this.symm
theorem cmp_w (c d : Nat) (hc : c < 18446744073709551616) (hd : d < 18446744073709551616) : Det Try.prog 68 [.agg #[.int .u64 c, .int .u64 0, .int .u64 0, .int .u64 0], .agg #[.int .u64 d, .int .u64 0, .int .u64 0, .int .u64 0]] (.int .i64 (cmpI c d)) := by
  have := d_cmp c d (lt_B hc) (lt_B hd)
  rwa [U_word c hc, U_word d hd] at this
theorem limb_self {k : Nat} (hk : k < 18446744073709551616) : limb k 0 = (k : Int) := by rw [limb0]; omega
end Go.Proofs.Ytlaapbenpjopiaa

