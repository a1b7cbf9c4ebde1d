/- Contracts of package int256's functions over this translation, and of the reference's: the same results, as functions of signs and magnitudes. DivFloor's holds where the package's variable for the largest number holds the largest number. -/
import Derived.Test.YtbhffhipbdakgaaDoorI3a
import Derived.Test.YtbhffhipbdakgaaDoorI3t
import Derived.Test.YtbhffhipbdakgaaDoorSat
import Derived.Test.YtbhffhipbdakgaaDoorMdg
namespace Go.Proofs.YtbhffhipbdakgaaDoor
open Go.RowKit Sx
set_option maxRecDepth 100000

theorem d_add (a b : Nat) (ha : a < B256) (hb : b < B256) : Det Tryd.prog 31 [U a, U b] (.tuple #[U (addR a b), .int .i64 (addE a b)]) := .of_calls ⟨_, Tryd.func31, by kernel_rfl, rfl⟩ fun w => add_any a b ha hb w
theorem d_mul (a b : Nat) (ha : a < B256) (hb : b < B256) : Det Tryd.prog 37 [U a, U b] (.tuple #[U (mulR a b), .int .i64 (mulE a b)]) := .of_calls ⟨_, Tryd.func37, by kernel_rfl, rfl⟩ fun w => mul_any a b ha hb w
theorem d_cmp (a b : Nat) (ha : a < B256) (hb : b < B256) : Det Tryd.prog 48 [U a, U b] (.int .i64 (cmpI a b)) := .of_calls ⟨_, Tryd.func48, by kernel_rfl, rfl⟩ fun w => cmp_any a b ha hb w
theorem d_u64 (n : Nat) (hn : n < 18446744073709551616) : Det Tryd.prog 45 [.int .u64 n] (U n) := .of_calls ⟨_, Tryd.func45, by kernel_rfl, rfl⟩ fun w => u64_any n hn w
theorem d_satsub (a b : Nat) (ha : a < B256) (hb : b < B256) : Det Tryd.prog 39 [U a, U b] (U (subR a b)) := .of_calls ⟨_, Tryd.func39, by kernel_rfl, rfl⟩ fun w => satsub_any a b ha hb w
theorem d_divmod (a b : Nat) (ha : a < B256) (hb : b < B256) : Det Tryd.prog 43 [U a, U b] (.tuple #[U (quoR b (a / b)), U (remR b (a / b) (a % b)), .int .i64 (quoE b (a / b))]) := .of_calls ⟨_, Tryd.func43, by kernel_rfl, rfl⟩ fun w => dm_any a b ha hb w

theorem valid_any (s : Bool) (n : Nat) (hn : n < B256) : Det Tryd.prog 25 [Ic s n] (.bool (val s n)) := by
  cases s with
  | false => exact valid_f n
  | true => have := valid_t n; rw [isz_eq hn] at this; simpa [val] using this
theorem new_any (s : Bool) (n : Nat) (hn : n < B256) : Det Tryd.prog 15 [.bool s, U n] (Ic (s && decide (n ≠ 0)) n) := by
  cases s with
  | false => exact new_f n
  | true => have := new_t n; rw [isz_eq hn] at this; simpa using this
theorem both_any (s t : Bool) (n m : Nat) (hn : n < B256) (hm : m < B256) : Det Tryd.prog 30 [Ic s n, Ic t m] (.bool (val s n && val t m)) := by
  cases h : val s n with
  | false => exact both_no s t n m (h ▸ valid_any s n hn)
  | true => exact both_yes s t (val t m) n m (h ▸ valid_any s n hn) (valid_any t m hm)

def negE (s : Bool) (n : Nat) : Int := if val s n then 0 else 2
abbrev negV (s : Bool) (n : Nat) : Value := .tuple #[Ic (!s && decide (n ≠ 0)) n, .int .i64 (negE s n)]
theorem val_cases (s : Bool) (n : Nat) : val s n = true ∨ (s = true ∧ n = 0) := by
  cases s
  · exact .inl rfl
  · by_cases h : n = 0
    · exact .inr ⟨rfl, h⟩
    · exact .inl (by rw [val_true]; simpa using h)
theorem neg_any (s : Bool) (n : Nat) (hn : n < B256) : Det Tryd.prog 23 [Ic s n] (negV s n) := by
  have hv := valid_any s n hn
  rcases val_cases s n with h | ⟨rfl, rfl⟩
  · rw [h] at hv
    rw [negV, show negE s n = 0 from if_pos h]
    cases s with
    | false => exact neg_f n n _ hv (new_any true n hn)
    | true => exact neg_t n n _ hv (new_any false n hn)
  · have := neg_no true 0 hv
    rw [negV, show negE true 0 = 2 from rfl]
    simpa [Ic_zero] using this

/-- The order of two pairs: of valid ones by the sign of the difference. -/
def cmpZ3 (v : Bool) (z : Int) : Int := if v then (if z < 0 then -1 else if 0 < z then 1 else 0) else 0
theorem icmp_any (s t : Bool) (n m : Nat) (hn : n < B256) (hm : m < B256) : Det Tryd.prog 26 [Ic s n, Ic t m] (.int .i64 (cmpZ3 (val s n && val t m) (sgn s n - sgn t m))) := by
  have hb := both_any s t n m hn hm
  cases hv : (val s n && val t m) with
  | false => rw [hv] at hb; exact icmp_no s t n m hb
  | true =>
    rw [hv] at hb
    simp only [Bool.and_eq_true] at hv
    cases s <;> cases t
    · have e : cmpZ3 true (sgn false n - sgn false m) = cmpI n m := by unfold cmpZ3 cmpI sgn; simp only [if_true, Bool.false_eq_true, if_false]; (repeat' split) <;> omega
      rw [e]; exact icmp_ff n m _ hb (d_cmp n m hn hm)
    · have e : cmpZ3 true (sgn false n - sgn true m) = 1 := by have := hv.2; rw [val_true] at this; simp at this; unfold cmpZ3 sgn; simp only [if_true, Bool.false_eq_true, if_false]; rw [if_neg (by omega), if_pos (by omega)]
      rw [e]; exact icmp_ft n m hb
    · have e : cmpZ3 true (sgn true n - sgn false m) = -1 := by have := hv.1; rw [val_true] at this; simp at this; unfold cmpZ3 sgn; simp only [if_true, Bool.false_eq_true, if_false]; rw [if_pos (by omega)]
      rw [e]; exact icmp_tf n m hb
    · have e : cmpZ3 true (sgn true n - sgn true m) = cmpI m n := by unfold cmpZ3 cmpI sgn; simp only [if_true]; (repeat' split) <;> omega
      rw [e]; exact icmp_tt n m _ hb (d_cmp m n hm hn)

theorem diff_any (n m : Nat) (hn : n < B256) (hm : m < B256) : Det Tryd.prog 21 [U n, U m] (Ic (decide ((n : Int) - m < 0)) ((n : Int) - m).natAbs) := by
  by_cases h : n < m
  · have e : ((n : Int) - m).natAbs = m - n := by omega
    have d : decide ((n : Int) - m < 0) = (true && decide (m - n ≠ 0)) := by rw [decide_eq_true (show (n : Int) - m < 0 by omega), decide_eq_true (show m - n ≠ 0 by omega)]; rfl
    rw [e, d]
    have hs := d_satsub m n hm hn
    rw [show subR m n = m - n from if_pos (by omega)] at hs
    exact diff_lt n m (m - n) (m - n) (cmpI n m) _ (by simp [cmpI, h]) (d_cmp n m hn hm) hs (new_any true (m - n) (by omega))
  · have e : ((n : Int) - m).natAbs = n - m := by omega
    have d : decide ((n : Int) - m < 0) = (false && decide (n - m ≠ 0)) := by simp; omega
    rw [e, d]
    have hs := d_satsub n m hn hm
    rw [show subR n m = n - m from if_pos (by omega)] at hs
    exact diff_ge n m (n - m) (n - m) (cmpI n m) _ (by unfold cmpI; rw [if_neg h]; split <;> decide) (d_cmp n m hn hm) hs (new_any false (n - m) (by omega))

theorem resV_no (z : Int) : resV false z = .tuple #[.agg #[.bool false, .int .u64 0, .int .u64 0, .int .u64 0, .int .u64 0], .int .i64 2] := by
  rw [← Ic_zero]; rfl
theorem resV_small {z : Int} (h : z.natAbs < B256) : resV true z = .tuple #[Ic (decide (z < 0)) z.natAbs, .int .i64 0] := by
  rw [resV, show resN true z = z.natAbs from by simp [resN, chkR, h], show resS true z = decide (z < 0) from by simp [resS, ckS, h], show resE true z = 0 from by simp [resE, chkE, h]]

theorem iadd_any (s t : Bool) (n m : Nat) (hn : n < B256) (hm : m < B256) : Det Tryd.prog 10 [Ic s n, Ic t m] (resV (val s n && val t m) (sgn s n + sgn t m)) := by
  have hb := both_any s t n m hn hm
  cases hv : (val s n && val t m) with
  | false => rw [hv] at hb; rw [resV_no]; exact iadd_no s t n m hb
  | true =>
    rw [hv] at hb
    cases s <;> cases t
    · have e : (sgn false n + sgn false m).natAbs = n + m := by simp [sgn]; omega
      have := iadd_ff n m (addR n m) (addR n m) (addE n m) _ hb (d_add n m hn hm) (new_any false _ (addR_lt n m))
      have d : resS true (sgn false n + sgn false m) = (false && decide (addR n m ≠ 0)) := by simp [resS, ckS, sgn]; omega
      rw [resV, d, show resN true (sgn false n + sgn false m) = addR n m by simp [resN, e, chkR, addR], show resE true (sgn false n + sgn false m) = addE n m by simp [resE, e, chkE, addE]]
      exact this
    · rw [resV_small (by simp [sgn]; omega), show sgn false n + sgn true m = (n : Int) - m by simp [sgn]; omega]
      exact iadd_ft n m _ _ hb (diff_any n m hn hm)
    · rw [resV_small (by simp [sgn]; omega), show sgn true n + sgn false m = (m : Int) - n by simp [sgn]; omega]
      exact iadd_tf n m _ _ hb (diff_any m n hm hn)
    · have e : (sgn true n + sgn true m).natAbs = n + m := by simp [sgn]; omega
      have := iadd_tt n m (addR n m) (addR n m) (addE n m) _ hb (d_add n m hn hm) (new_any true _ (addR_lt n m))
      have d : resS true (sgn true n + sgn true m) = (true && decide (addR n m ≠ 0)) := by
        have e' : (-(n : Int) + -(m : Int)).natAbs = n + m := by omega
        simp only [resS, ckS, sgn, if_true, e', addR, Bool.true_and]
        by_cases h : n + m < B256
        · simp only [h, if_true]; rw [decide_eq_decide]; omega
        · simp [h]
      rw [resV, d, show resN true (sgn true n + sgn true m) = addR n m by simp [resN, e, chkR, addR], show resE true (sgn true n + sgn true m) = addE n m by simp [resE, e, chkE, addE]]
      exact this

theorem isub_any (s t : Bool) (n m : Nat) (hn : n < B256) (hm : m < B256) : Det Tryd.prog 12 [Ic s n, Ic t m] (resV (val s n && val t m) (sgn s n - sgn t m)) := by
  have hng := neg_any t m hm
  cases hv : val t m with
  | false =>
    rw [Bool.and_false, resV_no]
    have e : negE t m = 2 := by simp [negE, hv]
    rw [negV, e] at hng
    exact isub_no s t _ n m m 2 rfl hng
  | true =>
    have e : negE t m = 0 := by simp [negE, hv]
    rw [negV, e] at hng
    have ha := iadd_any s (!t && decide (m ≠ 0)) n m hn hm
    have v2 : val (!t && decide (m ≠ 0)) m = true := by cases t <;> by_cases h : m = 0 <;> simp [val, h]
    have z2 : sgn (!t && decide (m ≠ 0)) m = - sgn t m := by cases t <;> by_cases h : m = 0 <;> simp [sgn, h]
    rw [v2, z2, ← Int.sub_eq_add_neg] at ha
    exact isub_yes s t _ _ n m m _ _ hng ha

theorem imul_any (s t : Bool) (n m : Nat) (hn : n < B256) (hm : m < B256) : Det Tryd.prog 13 [Ic s n, Ic t m] (resV (val s n && val t m) (sgn s n * sgn t m)) := by
  have hb := both_any s t n m hn hm
  cases hv : (val s n && val t m) with
  | false => rw [hv] at hb; rw [resV_no]; exact imul_no s t n m hb
  | true =>
    rw [hv] at hb
    have e : (sgn s n * sgn t m).natAbs = n * m := by rw [Int.natAbs_mul, sgn_abs, sgn_abs]
    have d : resS true (sgn s n * sgn t m) = ((s != t) && decide (mulR n m ≠ 0)) := by
      simp only [resS, ckS, e, mulR, Bool.true_and]
      by_cases h : n * m < B256
      · simp only [h, if_true]
        have hp : (0 : Int) ≤ (n : Int) * m := Int.mul_nonneg (Int.natCast_nonneg _) (Int.natCast_nonneg _)
        have hc : ((n * m : Nat) : Int) = (n : Int) * m := Int.natCast_mul n m
        cases s <;> cases t
        · show decide ((n : Int) * (m : Int) < 0) = false
          exact decide_eq_false (by omega)
        · show decide ((n : Int) * -(m : Int) < 0) = decide (n * m ≠ 0)
          rw [Int.mul_neg, decide_eq_decide]; omega
        · show decide (-(n : Int) * (m : Int) < 0) = decide (n * m ≠ 0)
          rw [Int.neg_mul, decide_eq_decide]; omega
        · show decide (-(n : Int) * -(m : Int) < 0) = false
          rw [Int.neg_mul_neg]
          exact decide_eq_false (by omega)
      · simp [h]
    rw [resV, d, show resN true (sgn s n * sgn t m) = mulR n m by simp [resN, e, chkR, mulR], show resE true (sgn s n * sgn t m) = mulE n m by simp [resE, e, chkE, mulE]]
    cases s <;> cases t
    · exact imul_ff n m _ _ _ _ hb (d_mul n m hn hm) (new_any false _ (mulR_lt n m))
    · exact imul_ft n m _ _ _ _ hb (d_mul n m hn hm) (new_any true _ (mulR_lt n m))
    · exact imul_tf n m _ _ _ _ hb (d_mul n m hn hm) (new_any true _ (mulR_lt n m))
    · exact imul_tt n m _ _ _ _ hb (d_mul n m hn hm) (new_any false _ (mulR_lt n m))

def clN (v : Bool) (z : Int) : Nat := if v then (if z < 0 then 0 else chkR z.natAbs) else 0
def clE (v : Bool) (z : Int) : Int := if v then (if z < 0 then 0 else chkE z.natAbs) else 2
theorem clN_lt (v : Bool) (z : Int) : clN v z < B256 := by unfold clN; split; split; exact B256_pos; exact chkR_lt _; exact B256_pos
abbrev clV (v : Bool) (z : Int) : Value := .tuple #[U (clN v z), .int .i64 (clE v z)]
theorem clamp_any (a : Nat) (s : Bool) (n : Nat) (ha : a < B256) (hn : n < B256) : Det Tryd.prog 17 [U a, Ic s n] (clV (val s n) (a + sgn s n)) := by
  have hv := valid_any s n hn
  cases h : val s n with
  | false =>
    rw [h] at hv
    rw [clV, show clN false (a + sgn s n) = 0 from rfl, show clE false (a + sgn s n) = 2 from rfl, U_zero]
    exact clamp_no a s n hv
  | true =>
    rw [h] at hv
    cases s with
    | false =>
      rw [clV, show clN true (a + sgn false n) = addR a n by simp only [clN, sgn, if_true, Bool.false_eq_true, if_false]; rw [if_neg (by omega), show ((a : Int) + n).natAbs = a + n by omega]; rfl,
        show clE true (a + sgn false n) = addE a n by simp only [clE, sgn, if_true, Bool.false_eq_true, if_false]; rw [if_neg (by omega), show ((a : Int) + n).natAbs = a + n by omega]; rfl]
      exact clamp_f a n _ _ hv (d_add a n ha hn)
    | true =>
      have e1 : clN true (a + sgn true n) = subR a n := by
        simp only [clN, sgn, if_true, subR]
        by_cases hl : n ≤ a
        · rw [if_neg (by omega), if_pos hl, show ((a : Int) + -(n : Int)).natAbs = a - n by omega]; unfold chkR; rw [if_pos (by omega)]
        · rw [if_pos (by omega), if_neg hl]
      have e2 : clE true (a + sgn true n) = 0 := by
        simp only [clE, sgn, if_true]
        by_cases hl : n ≤ a
        · rw [if_neg (by omega), show ((a : Int) + -(n : Int)).natAbs = a - n by omega]; unfold chkE; rw [if_pos (by omega)]
        · rw [if_pos (by omega)]
      rw [clV, e1, e2]
      exact clamp_t a n _ hv (d_satsub a n ha hn)

theorem wrapU (z : Int) (h0 : 0 ≤ z) (h1 : z < 18446744073709551616) : IntKind.u64.wrap z = z := by simp [IntKind.wrap, IntKind.bits, IntKind.signed]; omega
theorem wrapN (z : Int) (h0 : z < 0) (h1 : -9223372036854775808 ≤ z) : IntKind.u64.wrap (IntKind.u64.wrap (IntKind.i64.wrap (0 - IntKind.i64.wrap (z + 1))) + 1) = (z.natAbs : Int) := by
  have e1 : IntKind.i64.wrap (z + 1) = z + 1 := by simp [IntKind.wrap, IntKind.bits, IntKind.signed]; omega
  have e2 : IntKind.i64.wrap (0 - (z + 1)) = 0 - (z + 1) := by simp [IntKind.wrap, IntKind.bits, IntKind.signed]; omega
  rw [e1, e2, wrapU (0 - (z + 1)) (by omega) (by omega), wrapU _ (by omega) (by omega)]
  omega
theorem i64_any (z : Int) (h0 : -9223372036854775808 ≤ z) (h1 : z < 9223372036854775808) : Det Tryd.prog 28 [.int .i64 z] (Ic (decide (z < 0)) z.natAbs) := by
  have hlt : z.natAbs < 18446744073709551616 := by omega
  have h256 : z.natAbs < B256 := Nat.lt_trans hlt (by decide)
  have hc := d_u64 z.natAbs hlt
  by_cases h : z < 0
  · have hn := new_any true z.natAbs h256
    rw [show (true && decide (z.natAbs ≠ 0)) = decide (z < 0) by simp [h]; omega] at hn
    exact i64_lt z z.natAbs z.natAbs _ (by simp; omega) (by rw [wrapN z h h0]; exact hc) hn
  · have hn := new_any false z.natAbs h256
    rw [show (false && decide (z.natAbs ≠ 0)) = decide (z < 0) by simp [h]] at hn
    exact i64_ge z z.natAbs z.natAbs _ (by simp; omega) (by rw [wrapU z (by omega) (by omega)]; rw [show (z.natAbs : Int) = z by omega] at hc; exact hc) hn
theorem ri64_any (z : Int) (h0 : -9223372036854775808 ≤ z) (h1 : z < 9223372036854775808) : Det Tryd.prog 29 [.int .i64 z] (Ic (decide (z < 0)) z.natAbs) := by
  have hlt : z.natAbs < 18446744073709551616 := by omega
  have hU := U_word z.natAbs hlt
  simp only [U, Value.agg.injEq, Array.mk.injEq, List.cons.injEq, Value.int.injEq, true_and, and_true] at hU
  obtain ⟨u0, u1, u2, u3⟩ := hU
  rw [Ic, u0, u1, u2, u3]
  by_cases h : z < 0
  · have := ri64_lt z (by simp [h])
    rw [wrapN z h h0] at this
    simpa [h] using this
  · have := ri64_ge z (by simp [h])
    rw [wrapU z (by omega) (by omega)] at this
    rw [show (z.natAbs : Int) = z by omega]
    simpa [h] using this
end Go.Proofs.YtbhffhipbdakgaaDoor

