/- Plain arithmetic: a number below 2^256 as four words of 64 bits, and as digits in base 65536. No Go in this text; no conditions. -/
import Derived.WalkKit
namespace Go.Proofs.YtkionnggdncncaaDoor

/-- 2^256. -/
def B256 : Nat := 115792089237316195423570985008687907853269984665640564039457584007913129639936

/-- Word i of n. -/
def limb (n i : Nat) : Int := ((n / 18446744073709551616 ^ i % 18446744073709551616 : Nat) : Int)

/-- The value of type api.Uint256 that stands for n. -/
abbrev U (n : Nat) : Value := .agg #[.int .u64 (limb n 0), .int .u64 (limb n 1), .int .u64 (limb n 2), .int .u64 (limb n 3)]

theorem limb_nonneg (n i : Nat) : 0 ≤ limb n i := by unfold limb; omega
theorem limb_lt (n i : Nat) : limb n i < 18446744073709551616 := by unfold limb; omega

theorem limb0 (n : Nat) : limb n 0 = ((n % 18446744073709551616 : Nat) : Int) := by simp [limb]
theorem limb1 (n : Nat) : limb n 1 = ((n / 18446744073709551616 % 18446744073709551616 : Nat) : Int) := by simp [limb]
theorem limb2 (n : Nat) : limb n 2 = ((n / 340282366920938463463374607431768211456 % 18446744073709551616 : Nat) : Int) := by simp [limb]
theorem limb3 (n : Nat) : limb n 3 = ((n / 6277101735386680763835789423207666416102355444464034512896 % 18446744073709551616 : Nat) : Int) := by simp [limb]

theorem limb_sum {n : Nat} (h : n < B256) : (n : Int) = limb n 0 + 18446744073709551616 * limb n 1 + 340282366920938463463374607431768211456 * limb n 2 + 6277101735386680763835789423207666416102355444464034512896 * limb n 3 := by
  rw [limb0, limb1, limb2, limb3]; unfold B256 at h; omega

/-- The words of a number are the only ones that add up to it. -/
theorem limb_of {n : Nat} {x0 x1 x2 x3 : Int} (a0 : 0 ≤ x0) (b0 : x0 < 18446744073709551616) (a1 : 0 ≤ x1) (b1 : x1 < 18446744073709551616) (a2 : 0 ≤ x2) (b2 : x2 < 18446744073709551616) (a3 : 0 ≤ x3) (b3 : x3 < 18446744073709551616)
    (h : (n : Int) = x0 + 18446744073709551616 * x1 + 340282366920938463463374607431768211456 * x2 + 6277101735386680763835789423207666416102355444464034512896 * x3) :
    x0 = limb n 0 ∧ x1 = limb n 1 ∧ x2 = limb n 2 ∧ x3 = limb n 3 := by
  rw [limb0, limb1, limb2, limb3]; omega

theorem limb_zero : limb 0 0 = 0 ∧ limb 0 1 = 0 ∧ limb 0 2 = 0 ∧ limb 0 3 = 0 := by rw [limb0, limb1, limb2, limb3]; decide

theorem U_zero : U 0 = .agg #[.int .u64 0, .int .u64 0, .int .u64 0, .int .u64 0] := by
  obtain ⟨y0, y1, y2, y3⟩ := limb_zero
  rw [U, y0, y1, y2, y3]
/-- Four words are those of a number below 2^256. -/
theorem exists_limbs {x0 x1 x2 x3 : Int} (a0 : 0 ≤ x0) (b0 : x0 < 18446744073709551616) (a1 : 0 ≤ x1) (b1 : x1 < 18446744073709551616) (a2 : 0 ≤ x2) (b2 : x2 < 18446744073709551616) (a3 : 0 ≤ x3) (b3 : x3 < 18446744073709551616) :
    ∃ n : Nat, n < B256 ∧ x0 = limb n 0 ∧ x1 = limb n 1 ∧ x2 = limb n 2 ∧ x3 = limb n 3 :=
  ⟨(x0 + 18446744073709551616 * x1 + 340282366920938463463374607431768211456 * x2 + 6277101735386680763835789423207666416102355444464034512896 * x3).toNat, by unfold B256; omega,
    limb_of a0 b0 a1 b1 a2 b2 a3 b3 (by omega)⟩

theorem limb_inj {a b : Nat} (ha : a < B256) (hb : b < B256) (h0 : limb a 0 = limb b 0) (h1 : limb a 1 = limb b 1) (h2 : limb a 2 = limb b 2) (h3 : limb a 3 = limb b 3) : a = b := by
  have := limb_sum ha; have := limb_sum hb; omega

/-- What the checked operations return. -/
def addR (a b : Nat) : Nat := if a + b < B256 then a + b else 0
def addE (a b : Nat) : Int := if a + b < B256 then 0 else 4
def subR (a b : Nat) : Nat := if b ≤ a then a - b else 0
def subE (a b : Nat) : Int := if b ≤ a then 0 else 4
def mulR (a b : Nat) : Nat := if a * b < B256 then a * b else 0
def mulE (a b : Nat) : Int := if a * b < B256 then 0 else 4
theorem B256_pos : 0 < B256 := by unfold B256; omega
theorem addR_lt (a b : Nat) : addR a b < B256 := by unfold addR; split <;> first | assumption | exact B256_pos
theorem mulR_lt (a b : Nat) : mulR a b < B256 := by unfold mulR; split <;> first | assumption | exact B256_pos
theorem subR_lt {a : Nat} (b : Nat) (ha : a < B256) : subR a b < B256 := by unfold subR; split <;> omega

/-- The order as Go's Cmp says it. -/
def cmpI (a b : Nat) : Int := if a < b then -1 else if b < a then 1 else 0

/-- The number of binary digits. -/
def blen (n : Nat) : Nat := if n = 0 then 0 else Nat.log2 n + 1
theorem blen_lt (n : Nat) : n < 2 ^ blen n := by
  unfold blen; split
  · simp_all
  · exact Nat.lt_log2_self
theorem blen_le {n : Nat} (h : n ≠ 0) : 2 ^ (blen n - 1) ≤ n := by
  unfold blen; rw [if_neg h]; simpa using Nat.log2_self_le h
theorem blen_zero : blen 0 = 0 := rfl
theorem blen_pos {n : Nat} (h : n ≠ 0) : 0 < blen n := by unfold blen; rw [if_neg h]; omega
/-- The number of binary digits is the only k with 2^(k-1) <= n < 2^k. -/
theorem blen_eq {n k : Nat} (h1 : 2 ^ k ≤ n) (h2 : n < 2 ^ (k + 1)) : blen n = k + 1 := by
  have hn : n ≠ 0 := by have := Nat.two_pow_pos k; omega
  have a := blen_le hn
  have b := blen_lt n
  have c := blen_pos hn
  have l1 : blen n - 1 < k + 1 := (Nat.pow_lt_pow_iff_right (by omega : 1 < 2)).1 (Nat.lt_of_le_of_lt a h2)
  have l2 : k < blen n := (Nat.pow_lt_pow_iff_right (by omega : 1 < 2)).1 (Nat.lt_of_le_of_lt h1 b)
  omega
theorem blen_mono {a b : Nat} (h : a ≤ b) : blen a ≤ blen b := by
  by_cases ha : a = 0
  · subst ha; simp [blen_zero]
  · have c := blen_pos ha
    have l : blen a - 1 < blen b := (Nat.pow_lt_pow_iff_right (by omega : 1 < 2)).1 (Nat.lt_of_le_of_lt (blen_le ha) (Nat.lt_of_le_of_lt h (blen_lt b)))
    omega
/-- Digits above k places. -/
theorem blen_shift {x k r : Nat} (hx : x ≠ 0) (hr : r < 2 ^ k) : blen (x * 2 ^ k + r) = k + blen x := by
  have c := blen_pos hx
  have h1 : 2 ^ (blen x - 1) * 2 ^ k ≤ x * 2 ^ k := Nat.mul_le_mul_right _ (blen_le hx)
  have h2 : (x + 1) * 2 ^ k ≤ 2 ^ blen x * 2 ^ k := Nat.mul_le_mul_right _ (blen_lt x)
  rw [← Nat.pow_add] at h1 h2
  rw [Nat.add_mul] at h2
  have e : blen (x * 2 ^ k + r) = (blen x - 1 + k) + 1 := blen_eq (by omega) (by rw [show blen x - 1 + k + 1 = blen x + k from by omega]; omega)
  omega
theorem blen_le_of {n k : Nat} (h : n < 2 ^ k) : blen n ≤ k := by
  by_cases hn : n = 0
  · subst hn; simp [blen_zero]
  · have c := blen_pos hn
    have l : blen n - 1 < k := (Nat.pow_lt_pow_iff_right (by omega : 1 < 2)).1 (Nat.lt_of_le_of_lt (blen_le hn) h)
    omega
theorem blen_word (x : Int) (h : x < 18446744073709551616) : blen x.toNat ≤ 64 := blen_le_of (by omega)
theorem blen_at3 {a : Nat} (ha : a < B256) (h : limb a 3 ≠ 0) : blen a = 192 + blen (limb a 3).toNat := by
  have A := limb_sum ha
  have := limb_nonneg a 0; have := limb_nonneg a 1; have := limb_nonneg a 2; have := limb_nonneg a 3; have := limb_lt a 0; have := limb_lt a 1; have := limb_lt a 2
  have e : a = (limb a 3).toNat * 2 ^ 192 + (limb a 0 + 18446744073709551616 * limb a 1 + 340282366920938463463374607431768211456 * limb a 2).toNat := by omega
  have s := blen_shift (x := (limb a 3).toNat) (k := 192) (r := (limb a 0 + 18446744073709551616 * limb a 1 + 340282366920938463463374607431768211456 * limb a 2).toNat) (by omega) (by omega)
  rw [← e] at s; exact s
theorem blen_at2 {a : Nat} (ha : a < B256) (h3 : limb a 3 = 0) (h : limb a 2 ≠ 0) : blen a = 128 + blen (limb a 2).toNat := by
  have A := limb_sum ha
  have := limb_nonneg a 0; have := limb_nonneg a 1; have := limb_nonneg a 2; have := limb_lt a 0; have := limb_lt a 1
  have e : a = (limb a 2).toNat * 2 ^ 128 + (limb a 0 + 18446744073709551616 * limb a 1).toNat := by omega
  have s := blen_shift (x := (limb a 2).toNat) (k := 128) (r := (limb a 0 + 18446744073709551616 * limb a 1).toNat) (by omega) (by omega)
  rw [← e] at s; exact s
theorem blen_at1 {a : Nat} (ha : a < B256) (h3 : limb a 3 = 0) (h2 : limb a 2 = 0) (h : limb a 1 ≠ 0) : blen a = 64 + blen (limb a 1).toNat := by
  have A := limb_sum ha
  have := limb_nonneg a 0; have := limb_nonneg a 1; have := limb_lt a 0
  have e : a = (limb a 1).toNat * 2 ^ 64 + (limb a 0).toNat := by omega
  have s := blen_shift (x := (limb a 1).toNat) (k := 64) (r := (limb a 0).toNat) (by omega) (by omega)
  rw [← e] at s; exact s
theorem blen_at0 {a : Nat} (ha : a < B256) (h3 : limb a 3 = 0) (h2 : limb a 2 = 0) (h1 : limb a 1 = 0) : blen a = blen (limb a 0).toNat := by
  have A := limb_sum ha
  have := limb_nonneg a 0
  have e : a = (limb a 0).toNat := by omega
  rw [← e]
theorem blen_256 {a : Nat} (ha : a < B256) : blen a ≤ 256 := blen_le_of ha
theorem blen_64 {a : Nat} : blen a ≤ 64 ↔ a < 18446744073709551616 := by
  constructor
  · intro h
    exact Nat.lt_of_lt_of_le (blen_lt a) (Nat.pow_le_pow_right (by omega) h : 2 ^ blen a ≤ 2 ^ 64)
  · intro h; exact blen_le_of h

/-- The product of two sums of four terms, and the school method with words of 64 bits. -/
theorem expand4 (c1 c2 c3 x0 x1 x2 x3 y0 y1 y2 y3 : Int) :
  (x0 + c1 * x1 + c2 * x2 + c3 * x3) * (y0 + c1 * y1 + c2 * y2 + c3 * y3) =
   (x0 * y0 + c1 * (x0 * y1) + c2 * (x0 * y2) + c3 * (x0 * y3)) + (c1 * (x1 * y0) + c1 * c1 * (x1 * y1) + c1 * c2 * (x1 * y2) + c1 * c3 * (x1 * y3))
   + (c2 * (x2 * y0) + c2 * c1 * (x2 * y1) + c2 * c2 * (x2 * y2) + c2 * c3 * (x2 * y3)) + (c3 * (x3 * y0) + c3 * c1 * (x3 * y1) + c3 * c2 * (x3 * y2) + c3 * c3 * (x3 * y3)) := by
  grind
theorem mul4 (x0 x1 x2 x3 y0 y1 y2 y3 h00 l00 h01 l01 h02 l02 h03 l03 h10 l10 h11 l11 h12 l12 h13 l13 h20 l20 h21 l21 h22 l22 h23 l23 h30 l30 h31 l31 h32 l32 h33 l33 : Int)
 (E00 : x0 * y0 + 0 + 0 = l00 + 18446744073709551616 * h00) (E01 : x0 * y1 + 0 + h00 = l01 + 18446744073709551616 * h01) (E02 : x0 * y2 + 0 + h01 = l02 + 18446744073709551616 * h02) (E03 : x0 * y3 + 0 + h02 = l03 + 18446744073709551616 * h03)
 (E10 : x1 * y0 + l01 + 0 = l10 + 18446744073709551616 * h10) (E11 : x1 * y1 + l02 + h10 = l11 + 18446744073709551616 * h11) (E12 : x1 * y2 + l03 + h11 = l12 + 18446744073709551616 * h12) (E13 : x1 * y3 + h03 + h12 = l13 + 18446744073709551616 * h13)
 (E20 : x2 * y0 + l11 + 0 = l20 + 18446744073709551616 * h20) (E21 : x2 * y1 + l12 + h20 = l21 + 18446744073709551616 * h21) (E22 : x2 * y2 + l13 + h21 = l22 + 18446744073709551616 * h22) (E23 : x2 * y3 + h13 + h22 = l23 + 18446744073709551616 * h23)
 (E30 : x3 * y0 + l21 + 0 = l30 + 18446744073709551616 * h30) (E31 : x3 * y1 + l22 + h30 = l31 + 18446744073709551616 * h31) (E32 : x3 * y2 + l23 + h31 = l32 + 18446744073709551616 * h32) (E33 : x3 * y3 + h23 + h32 = l33 + 18446744073709551616 * h33) :
 (x0 + 18446744073709551616 * x1 + 340282366920938463463374607431768211456 * x2 + 6277101735386680763835789423207666416102355444464034512896 * x3) * (y0 + 18446744073709551616 * y1 + 340282366920938463463374607431768211456 * y2 + 6277101735386680763835789423207666416102355444464034512896 * y3) = (l00 + 18446744073709551616 * l10 + 340282366920938463463374607431768211456 * l20 + 6277101735386680763835789423207666416102355444464034512896 * l30) + 115792089237316195423570985008687907853269984665640564039457584007913129639936 * (l31 + 18446744073709551616 * l32 + 340282366920938463463374607431768211456 * l33 + 6277101735386680763835789423207666416102355444464034512896 * h33) := by
  rw [expand4]
  generalize x0 * y0 = p00 at *; generalize x0 * y1 = p01 at *; generalize x0 * y2 = p02 at *; generalize x0 * y3 = p03 at *
  generalize x1 * y0 = p10 at *; generalize x1 * y1 = p11 at *; generalize x1 * y2 = p12 at *; generalize x1 * y3 = p13 at *
  generalize x2 * y0 = p20 at *; generalize x2 * y1 = p21 at *; generalize x2 * y2 = p22 at *; generalize x2 * y3 = p23 at *
  generalize x3 * y0 = p30 at *; generalize x3 * y1 = p31 at *; generalize x3 * y2 = p32 at *; generalize x3 * y3 = p33 at *
  omega

/-- A number that must be below 2^256, or zero and ErrOverflow. -/
def chkR (n : Nat) : Nat := if n < B256 then n else 0
def chkE (n : Nat) : Int := if n < B256 then 0 else 4
theorem chkR_lt (n : Nat) : chkR n < B256 := by unfold chkR; split <;> first | assumption | decide

/-! ### Quotients -/
/-- The quotient rounded up. -/
def cdiv (n c : Nat) : Nat := n / c + (if n % c = 0 then 0 else 1)
/-- What a division answers: quotient k, remainder r, of a divisor c. -/
def quoR (c k : Nat) : Nat := if c = 0 then 0 else chkR k
def quoE (c k : Nat) : Int := if c = 0 then 5 else chkE k
def remR (c k r : Nat) : Nat := if c = 0 then 0 else if k < B256 then r else 0
theorem quoR_lt (c k : Nat) : quoR c k < B256 := by unfold quoR; split; decide; exact chkR_lt k
theorem remR_lt (c k r : Nat) (h : c ≠ 0 → r < B256) : remR c k r < B256 := by
  unfold remR; split; decide; split
  · exact h (by assumption)
  · decide
theorem quoE_range (c k : Nat) : quoE c k = 0 ∨ quoE c k = 4 ∨ quoE c k = 5 := by unfold quoE chkE; split; simp; split <;> simp

end Go.Proofs.YtkionnggdncncaaDoor

