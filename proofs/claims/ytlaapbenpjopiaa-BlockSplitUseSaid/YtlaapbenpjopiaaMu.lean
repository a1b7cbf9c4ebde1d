/- Plain arithmetic: a number below 2^256 as four words of 64 bits, and as digits in base 65536. No Go in this text; no conditions. Small facts for the walks of this seat: what a call that keeps old memory leaves, calls inside regions that only read, and the comparison of two numbers. Contracts of uint256.Add and uint256.Sub over this translation: the sum or the difference, or zero and ErrOverflow; memory that was there is as it was. Contracts of uint256.FromUint64, Cmp, BitLen, Uint64 and SaturatingSub over this translation: each call returns the number that the name says; memory that was there is as it was. The library's contracts of math/bits.Len64 and math/bits.Mul64 laid at this translation, and the contract of uint256.MultiplyAdd, which returns both halves of x*y + m + n. Contracts of uint256.BitLen, Uint64 and SaturatingSub over this translation: each call returns the number that the name says; memory that was there is as it was. Contracts of limbs.Product and uint256.Mul over this translation: both halves of the exact product; the product, or zero and ErrOverflow. Memory that was there is as it was. Contracts of uint256.SaturatingSub and uint256.Min over this translation: the difference or zero; the least of the numbers. Memory that was there is as it was. -/
import Derived.WalkKit
import Derived.Test.YtlaapbenpjopiaaRows
import Derived.WalkSpells
import Derived.WalkLawsBesides
import Derived.Handy
import Derived.Laws.Externs
import Derived.Shelf.Spec.BitsCarry
import Derived.Laws.Pointers
import Derived.StillTactics
import Derived.Deep.RegionHeld3
import Derived.Deep.QuietTactic
import Derived.BigQuiet
import Derived.RowKit3
import Derived.Laws.Rows
import Derived.Laws.OwnMore
import Derived.Deep.Draws
import Derived.ChangeKeysEq
import Derived.Lib.Hide
import Derived.Shelf.Bits.Mul64
import Derived.Shelf.Strconv.Itoa0
import Derived.Lib.ItoaNum
import Derived.Laws.Cover3
namespace Go.Proofs.Ytlaapbenpjopiaa

/-- 2^256. -/
def B256 : Nat := 115792089237316195423570985008687907853269984665640564039457584007913129639936

/-- Word i of n. -/
def limb (n i : Nat) : Int := ((n / 18446744073709551616 ^ i % 18446744073709551616 : Nat) : Int)

/-- The value of type api.Uint256 that stands for n. -/
abbrev U (n : Nat) : Value := .agg #[.int .u64 (limb n 0), .int .u64 (limb n 1), .int .u64 (limb n 2), .int .u64 (limb n 3)]

theorem limb_nonneg (n i : Nat) : 0 ≤ limb n i := by unfold limb; omega
theorem limb_lt (n i : Nat) : limb n i < 18446744073709551616 := by unfold limb; omega

theorem limb0 (n : Nat) : limb n 0 = ((n % 18446744073709551616 : Nat) : Int) := by simp [limb]
theorem limb1 (n : Nat) : limb n 1 = ((n / 18446744073709551616 % 18446744073709551616 : Nat) : Int) := by simp [limb]
theorem limb2 (n : Nat) : limb n 2 = ((n / 340282366920938463463374607431768211456 % 18446744073709551616 : Nat) : Int) := by simp [limb]
theorem limb3 (n : Nat) : limb n 3 = ((n / 6277101735386680763835789423207666416102355444464034512896 % 18446744073709551616 : Nat) : Int) := by simp [limb]

theorem limb_sum {n : Nat} (h : n < B256) : (n : Int) = limb n 0 + 18446744073709551616 * limb n 1 + 340282366920938463463374607431768211456 * limb n 2 + 6277101735386680763835789423207666416102355444464034512896 * limb n 3 := by
  rw [limb0, limb1, limb2, limb3]; unfold B256 at h; omega

/-- The words of a number are the only ones that add up to it. -/
theorem limb_of {n : Nat} {x0 x1 x2 x3 : Int} (a0 : 0 ≤ x0) (b0 : x0 < 18446744073709551616) (a1 : 0 ≤ x1) (b1 : x1 < 18446744073709551616) (a2 : 0 ≤ x2) (b2 : x2 < 18446744073709551616) (a3 : 0 ≤ x3) (b3 : x3 < 18446744073709551616)
    (h : (n : Int) = x0 + 18446744073709551616 * x1 + 340282366920938463463374607431768211456 * x2 + 6277101735386680763835789423207666416102355444464034512896 * x3) :
    x0 = limb n 0 ∧ x1 = limb n 1 ∧ x2 = limb n 2 ∧ x3 = limb n 3 := by
  rw [limb0, limb1, limb2, limb3]; omega

theorem limb_zero : limb 0 0 = 0 ∧ limb 0 1 = 0 ∧ limb 0 2 = 0 ∧ limb 0 3 = 0 := by rw [limb0, limb1, limb2, limb3]; decide

theorem U_zero : U 0 = .agg #[.int .u64 0, .int .u64 0, .int .u64 0, .int .u64 0] := by
  obtain ⟨y0, y1, y2, y3⟩ := limb_zero
  rw [U, y0, y1, y2, y3]
/-- Four words are those of a number below 2^256. -/
theorem exists_limbs {x0 x1 x2 x3 : Int} (a0 : 0 ≤ x0) (b0 : x0 < 18446744073709551616) (a1 : 0 ≤ x1) (b1 : x1 < 18446744073709551616) (a2 : 0 ≤ x2) (b2 : x2 < 18446744073709551616) (a3 : 0 ≤ x3) (b3 : x3 < 18446744073709551616) :
    ∃ n : Nat, n < B256 ∧ x0 = limb n 0 ∧ x1 = limb n 1 ∧ x2 = limb n 2 ∧ x3 = limb n 3 :=
  ⟨(x0 + 18446744073709551616 * x1 + 340282366920938463463374607431768211456 * x2 + 6277101735386680763835789423207666416102355444464034512896 * x3).toNat, by unfold B256; omega,
    limb_of a0 b0 a1 b1 a2 b2 a3 b3 (by omega)⟩

theorem limb_inj {a b : Nat} (ha : a < B256) (hb : b < B256) (h0 : limb a 0 = limb b 0) (h1 : limb a 1 = limb b 1) (h2 : limb a 2 = limb b 2) (h3 : limb a 3 = limb b 3) : a = b := by
  have := limb_sum ha; have := limb_sum hb; omega

/-- What the checked operations return. -/
def addR (a b : Nat) : Nat := if a + b < B256 then a + b else 0
def addE (a b : Nat) : Int := if a + b < B256 then 0 else 4
def subR (a b : Nat) : Nat := if b ≤ a then a - b else 0
def subE (a b : Nat) : Int := if b ≤ a then 0 else 4
def mulR (a b : Nat) : Nat := if a * b < B256 then a * b else 0
def mulE (a b : Nat) : Int := if a * b < B256 then 0 else 4
theorem B256_pos : 0 < B256 := by unfold B256; omega
theorem addR_lt (a b : Nat) : addR a b < B256 := by unfold addR; split <;> first | assumption | exact B256_pos
theorem mulR_lt (a b : Nat) : mulR a b < B256 := by unfold mulR; split <;> first | assumption | exact B256_pos
theorem subR_lt {a : Nat} (b : Nat) (ha : a < B256) : subR a b < B256 := by unfold subR; split <;> omega

/-- The order as Go's Cmp says it. -/
def cmpI (a b : Nat) : Int := if a < b then -1 else if b < a then 1 else 0

/-- The number of binary digits. -/
def blen (n : Nat) : Nat := if n = 0 then 0 else Nat.log2 n + 1
theorem blen_lt (n : Nat) : n < 2 ^ blen n := by
  unfold blen; split
  · simp_all
  · exact Nat.lt_log2_self
theorem blen_le {n : Nat} (h : n ≠ 0) : 2 ^ (blen n - 1) ≤ n := by
  unfold blen; rw [if_neg h]; simpa using Nat.log2_self_le h
theorem blen_zero : blen 0 = 0 := rfl
theorem blen_pos {n : Nat} (h : n ≠ 0) : 0 < blen n := by unfold blen; rw [if_neg h]; omega
/-- The number of binary digits is the only k with 2^(k-1) <= n < 2^k. -/
theorem blen_eq {n k : Nat} (h1 : 2 ^ k ≤ n) (h2 : n < 2 ^ (k + 1)) : blen n = k + 1 := by
  have hn : n ≠ 0 := by have := Nat.two_pow_pos k; omega
  have a := blen_le hn
  have b := blen_lt n
  have c := blen_pos hn
  have l1 : blen n - 1 < k + 1 := (Nat.pow_lt_pow_iff_right (by omega : 1 < 2)).1 (Nat.lt_of_le_of_lt a h2)
  have l2 : k < blen n := (Nat.pow_lt_pow_iff_right (by omega : 1 < 2)).1 (Nat.lt_of_le_of_lt h1 b)
  omega
theorem blen_mono {a b : Nat} (h : a ≤ b) : blen a ≤ blen b := by
  by_cases ha : a = 0
  · subst ha; simp [blen_zero]
  · have c := blen_pos ha
    have l : blen a - 1 < blen b := (Nat.pow_lt_pow_iff_right (by omega : 1 < 2)).1 (Nat.lt_of_le_of_lt (blen_le ha) (Nat.lt_of_le_of_lt h (blen_lt b)))
    omega
/-- Digits above k places. -/
theorem blen_shift {x k r : Nat} (hx : x ≠ 0) (hr : r < 2 ^ k) : blen (x * 2 ^ k + r) = k + blen x := by
  have c := blen_pos hx
  have h1 : 2 ^ (blen x - 1) * 2 ^ k ≤ x * 2 ^ k := Nat.mul_le_mul_right _ (blen_le hx)
  have h2 : (x + 1) * 2 ^ k ≤ 2 ^ blen x * 2 ^ k := Nat.mul_le_mul_right _ (blen_lt x)
  rw [← Nat.pow_add] at h1 h2
  rw [Nat.add_mul] at h2
  have e : blen (x * 2 ^ k + r) = (blen x - 1 + k) + 1 := blen_eq (by omega) (by rw [show blen x - 1 + k + 1 = blen x + k from by omega]; omega)
  omega
theorem blen_le_of {n k : Nat} (h : n < 2 ^ k) : blen n ≤ k := by
  by_cases hn : n = 0
  · subst hn; simp [blen_zero]
  · have c := blen_pos hn
    have l : blen n - 1 < k := (Nat.pow_lt_pow_iff_right (by omega : 1 < 2)).1 (Nat.lt_of_le_of_lt (blen_le hn) h)
    omega
theorem blen_word (x : Int) (h : x < 18446744073709551616) : blen x.toNat ≤ 64 := blen_le_of (by omega)
theorem blen_at3 {a : Nat} (ha : a < B256) (h : limb a 3 ≠ 0) : blen a = 192 + blen (limb a 3).toNat := by
  have A := limb_sum ha
  have := limb_nonneg a 0; have := limb_nonneg a 1; have := limb_nonneg a 2; have := limb_nonneg a 3; have := limb_lt a 0; have := limb_lt a 1; have := limb_lt a 2
  have e : a = (limb a 3).toNat * 2 ^ 192 + (limb a 0 + 18446744073709551616 * limb a 1 + 340282366920938463463374607431768211456 * limb a 2).toNat := by omega
  have s := blen_shift (x := (limb a 3).toNat) (k := 192) (r := (limb a 0 + 18446744073709551616 * limb a 1 + 340282366920938463463374607431768211456 * limb a 2).toNat) (by omega) (by omega)
  rw [← e] at s; exact s
theorem blen_at2 {a : Nat} (ha : a < B256) (h3 : limb a 3 = 0) (h : limb a 2 ≠ 0) : blen a = 128 + blen (limb a 2).toNat := by
  have A := limb_sum ha
  have := limb_nonneg a 0; have := limb_nonneg a 1; have := limb_nonneg a 2; have := limb_lt a 0; have := limb_lt a 1
  have e : a = (limb a 2).toNat * 2 ^ 128 + (limb a 0 + 18446744073709551616 * limb a 1).toNat := by omega
  have s := blen_shift (x := (limb a 2).toNat) (k := 128) (r := (limb a 0 + 18446744073709551616 * limb a 1).toNat) (by omega) (by omega)
  rw [← e] at s; exact s
theorem blen_at1 {a : Nat} (ha : a < B256) (h3 : limb a 3 = 0) (h2 : limb a 2 = 0) (h : limb a 1 ≠ 0) : blen a = 64 + blen (limb a 1).toNat := by
  have A := limb_sum ha
  have := limb_nonneg a 0; have := limb_nonneg a 1; have := limb_lt a 0
  have e : a = (limb a 1).toNat * 2 ^ 64 + (limb a 0).toNat := by omega
  have s := blen_shift (x := (limb a 1).toNat) (k := 64) (r := (limb a 0).toNat) (by omega) (by omega)
  rw [← e] at s; exact s
theorem blen_at0 {a : Nat} (ha : a < B256) (h3 : limb a 3 = 0) (h2 : limb a 2 = 0) (h1 : limb a 1 = 0) : blen a = blen (limb a 0).toNat := by
  have A := limb_sum ha
  have := limb_nonneg a 0
  have e : a = (limb a 0).toNat := by omega
  rw [← e]
theorem blen_256 {a : Nat} (ha : a < B256) : blen a ≤ 256 := blen_le_of ha
theorem blen_64 {a : Nat} : blen a ≤ 64 ↔ a < 18446744073709551616 := by
  constructor
  · intro h
    exact Nat.lt_of_lt_of_le (blen_lt a) (Nat.pow_le_pow_right (by omega) h : 2 ^ blen a ≤ 2 ^ 64)
  · intro h; exact blen_le_of h

/-- The product of two sums of four terms, and the school method with words of 64 bits. -/
theorem expand4 (c1 c2 c3 x0 x1 x2 x3 y0 y1 y2 y3 : Int) :
  (x0 + c1 * x1 + c2 * x2 + c3 * x3) * (y0 + c1 * y1 + c2 * y2 + c3 * y3) =
   (x0 * y0 + c1 * (x0 * y1) + c2 * (x0 * y2) + c3 * (x0 * y3)) + (c1 * (x1 * y0) + c1 * c1 * (x1 * y1) + c1 * c2 * (x1 * y2) + c1 * c3 * (x1 * y3))
   + (c2 * (x2 * y0) + c2 * c1 * (x2 * y1) + c2 * c2 * (x2 * y2) + c2 * c3 * (x2 * y3)) + (c3 * (x3 * y0) + c3 * c1 * (x3 * y1) + c3 * c2 * (x3 * y2) + c3 * c3 * (x3 * y3)) := by
  grind
theorem mul4 (x0 x1 x2 x3 y0 y1 y2 y3 h00 l00 h01 l01 h02 l02 h03 l03 h10 l10 h11 l11 h12 l12 h13 l13 h20 l20 h21 l21 h22 l22 h23 l23 h30 l30 h31 l31 h32 l32 h33 l33 : Int)
 (E00 : x0 * y0 + 0 + 0 = l00 + 18446744073709551616 * h00) (E01 : x0 * y1 + 0 + h00 = l01 + 18446744073709551616 * h01) (E02 : x0 * y2 + 0 + h01 = l02 + 18446744073709551616 * h02) (E03 : x0 * y3 + 0 + h02 = l03 + 18446744073709551616 * h03)
 (E10 : x1 * y0 + l01 + 0 = l10 + 18446744073709551616 * h10) (E11 : x1 * y1 + l02 + h10 = l11 + 18446744073709551616 * h11) (E12 : x1 * y2 + l03 + h11 = l12 + 18446744073709551616 * h12) (E13 : x1 * y3 + h03 + h12 = l13 + 18446744073709551616 * h13)
 (E20 : x2 * y0 + l11 + 0 = l20 + 18446744073709551616 * h20) (E21 : x2 * y1 + l12 + h20 = l21 + 18446744073709551616 * h21) (E22 : x2 * y2 + l13 + h21 = l22 + 18446744073709551616 * h22) (E23 : x2 * y3 + h13 + h22 = l23 + 18446744073709551616 * h23)
 (E30 : x3 * y0 + l21 + 0 = l30 + 18446744073709551616 * h30) (E31 : x3 * y1 + l22 + h30 = l31 + 18446744073709551616 * h31) (E32 : x3 * y2 + l23 + h31 = l32 + 18446744073709551616 * h32) (E33 : x3 * y3 + h23 + h32 = l33 + 18446744073709551616 * h33) :
 (x0 + 18446744073709551616 * x1 + 340282366920938463463374607431768211456 * x2 + 6277101735386680763835789423207666416102355444464034512896 * x3) * (y0 + 18446744073709551616 * y1 + 340282366920938463463374607431768211456 * y2 + 6277101735386680763835789423207666416102355444464034512896 * y3) = (l00 + 18446744073709551616 * l10 + 340282366920938463463374607431768211456 * l20 + 6277101735386680763835789423207666416102355444464034512896 * l30) + 115792089237316195423570985008687907853269984665640564039457584007913129639936 * (l31 + 18446744073709551616 * l32 + 340282366920938463463374607431768211456 * l33 + 6277101735386680763835789423207666416102355444464034512896 * h33) := by
  rw [expand4]
  generalize x0 * y0 = p00 at *; generalize x0 * y1 = p01 at *; generalize x0 * y2 = p02 at *; generalize x0 * y3 = p03 at *
  generalize x1 * y0 = p10 at *; generalize x1 * y1 = p11 at *; generalize x1 * y2 = p12 at *; generalize x1 * y3 = p13 at *
  generalize x2 * y0 = p20 at *; generalize x2 * y1 = p21 at *; generalize x2 * y2 = p22 at *; generalize x2 * y3 = p23 at *
  generalize x3 * y0 = p30 at *; generalize x3 * y1 = p31 at *; generalize x3 * y2 = p32 at *; generalize x3 * y3 = p33 at *
  omega

/-- A number that must be below 2^256, or zero and ErrOverflow. -/
def chkR (n : Nat) : Nat := if n < B256 then n else 0
def chkE (n : Nat) : Int := if n < B256 then 0 else 4
theorem chkR_lt (n : Nat) : chkR n < B256 := by unfold chkR; split <;> first | assumption | decide

/-! ### Quotients -/
/-- The quotient rounded up. -/
def cdiv (n c : Nat) : Nat := n / c + (if n % c = 0 then 0 else 1)
/-- What a division answers: quotient k, remainder r, of a divisor c. -/
def quoR (c k : Nat) : Nat := if c = 0 then 0 else chkR k
def quoE (c k : Nat) : Int := if c = 0 then 5 else chkE k
def remR (c k r : Nat) : Nat := if c = 0 then 0 else if k < B256 then r else 0
theorem quoR_lt (c k : Nat) : quoR c k < B256 := by unfold quoR; split; decide; exact chkR_lt k
theorem remR_lt (c k r : Nat) (h : c ≠ 0 → r < B256) : remR c k r < B256 := by
  unfold remR; split; decide; split
  · exact h (by assumption)
  · decide
theorem quoE_range (c k : Nat) : quoE c k = 0 ∨ quoE c k = 4 ∨ quoE c k = 5 := by unfold quoE chkE; split; simp; split <;> simp

end Go.Proofs.Ytlaapbenpjopiaa

namespace Go.Proofs.Ytlaapbenpjopiaa
open Go.RowKit

theorem belowN {B n : Nat} {a w : World} (h : Below B a w) : Below B a (w.drewN n) := ⟨h.os, h.tape, h.output, h.size, h.block⟩
/-- What lay below reads as it did: cells and marks. -/
theorem oldCells {W w1 : World} (hb : Below W.heap.size W w1) : ∀ b o, b < W.heap.size → w1.cell? ⟨b, o, none⟩ = W.cell? ⟨b, o, none⟩ := fun b o h => hb.cell (p := ⟨b, o, none⟩) h
theorem oldMarks {W w1 : World} (hb : Below W.heap.size W w1) : ∀ b o, b < W.heap.size → w1.frozen? ⟨b, o, none⟩ = W.frozen? ⟨b, o, none⟩ := fun b o h => hb.frozen (p := ⟨b, o, none⟩) h
/-- A block that was made just before a call that keeps what was there: its cells, its marks, its number. -/
theorem keepNew {W w2 : World} {c : Array Value} {t : TypeId} (hb : Below (W.alloc (.cells c t)).heap.size (W.alloc (.cells c t)) w2) :
    (∀ k, w2.cell? ⟨W.heap.size, k, none⟩ = c[k]?) ∧ (∀ k, w2.frozen? ⟨W.heap.size, k, none⟩ = false) ∧ W.heap.size < w2.heap.size := by
  have hs := hb.size
  rw [World.size_alloc] at hs
  refine ⟨fun k => ?_, fun k => ?_, by omega⟩
  · rw [hb.cell (p := ⟨W.heap.size, k, none⟩) (by rw [World.size_alloc]; exact Nat.lt_succ_self _)]
    exact cell_of_row _ W.heap.size k c t (0, 0) (heap_alloc_new W _)
  · rw [hb.frozen (p := ⟨W.heap.size, k, none⟩) (by rw [World.size_alloc]; exact Nat.lt_succ_self _)]
    have h := heap_alloc_new W (.cells c t)
    unfold World.frozen?
    simp only [h]
    simp
/-- One call behind another. -/
theorem chain {B : Nat} {w w1 w2 : World} (h : Below B w w1) (k : Below w1.heap.size w1 w2) (hB : B ≤ w.heap.size := by first | exact Nat.le_refl _ | (simp; done)) : Below B w w2 := h.trans (k.mono (Nat.le_trans hB h.size))
/-- Block g holds just these cells, none of them marked. -/
def Res (g : Nat) (t : TypeId) (c : Array Value) (w : World) : Prop := w.heap[g]? = some (.cells c t (0, 0))
theorem Res.keep {g : Nat} {t : TypeId} {c : Array Value} {w w2 : World} (h : Res g t c w) (hb : Below w.heap.size w w2) : Res g t c w2 := by
  have hg : g < w.heap.size := by
    rcases Nat.lt_or_ge g w.heap.size with h1 | h1
    · exact h1
    · unfold Res at h; rw [Array.getElem?_eq_none h1] at h; cases h
  exact (hb.block g hg).trans h
theorem Res.cells {g : Nat} {t : TypeId} {c : Array Value} {w : World} (h : Res g t c w) : ∀ k, w.cell? ⟨g, k, none⟩ = c[k]? := fun k => cell_of_row w g k c t (0, 0) h
theorem Res.marks {g : Nat} {t : TypeId} {c : Array Value} {w : World} (h : Res g t c w) : ∀ k, w.frozen? ⟨g, k, none⟩ = false := fun k => by
  unfold Res at h
  unfold World.frozen?
  simp only [h]
  simp
theorem Res.lt {g : Nat} {t : TypeId} {c : Array Value} {w : World} (h : Res g t c w) : g < w.heap.size := by
  rcases Nat.lt_or_ge g w.heap.size with h1 | h1
  · exact h1
  · unfold Res at h; rw [Array.getElem?_eq_none h1] at h; cases h
theorem Res.drew {g : Nat} {t : TypeId} {c : Array Value} {w : World} (h : Res g t c w) : Res g t c w.drew := h
theorem Res.new (w : World) (t : TypeId) (c : Array Value) : Res w.heap.size t c (w.alloc (.cells c t)) := heap_alloc_new w _
theorem Res.alloc {g : Nat} {t : TypeId} {c : Array Value} {w : World} (h : Res g t c w) (o : Obj) : Res g t c (w.alloc o) := (Below.heap_alloc w o g h.lt).trans h
/-- The four words of a number. -/
abbrev arr (n : Nat) : Array Value := #[.int .u64 (limb n 0), .int .u64 (limb n 1), .int .u64 (limb n 2), .int .u64 (limb n 3)]
/-- A cell of another block behind the store of a number. -/
theorem far4 {w2 : World} {g : Nat} {x0 x1 x2 x3 : Value} {p : Addr} {u : Value} (h : w2.cell? p = some u) (hp : g ≠ p.block) :
    ((((w2.setCell ⟨g, 0, none⟩ x0).setCell ⟨g, 1, none⟩ x1).setCell ⟨g, 2, none⟩ x2).setCell ⟨g, 3, none⟩ x3).cell? p = some u := by
  rw [World.cell?_setCell_far _ ⟨g, 3, none⟩ _ _ hp, World.cell?_setCell_far _ ⟨g, 2, none⟩ _ _ hp, World.cell?_setCell_far _ ⟨g, 1, none⟩ _ _ hp, World.cell?_setCell_far _ ⟨g, 0, none⟩ _ _ hp]
  exact h
/-- A callee that leaves the world alone, at a call inside a region whose operations only read. -/
theorem quietL {P : Program} {f : FuncId} {args : Array Value} {w : World} {n : Nat} {v : Value}
    (h : Calls P f args (w.drewN n) fun e w' => e = .returned v ∧ w.drewN n = w') : Calls P f args (w.drewN n) fun e w' => e = .returned v ∧ ∃ m, w' = w.drewN m :=
  h.mono fun _ _ h => ⟨h.1, n, h.2.symm⟩
/-- The same where draws have gone before. -/
theorem quietA {P : Program} {f : FuncId} {args : Array Value} {w : World} {a n : Nat} {v : Value}
    (h : Calls P f args (w.drewN (a + n)) fun e w' => e = .returned v ∧ w.drewN (a + n) = w') : Calls P f args (w.drewN (a + n)) fun e w' => e = .returned v ∧ ∃ m, w' = w.drewN (a + m) :=
  h.mono fun _ _ h => ⟨h.1, n, h.2.symm⟩

/-! ### Two numbers compared -/
theorem eqStep (xs ys : Array Value) (i : Nat) (is : List Nat) (a b : Int) (h1 : xs[i]? = some (.int .u64 a)) (h2 : ys[i]? = some (.int .u64 b)) (w : World) :
    (Op.eqItems 9999 22 1 xs ys (i :: is)).run Try.prog w = if a == b then (Op.eqItems 9999 22 1 xs ys is).run Try.prog w else .ok false w := by
  have p : ∀ (l : Array Value) (k : Nat) (x : Int) (w : World), l[k]? = some (.int .u64 x) → (part 22 l k).run Try.prog w = .ok (.int .u64 x) w := by
    intro l k x w h
    simp [part, Try.isAgg22, h]
  have q : ∀ (a b : Int) (w : World), (Op.equalIn 9999 22 (.int .u64 a) (.int .u64 b)).run Try.prog w = .ok (a == b) w := fun a b w => run_equalIn_int w 9998 22 .u64 .u64 a b Try.underlying22
  simp only [Op.eqItems, Sem.run_bind, Nat.mul_one, p _ _ _ _ h1, p _ _ _ _ h2, q, Result.andThen_ok]
  cases (a == b) <;> simp
theorem eq4_run (x0 x1 x2 x3 y0 y1 y2 y3 : Int) (w : World) :
    (Op.equalIn 10000 24 (.agg #[.int .u64 x0, .int .u64 x1, .int .u64 x2, .int .u64 x3]) (.agg #[.int .u64 y0, .int .u64 y1, .int .u64 y2, .int .u64 y3])).run Try.prog w = .ok (x0 == y0 && x1 == y1 && x2 == y2 && x3 == y3) w := by
  have hi : Try.prog.info? 22 = some Try.t22 := by kernel_rfl
  have hc : Try.prog.cellsOf 22 = 1 := by kernel_rfl
  rw [run_equalIn_array w 9999 _ _ Try.underlying24 hi, hc, show List.range 4 = [0, 1, 2, 3] from rfl]
  rw [eqStep _ _ 0 _ x0 y0 rfl rfl, eqStep _ _ 1 _ x1 y1 rfl rfl, eqStep _ _ 2 _ x2 y2 rfl rfl, eqStep _ _ 3 _ x3 y3 rfl rfl]
  simp only [Op.eqItems, Sem.run_pure]
  cases (x0 == y0) <;> cases (x1 == y1) <;> cases (x2 == y2) <;> cases (x3 == y3) <;> rfl
theorem eqU_run (a b : Nat) (ha : a < B256) (hb : b < B256) (w : World) : (Op.equalIn 10000 24 (U a) (U b)).run Try.prog w = .ok (decide (a = b)) w := by
  rw [eq4_run]
  congr 1
  by_cases h : a = b
  · subst h; simp
  · rw [decide_eq_false h]
    cases e : (limb a 0 == limb b 0 && limb a 1 == limb b 1 && limb a 2 == limb b 2 && limb a 3 == limb b 3)
    · rfl
    · simp at e
      exact absurd (limb_inj ha hb e.1.1.1 e.1.1.2 e.1.2 e.2) h

end Go.Proofs.Ytlaapbenpjopiaa

namespace Go.Proofs.Ytlaapbenpjopiaa
open Go.RowKit

theorem add64_run {x y c s d : Int} (hx : 0 ≤ x) (hy : 0 ≤ y) (hc0 : 0 ≤ c) (hc : c ≤ 1) (hs : 0 ≤ s) (hs' : s < 18446744073709551616) (h : x + y + c = s + 18446744073709551616 * d) (w : World) :
    (callFunc 17 #[.int .u64 x, .int .u64 y, .int .u64 c]).run Try.prog w = .ok (.value (.tuple #[.int .u64 s, .int .u64 d])) w := by
  rw [run_callFunc_extern Try.func17 (by kernel_rfl) (by kernel_rfl) (by kernel_rfl) (e := add64Entry) (by kernel_rfl), run_add64 x y c hx hy hc0 hc]
  have e1 : (x + y + c) % 18446744073709551616 = s := by omega
  have e2 : (x + y + c) / 18446744073709551616 = d := by omega
  rw [e1, e2]; rfl

theorem sub64_run {x y c s d : Int} (hx : 0 ≤ x) (hx' : x < 18446744073709551616) (hy : 0 ≤ y) (hy' : y < 18446744073709551616) (hc0 : 0 ≤ c) (hc : c ≤ 1) (hs : 0 ≤ s) (hs' : s < 18446744073709551616)
    (h : x - y - c = s - 18446744073709551616 * d) (w : World) :
    (callFunc 82 #[.int .u64 x, .int .u64 y, .int .u64 c]).run Try.prog w = .ok (.value (.tuple #[.int .u64 s, .int .u64 d])) w := by
  obtain ⟨x, rfl⟩ := Int.eq_ofNat_of_zero_le hx
  obtain ⟨y, rfl⟩ := Int.eq_ofNat_of_zero_le hy
  obtain ⟨c, rfl⟩ := Int.eq_ofNat_of_zero_le hc0
  rw [run_callFunc_extern Try.func82 (by kernel_rfl) (by kernel_rfl) (by kernel_rfl) (e := sub64Entry) (by kernel_rfl), run_sub64 x y c (by omega)]
  have e1 : (((x + 18446744073709551616 - y - c) % 18446744073709551616 : Nat) : Int) = s := by omega
  have e2 : ((if x < y + c then 1 else 0 : Nat) : Int) = d := by split <;> omega
  rw [e1, e2]; rfl

theorem split_add (x y c : Int) (hx : 0 ≤ x) (hx' : x < 18446744073709551616) (hy : 0 ≤ y) (hy' : y < 18446744073709551616) (hc0 : 0 ≤ c) (hc : c ≤ 1) :
    ∃ s d : Int, 0 ≤ s ∧ s < 18446744073709551616 ∧ 0 ≤ d ∧ d ≤ 1 ∧ x + y + c = s + 18446744073709551616 * d :=
  ⟨(x + y + c) % 18446744073709551616, (x + y + c) / 18446744073709551616, by omega, by omega, by omega, by omega, by omega⟩
theorem split_sub (x y c : Int) (hx : 0 ≤ x) (hx' : x < 18446744073709551616) (hy : 0 ≤ y) (hy' : y < 18446744073709551616) (hc0 : 0 ≤ c) (hc : c ≤ 1) :
    ∃ s d : Int, 0 ≤ s ∧ s < 18446744073709551616 ∧ 0 ≤ d ∧ d ≤ 1 ∧ x - y - c = s - 18446744073709551616 * d :=
  ⟨(x - y - c) % 18446744073709551616, -((x - y - c) / 18446744073709551616), by omega, by omega, by omega, by omega, by omega⟩

/-! ### Add -/
/-! ### Sub -/
end Go.Proofs.Ytlaapbenpjopiaa

namespace Go.Proofs.Ytlaapbenpjopiaa
open Go.RowKit

theorem u64_any (n : Nat) (hn : n < 18446744073709551616) (w : World) :
    Calls Try.prog 21 #[.int .u64 n] w fun e w' => e = .returned (U n) ∧ Below w.heap.size w w' := by
  have x3 : U n = .agg #[.int .u64 n, .int .u64 0, .int .u64 0, .int .u64 0] := by
    obtain ⟨y0, y1, y2, y3⟩ := limb_of (n := n) (x0 := n) (x1 := 0) (x2 := 0) (x3 := 0) (by omega) (by omega) (by omega) (by omega) (by omega) (by omega) (by omega) (by omega) (by omega)
    rw [U, ← y0, ← y1, ← y2, ← y3]
  rw [x3]
  go_enter Try.func21, Try.ntmps21
  go_wp2
  refine bodyPost_ret (v := .agg #[.int .u64 n, .int .u64 0, .int .u64 0, .int .u64 0]) (by simp [results, Try.results21, go_sem]) rfl ⟨rfl, ?_⟩
  go_grown

/-! ### Cmp -/
/-- The order of two words as cmp.Compare says it. -/
def cmpZ (x y : Int) : Int := if x < y then -1 else if y < x then 1 else 0

theorem compare_any (x y : Int) (w : World) :
    Calls Try.prog 72 #[.int .u64 x, .int .u64 y] w fun e w' => e = .returned (.int .i64 (cmpZ x y)) ∧ w = w' := by
  rcases Int.lt_trichotomy x y with h | rfl | h
  · have e : cmpZ x y = -1 := if_pos h
    rw [e]
    go_enter Try.func72, Try.ntmps72
    go_wp2
    go_ret
    exact ⟨rfl, rfl⟩
  · have e : cmpZ x x = 0 := by unfold cmpZ; rw [if_neg (by omega), if_neg (by omega)]
    rw [e]
    go_enter Try.func72, Try.ntmps72
    go_wp2
    go_ret
    exact ⟨rfl, rfl⟩
  · have e : cmpZ x y = 1 := by unfold cmpZ; rw [if_neg (by omega), if_pos h]
    have h' : ¬ x < y := by omega
    rw [e]
    go_enter Try.func72, Try.ntmps72
    go_wp2
    go_ret
    exact ⟨rfl, rfl⟩

set_option maxHeartbeats 400000 in
theorem cmp_at3 (x0 x1 x2 x3 y0 y1 y2 y3 : Int) (w : World)  (h3 : (cmpZ x3 y3 != 0) = true) :
    Calls Try.prog 68 #[.agg #[.int .u64 x0, .int .u64 x1, .int .u64 x2, .int .u64 x3], .agg #[.int .u64 y0, .int .u64 y1, .int .u64 y2, .int .u64 y3]] w fun e w' =>
      e = .returned (.int .i64 (cmpZ x3 y3)) ∧ Below w.heap.size w w' := by
  go_enter Try.func68, Try.ntmps68
  go_wp2
  refine wp_loop_rounds 5 ?_
  iterate 1 (rw [rounds_succ]; go_wp2; go_quiet ((go_at_call 72; first | with_reducible exact quietL (compare_any _ _ _) | with_reducible exact quietA (compare_any _ _ _))); go_wp2)
  go_ret
  refine ⟨rfl, belowN ?_⟩
  go_grown

set_option maxHeartbeats 400000 in
theorem cmp_at2 (x0 x1 x2 x3 y0 y1 y2 y3 : Int) (w : World) (h3 : (cmpZ x3 y3 != 0) = false) (h2 : (cmpZ x2 y2 != 0) = true) :
    Calls Try.prog 68 #[.agg #[.int .u64 x0, .int .u64 x1, .int .u64 x2, .int .u64 x3], .agg #[.int .u64 y0, .int .u64 y1, .int .u64 y2, .int .u64 y3]] w fun e w' =>
      e = .returned (.int .i64 (cmpZ x2 y2)) ∧ Below w.heap.size w w' := by
  go_enter Try.func68, Try.ntmps68
  go_wp2
  refine wp_loop_rounds 5 ?_
  iterate 2 (rw [rounds_succ]; go_wp2; go_quiet ((go_at_call 72; first | with_reducible exact quietL (compare_any _ _ _) | with_reducible exact quietA (compare_any _ _ _))); go_wp2)
  go_ret
  refine ⟨rfl, belowN ?_⟩
  go_grown

set_option maxHeartbeats 400000 in
theorem cmp_at1 (x0 x1 x2 x3 y0 y1 y2 y3 : Int) (w : World) (h3 : (cmpZ x3 y3 != 0) = false) (h2 : (cmpZ x2 y2 != 0) = false) (h1 : (cmpZ x1 y1 != 0) = true) :
    Calls Try.prog 68 #[.agg #[.int .u64 x0, .int .u64 x1, .int .u64 x2, .int .u64 x3], .agg #[.int .u64 y0, .int .u64 y1, .int .u64 y2, .int .u64 y3]] w fun e w' =>
      e = .returned (.int .i64 (cmpZ x1 y1)) ∧ Below w.heap.size w w' := by
  go_enter Try.func68, Try.ntmps68
  go_wp2
  refine wp_loop_rounds 5 ?_
  iterate 3 (rw [rounds_succ]; go_wp2; go_quiet ((go_at_call 72; first | with_reducible exact quietL (compare_any _ _ _) | with_reducible exact quietA (compare_any _ _ _))); go_wp2)
  go_ret
  refine ⟨rfl, belowN ?_⟩
  go_grown

set_option maxHeartbeats 400000 in
theorem cmp_at0 (x0 x1 x2 x3 y0 y1 y2 y3 : Int) (w : World) (h3 : (cmpZ x3 y3 != 0) = false) (h2 : (cmpZ x2 y2 != 0) = false) (h1 : (cmpZ x1 y1 != 0) = false) (h0 : (cmpZ x0 y0 != 0) = true) :
    Calls Try.prog 68 #[.agg #[.int .u64 x0, .int .u64 x1, .int .u64 x2, .int .u64 x3], .agg #[.int .u64 y0, .int .u64 y1, .int .u64 y2, .int .u64 y3]] w fun e w' =>
      e = .returned (.int .i64 (cmpZ x0 y0)) ∧ Below w.heap.size w w' := by
  go_enter Try.func68, Try.ntmps68
  go_wp2
  refine wp_loop_rounds 5 ?_
  iterate 4 (rw [rounds_succ]; go_wp2; go_quiet ((go_at_call 72; first | with_reducible exact quietL (compare_any _ _ _) | with_reducible exact quietA (compare_any _ _ _))); go_wp2)
  go_ret
  refine ⟨rfl, belowN ?_⟩
  go_grown

set_option maxHeartbeats 400000 in
theorem cmp_same (x0 x1 x2 x3 y0 y1 y2 y3 : Int) (w : World) (h3 : (cmpZ x3 y3 != 0) = false) (h2 : (cmpZ x2 y2 != 0) = false) (h1 : (cmpZ x1 y1 != 0) = false) (h0 : (cmpZ x0 y0 != 0) = false) :
    Calls Try.prog 68 #[.agg #[.int .u64 x0, .int .u64 x1, .int .u64 x2, .int .u64 x3], .agg #[.int .u64 y0, .int .u64 y1, .int .u64 y2, .int .u64 y3]] w fun e w' =>
      e = .returned (.int .i64 0) ∧ Below w.heap.size w w' := by
  go_enter Try.func68, Try.ntmps68
  go_wp2
  refine wp_loop_rounds 5 ?_
  iterate 4 (rw [rounds_succ]; go_wp2; go_quiet ((go_at_call 72; first | with_reducible exact quietL (compare_any _ _ _) | with_reducible exact quietA (compare_any _ _ _))); go_wp2)
  rw [rounds_succ]
  go_wp2
  go_ret
  refine ⟨rfl, belowN ?_⟩
  go_grown

theorem cmpZ_ne {x y : Int} (h : (cmpZ x y != 0) = true) : x ≠ y := by rintro rfl; unfold cmpZ at h; simp at h
theorem cmpZ_eq {x y : Int} (h : (cmpZ x y != 0) = false) : x = y := by
  unfold cmpZ at h; split at h
  · simp at h
  · split at h
    · simp at h
    · omega

theorem cmp_any (a b : Nat) (ha : a < B256) (hb : b < B256) (w : World) :
    Calls Try.prog 68 #[U a, U b] w fun e w' => e = .returned (.int .i64 (cmpI a b)) ∧ Below w.heap.size w w' := by
  have A := limb_sum ha
  have B := limb_sum hb
  have a0 := limb_nonneg a 0; have a1 := limb_nonneg a 1; have a2 := limb_nonneg a 2; have a3 := limb_nonneg a 3
  have b0 := limb_nonneg b 0; have b1 := limb_nonneg b 1; have b2 := limb_nonneg b 2; have b3 := limb_nonneg b 3
  have c0 := limb_lt a 0; have c1 := limb_lt a 1; have c2 := limb_lt a 2; have c3 := limb_lt a 3
  have d0 := limb_lt b 0; have d1 := limb_lt b 1; have d2 := limb_lt b 2; have d3 := limb_lt b 3
  cases h3 : (cmpZ (limb a 3) (limb b 3) != 0)
  case true =>
    have n3 := cmpZ_ne h3
    have r : cmpI a b = cmpZ (limb a 3) (limb b 3) := by unfold cmpI cmpZ; split <;> split <;> first | rfl | omega | (split <;> first | rfl | omega | (split <;> first | rfl | omega))
    rw [r]; exact cmp_at3 _ _ _ _ _ _ _ _ w h3
  have n3 := cmpZ_eq h3
  cases h2 : (cmpZ (limb a 2) (limb b 2) != 0)
  case true =>
    have n2 := cmpZ_ne h2
    have r : cmpI a b = cmpZ (limb a 2) (limb b 2) := by unfold cmpI cmpZ; split <;> split <;> first | rfl | omega | (split <;> first | rfl | omega | (split <;> first | rfl | omega))
    rw [r]; exact cmp_at2 _ _ _ _ _ _ _ _ w h3 h2
  have n2 := cmpZ_eq h2
  cases h1 : (cmpZ (limb a 1) (limb b 1) != 0)
  case true =>
    have n1 := cmpZ_ne h1
    have r : cmpI a b = cmpZ (limb a 1) (limb b 1) := by unfold cmpI cmpZ; split <;> split <;> first | rfl | omega | (split <;> first | rfl | omega | (split <;> first | rfl | omega))
    rw [r]; exact cmp_at1 _ _ _ _ _ _ _ _ w h3 h2 h1
  have n1 := cmpZ_eq h1
  cases h0 : (cmpZ (limb a 0) (limb b 0) != 0)
  case true =>
    have n0 := cmpZ_ne h0
    have r : cmpI a b = cmpZ (limb a 0) (limb b 0) := by unfold cmpI cmpZ; split <;> split <;> first | rfl | omega | (split <;> first | rfl | omega | (split <;> first | rfl | omega))
    rw [r]; exact cmp_at0 _ _ _ _ _ _ _ _ w h3 h2 h1 h0
  have n0 := cmpZ_eq h0
  have r : cmpI a b = 0 := by unfold cmpI; split <;> first | omega | (split <;> first | rfl | omega)
  rw [r]; exact cmp_same _ _ _ _ _ _ _ _ w h3 h2 h1 h0

end Go.Proofs.Ytlaapbenpjopiaa

namespace Go.Proofs.Ytlaapbenpjopiaa
open Go.RowKit Go.Shelf

def ren : Ren := ⟨fun _ => 52, fun x => if x = 46 then 68 else if x = 53 then 22 else if x = 3 then 3 else if x = 4 then 4 else if x = 5 then 5 else if x = 9 then 9 else x, fun x => x⟩
def renL : Ren := ⟨fun _ => 66, fun x => if x = 46 then 68 else if x = 53 then 22 else if x = 3 then 3 else if x = 4 then 4 else if x = 5 then 5 else if x = 9 then 9 else x, fun x => x⟩
theorem lays264 : Lays.n264 Try.prog ren where
  mixed := by kernel_rfl
  f264 := by kernel_rfl
  t46 := Try.underlying68
  a46 := Try.isAgg68
  z46 := Try.sizeOf68
  v46 := Try.zeroValue68
  t53 := Try.underlying22
  a53 := Try.isAgg22
  z53 := Try.sizeOf22
  v53 := Try.zeroValue22
theorem lays129 : Lays.n129 Try.prog renL where
  mixed := by kernel_rfl
  f129 := by kernel_rfl
  t3 := Try.underlying3
  a3 := Try.isAgg3
  z3 := Try.sizeOf3
  v3 := Try.zeroValue3
  t4 := Try.underlying4
  a4 := Try.isAgg4
  z4 := Try.sizeOf4
  v4 := Try.zeroValue4
  t5 := Try.underlying5
  a5 := Try.isAgg5
  z5 := Try.sizeOf5
  v5 := Try.zeroValue5
  t9 := Try.underlying9
  a9 := Try.isAgg9
  z9 := Try.sizeOf9
  v9 := Try.zeroValue9
  t46 := Try.underlying68
  a46 := Try.isAgg68
  z46 := Try.sizeOf68
  v46 := Try.zeroValue68
  t53 := Try.underlying22
  a53 := Try.isAgg22
  z53 := Try.sizeOf22
  v53 := Try.zeroValue22

theorem bitLen_blen (x : Nat) (hx : x < 18446744073709551616) : Lib.bitLen x = blen x := by
  by_cases h : x = 0
  · subst h; rfl
  · obtain ⟨h1, h2, h3⟩ := Lib.bitLenAux_bounds 64 x hx h
    have e : blen x = (Lib.bitLenAux 64 x - 1) + 1 := blen_eq h2 (by rw [Nat.sub_add_cancel h1]; exact h3)
    show Lib.bitLenAux 64 x = blen x
    omega

theorem len64_any (x : Int) (h0 : 0 ≤ x) (h1 : x < 18446744073709551616) (w : World) :
    Calls Try.prog 66 #[.int .u64 x] w fun e w' => e = .returned (.int .i64 (blen x.toNat)) ∧ w = w' := by
  refine (Any.bits_Len64 lays129 x w h0 (by omega)).mono fun e w' h => ?_
  rw [← bitLen_blen x.toNat (by omega)]
  exact ⟨h.1, h.2.symm⟩

theorem mul64_any (x y : Nat) (hx : x < 18446744073709551616) (hy : y < 18446744073709551616) (w : World) :
    Calls Try.prog 52 #[.int .u64 x, .int .u64 y] w fun e w' => e = .returned (.tuple #[.int .u64 ((x * y / 18446744073709551616 : Nat) : Int), .int .u64 ((x * y % 18446744073709551616 : Nat) : Int)]) ∧ w = w' :=
  (Any.bits_Mul64 lays264 x y hx hy w).mono fun _ _ h => ⟨h.1, h.2.symm⟩

theorem mad_core (x y m n h l s c t d : Int) (w : World) (hh : 0 ≤ h) (hc : 0 ≤ c) (hd : 0 ≤ d) (hs : h + c + d < 18446744073709551616)
    (hm : ∀ w, Calls Try.prog 52 #[.int .u64 x, .int .u64 y] w fun e w' => e = .returned (.tuple #[.int .u64 h, .int .u64 l]) ∧ w = w')
    (h0 : ∀ w, (callFunc 17 #[.int .u64 l, .int .u64 m, .int .u64 0]).run Try.prog w = .ok (.value (.tuple #[.int .u64 s, .int .u64 c])) w)
    (h1 : ∀ w, (callFunc 17 #[.int .u64 s, .int .u64 n, .int .u64 0]).run Try.prog w = .ok (.value (.tuple #[.int .u64 t, .int .u64 d])) w) :
    Calls Try.prog 71 #[.int .u64 x, .int .u64 y, .int .u64 m, .int .u64 n] w fun e w' => e = .returned (.tuple #[.int .u64 (h + c + d), .int .u64 t]) ∧ w = w' := by
  have e1 : IntKind.u64.wrap (h + c) = h + c := by rw [IntKind.wrap_u64]; omega
  have e2 : IntKind.u64.wrap (h + c + d) = h + c + d := by rw [IntKind.wrap_u64]; omega
  have HM : Hid (∀ w, Calls Try.prog 52 #[.int .u64 x, .int .u64 y] w fun e w' => e = .returned (.tuple #[.int .u64 h, .int .u64 l]) ∧ w = w') := hm
  clear hm hs
  go_enter Try.func71, Try.ntmps71
  go_wp2_with (go_at_call 52; refine (HM.out _).mono ?_; rintro e w2 ⟨rfl, rfl⟩)
  go_ret2
  exact ⟨rfl, rfl⟩

theorem mad_any (x y m n : Nat) (hx : x < 18446744073709551616) (hy : y < 18446744073709551616) (hm : m < 18446744073709551616) (hn : n < 18446744073709551616) (w : World) :
    Calls Try.prog 71 #[.int .u64 x, .int .u64 y, .int .u64 m, .int .u64 n] w fun e w' =>
      e = .returned (.tuple #[.int .u64 (((x * y + m + n) / 18446744073709551616 : Nat) : Int), .int .u64 (((x * y + m + n) % 18446744073709551616 : Nat) : Int)]) ∧ w = w' := by
  have hxy : x * y ≤ 18446744073709551615 * 18446744073709551615 := Nat.mul_le_mul (by omega) (by omega)
  obtain ⟨s, c, p0, q0, r0, t0, e0⟩ := split_add ((x * y % 18446744073709551616 : Nat) : Int) m 0 (by omega) (by omega) (by omega) (by omega) (by omega) (by omega)
  obtain ⟨t, d, p1, q1, r1, t1, e1⟩ := split_add s n 0 (by omega) (by omega) (by omega) (by omega) (by omega) (by omega)
  have k0 := add64_run (by omega) (by omega) (by omega) (by omega) p0 q0 e0
  have k1 := add64_run p0 (by omega) (by omega) (by omega) p1 q1 e1
  have g1 : (((x * y + m + n) / 18446744073709551616 : Nat) : Int) = ((x * y / 18446744073709551616 : Nat) : Int) + c + d := by generalize x * y = z at *; omega
  have g2 : (((x * y + m + n) % 18446744073709551616 : Nat) : Int) = t := by generalize x * y = z at *; omega
  have g3 : ((x * y / 18446744073709551616 : Nat) : Int) + c + d < 18446744073709551616 := by generalize x * y = z at *; omega
  rw [g1, g2]
  exact mad_core _ _ _ _ _ _ _ _ _ _ w (by omega) r0 r1 g3 (fun w => mul64_any x y hx hy w) k0 k1

end Go.Proofs.Ytlaapbenpjopiaa

namespace Go.Proofs.Ytlaapbenpjopiaa
open Go.RowKit

set_option maxHeartbeats 400000 in
theorem bitlen_3 (x0 x1 x2 x3 : Int) (w : World)  (h3 : (x3 != 0) = true) (p : 0 ≤ x3) (q : x3 < 18446744073709551616) :
    Calls Try.prog 73 #[.agg #[.int .u64 x0, .int .u64 x1, .int .u64 x2, .int .u64 x3]] w fun e w' => e = .returned (.int .i64 (192 + (blen x3.toNat : Int))) ∧ Below w.heap.size w w' := by
  have b := blen_word x3 q
  have C := len64_any x3 p q
  have HC : Hid (∀ w, Calls Try.prog 66 #[.int .u64 x3] w fun e w' => e = .returned (.int .i64 (blen x3.toNat)) ∧ w = w') := C
  clear C q
  generalize blen x3.toNat = z at *
  go_enter Try.func73, Try.ntmps73
  go_wp2
  refine wp_loop_rounds 5 ?_
  iterate 1 (rw [rounds_succ]; go_wp2_with (go_at_call 66; refine (HC.out _).mono ?_; rintro e w2 ⟨rfl, rfl⟩))
  go_ret
  refine ⟨rfl, ?_⟩
  go_grown

set_option maxHeartbeats 400000 in
theorem bitlen_2 (x0 x1 x2 x3 : Int) (w : World) (h3 : (x3 != 0) = false) (h2 : (x2 != 0) = true) (p : 0 ≤ x2) (q : x2 < 18446744073709551616) :
    Calls Try.prog 73 #[.agg #[.int .u64 x0, .int .u64 x1, .int .u64 x2, .int .u64 x3]] w fun e w' => e = .returned (.int .i64 (128 + (blen x2.toNat : Int))) ∧ Below w.heap.size w w' := by
  have b := blen_word x2 q
  have C := len64_any x2 p q
  have HC : Hid (∀ w, Calls Try.prog 66 #[.int .u64 x2] w fun e w' => e = .returned (.int .i64 (blen x2.toNat)) ∧ w = w') := C
  clear C q
  generalize blen x2.toNat = z at *
  go_enter Try.func73, Try.ntmps73
  go_wp2
  refine wp_loop_rounds 5 ?_
  iterate 2 (rw [rounds_succ]; go_wp2_with (go_at_call 66; refine (HC.out _).mono ?_; rintro e w2 ⟨rfl, rfl⟩))
  go_ret
  refine ⟨rfl, ?_⟩
  go_grown

set_option maxHeartbeats 400000 in
theorem bitlen_1 (x0 x1 x2 x3 : Int) (w : World) (h3 : (x3 != 0) = false) (h2 : (x2 != 0) = false) (h1 : (x1 != 0) = true) (p : 0 ≤ x1) (q : x1 < 18446744073709551616) :
    Calls Try.prog 73 #[.agg #[.int .u64 x0, .int .u64 x1, .int .u64 x2, .int .u64 x3]] w fun e w' => e = .returned (.int .i64 (64 + (blen x1.toNat : Int))) ∧ Below w.heap.size w w' := by
  have b := blen_word x1 q
  have C := len64_any x1 p q
  have HC : Hid (∀ w, Calls Try.prog 66 #[.int .u64 x1] w fun e w' => e = .returned (.int .i64 (blen x1.toNat)) ∧ w = w') := C
  clear C q
  generalize blen x1.toNat = z at *
  go_enter Try.func73, Try.ntmps73
  go_wp2
  refine wp_loop_rounds 5 ?_
  iterate 3 (rw [rounds_succ]; go_wp2_with (go_at_call 66; refine (HC.out _).mono ?_; rintro e w2 ⟨rfl, rfl⟩))
  go_ret
  refine ⟨rfl, ?_⟩
  go_grown

set_option maxHeartbeats 400000 in
theorem bitlen_0 (x0 x1 x2 x3 : Int) (w : World) (h3 : (x3 != 0) = false) (h2 : (x2 != 0) = false) (h1 : (x1 != 0) = false) (h0 : (x0 != 0) = true) (p : 0 ≤ x0) (q : x0 < 18446744073709551616) :
    Calls Try.prog 73 #[.agg #[.int .u64 x0, .int .u64 x1, .int .u64 x2, .int .u64 x3]] w fun e w' => e = .returned (.int .i64 (blen x0.toNat : Int)) ∧ Below w.heap.size w w' := by
  have b := blen_word x0 q
  have C := len64_any x0 p q
  have HC : Hid (∀ w, Calls Try.prog 66 #[.int .u64 x0] w fun e w' => e = .returned (.int .i64 (blen x0.toNat)) ∧ w = w') := C
  clear C q
  generalize blen x0.toNat = z at *
  go_enter Try.func73, Try.ntmps73
  go_wp2
  refine wp_loop_rounds 5 ?_
  iterate 4 (rw [rounds_succ]; go_wp2_with (go_at_call 66; refine (HC.out _).mono ?_; rintro e w2 ⟨rfl, rfl⟩))
  go_ret
  refine ⟨rfl, ?_⟩
  go_grown

set_option maxHeartbeats 400000 in
theorem bitlen_z (w : World) :
    Calls Try.prog 73 #[.agg #[.int .u64 0, .int .u64 0, .int .u64 0, .int .u64 0]] w fun e w' => e = .returned (.int .i64 0) ∧ Below w.heap.size w w' := by
  go_enter Try.func73, Try.ntmps73
  go_wp2
  refine wp_loop_rounds 5 ?_
  iterate 5 (rw [rounds_succ]; go_wp2)
  go_ret
  refine ⟨rfl, ?_⟩
  go_grown

theorem bne_of {x : Int} (h : x ≠ 0) : (x != 0) = true := by simpa using h
theorem bne_of0 {x : Int} (h : x = 0) : (x != 0) = false := by simpa using h

theorem bitlen_any (a : Nat) (ha : a < B256) (w : World) :
    Calls Try.prog 73 #[U a] w fun e w' => e = .returned (.int .i64 (blen a)) ∧ Below w.heap.size w w' := by
  by_cases h3 : limb a 3 = 0
  · by_cases h2 : limb a 2 = 0
    · by_cases h1 : limb a 1 = 0
      · by_cases h0 : limb a 0 = 0
        · have A := limb_sum ha
          have e : a = 0 := by omega
          subst e
          rw [U_zero]; exact bitlen_z w
        · rw [blen_at0 ha h3 h2 h1]; exact bitlen_0 _ _ _ _ w (bne_of0 h3) (bne_of0 h2) (bne_of0 h1) (bne_of h0) (limb_nonneg _ _) (limb_lt _ _)
      · rw [blen_at1 ha h3 h2 h1, Int.natCast_add]; exact bitlen_1 _ _ _ _ w (bne_of0 h3) (bne_of0 h2) (bne_of h1) (limb_nonneg _ _) (limb_lt _ _)
    · rw [blen_at2 ha h3 h2, Int.natCast_add]; exact bitlen_2 _ _ _ _ w (bne_of0 h3) (bne_of h2) (limb_nonneg _ _) (limb_lt _ _)
  · rw [blen_at3 ha h3, Int.natCast_add]; exact bitlen_3 _ _ _ _ w (bne_of h3) (limb_nonneg _ _) (limb_lt _ _)

theorem uint64_yes (a : Nat) (ha : a < B256) (hl : a < 18446744073709551616) (w : World) :
    Calls Try.prog 70 #[U a] w fun e w' => e = .returned (.tuple #[.int .u64 a, .bool true]) ∧ Below w.heap.size w w' := by
  have b := blen_64.2 hl
  have e0 : (limb a 0) = (a : Int) := by rw [limb0]; omega
  have C := bitlen_any a ha
  have HC : Hid (∀ w, Calls Try.prog 73 #[U a] w fun e w' => e = .returned (.int .i64 (blen a)) ∧ Below w.heap.size w w') := C
  rw [← e0]
  clear C hl e0
  generalize blen a = z at *
  go_enter Try.func70, Try.ntmps70
  go_wp2_with (go_at_call 73; refine (HC.out _).mono ?_; rintro e w2 ⟨rfl, hb⟩; have hc := oldCells hb)
  go_ret2
  refine ⟨rfl, Below.trans ?_ (hb.mono (by simp))⟩
  go_grown

theorem uint64_no (a : Nat) (ha : a < B256) (hl : ¬ a < 18446744073709551616) (w : World) :
    Calls Try.prog 70 #[U a] w fun e w' => e = .returned (.tuple #[.int .u64 0, .bool false]) ∧ Below w.heap.size w w' := by
  have b : ¬ blen a ≤ 64 := fun h => hl (blen_64.1 h)
  have b' : 64 < blen a := by omega
  have C := bitlen_any a ha
  have HC : Hid (∀ w, Calls Try.prog 73 #[U a] w fun e w' => e = .returned (.int .i64 (blen a)) ∧ Below w.heap.size w w') := C
  clear C hl b
  generalize blen a = z at *
  go_enter Try.func70, Try.ntmps70
  go_wp2_with (go_at_call 73; refine (HC.out _).mono ?_; rintro e w2 ⟨rfl, hb⟩)
  go_ret2
  refine ⟨rfl, Below.trans ?_ (hb.mono (by simp))⟩
  go_grown

end Go.Proofs.Ytlaapbenpjopiaa

namespace Go.Proofs.Ytlaapbenpjopiaa
open Go.RowKit

/-- A word. -/
def W64 (x : Int) : Prop := 0 ≤ x ∧ x < 18446744073709551616

theorem mad_ex (x y m n : Int) (hx : W64 x) (hy : W64 y) (hm : W64 m) (hn : W64 n) (w : World) :
    Calls Try.prog 71 #[.int .u64 x, .int .u64 y, .int .u64 m, .int .u64 n] w fun e w' =>
      ∃ h l : Int, Hid (x * y + m + n = l + 18446744073709551616 * h) ∧ W64 h ∧ W64 l ∧ e = .returned (.tuple #[.int .u64 h, .int .u64 l]) ∧ w = w' := by
  obtain ⟨x, rfl⟩ := Int.eq_ofNat_of_zero_le hx.1
  obtain ⟨y, rfl⟩ := Int.eq_ofNat_of_zero_le hy.1
  obtain ⟨m, rfl⟩ := Int.eq_ofNat_of_zero_le hm.1
  obtain ⟨n, rfl⟩ := Int.eq_ofNat_of_zero_le hn.1
  have h1 := hx.2; have h2 := hy.2; have h3 := hm.2; have h4 := hn.2
  have hxy : x * y ≤ 18446744073709551615 * 18446744073709551615 := Nat.mul_le_mul (by omega) (by omega)
  refine (mad_any x y m n (by omega) (by omega) (by omega) (by omega) w).mono fun e w' h => ⟨_, _, ?_, ⟨?_, ?_⟩, ⟨?_, ?_⟩, h.1, h.2⟩
  · show _ = _
    rw [← Int.natCast_mul]; generalize x * y = z at *; omega
  all_goals (generalize x * y = z at *; omega)

set_option maxRecDepth 100000 in
set_option maxHeartbeats 2000000 in
theorem full_core (x0 x1 x2 x3 y0 y1 y2 y3 : Int) (w : World) (a0 : W64 x0) (a1 : W64 x1) (a2 : W64 x2) (a3 : W64 x3) (b0 : W64 y0) (b1 : W64 y1) (b2 : W64 y2) (b3 : W64 y3) :
    Calls Try.prog 67 #[.agg #[.int .u64 x0, .int .u64 x1, .int .u64 x2, .int .u64 x3], .agg #[.int .u64 y0, .int .u64 y1, .int .u64 y2, .int .u64 y3]] w fun e w' =>
      ∃ t0 t1 t2 t3 t4 t5 t6 t7 : Int, W64 t0 ∧ W64 t1 ∧ W64 t2 ∧ W64 t3 ∧ W64 t4 ∧ W64 t5 ∧ W64 t6 ∧ W64 t7 ∧ Hid ((x0 + 18446744073709551616 * x1 + 340282366920938463463374607431768211456 * x2 + 6277101735386680763835789423207666416102355444464034512896 * x3) * (y0 + 18446744073709551616 * y1 + 340282366920938463463374607431768211456 * y2 + 6277101735386680763835789423207666416102355444464034512896 * y3) = (t0 + 18446744073709551616 * t1 + 340282366920938463463374607431768211456 * t2 + 6277101735386680763835789423207666416102355444464034512896 * t3) + 115792089237316195423570985008687907853269984665640564039457584007913129639936 * (t4 + 18446744073709551616 * t5 + 340282366920938463463374607431768211456 * t6 + 6277101735386680763835789423207666416102355444464034512896 * t7)) ∧
      e = .returned (.tuple #[.agg #[.int .u64 t0, .int .u64 t1, .int .u64 t2, .int .u64 t3], .agg #[.int .u64 t4, .int .u64 t5, .int .u64 t6, .int .u64 t7]]) ∧ Below w.heap.size w w' := by
  have zz : W64 0 := ⟨by omega, by omega⟩
  have i0 : ∀ (p q r s : Value) w, (Instr.index 24 (.agg #[p, q, r, s]) (.int .i64 0)).run Try.prog w = .ok p w := fun _ _ _ _ _ => by kernel_rfl
  have i1 : ∀ (p q r s : Value) w, (Instr.index 24 (.agg #[p, q, r, s]) (.int .i64 1)).run Try.prog w = .ok q w := fun _ _ _ _ _ => by kernel_rfl
  have i2 : ∀ (p q r s : Value) w, (Instr.index 24 (.agg #[p, q, r, s]) (.int .i64 2)).run Try.prog w = .ok r w := fun _ _ _ _ _ => by kernel_rfl
  have i3 : ∀ (p q r s : Value) w, (Instr.index 24 (.agg #[p, q, r, s]) (.int .i64 3)).run Try.prog w = .ok s w := fun _ _ _ _ _ => by kernel_rfl
  have ar : ∀ (a : Option Addr) (c : Nat) (w : World), (Instr.arrayAt 24 (.slice a 4 c)).run Try.prog w = .ok (.pointer a) w := fun a c w => run_arrayAt w 24 22 4 a 4 c Try.underlying24 (by omega)
  go_enter Try.func67, Try.ntmps67
  go_wp2
  refine wp_loop_rounds 5 ?_
  rw [rounds_succ]
  go_wp2
  refine wp_loop_rounds 5 ?_
  rw [rounds_succ]
  go_wp2_with (go_at_call 71; refine (mad_ex _ _ _ _ (by assumption) (by assumption) (by assumption) (by assumption) _).mono ?_; rintro e w2 ⟨h00, l00, E00, p00, q00, rfl, rfl⟩)
  rw [rounds_succ]
  go_wp2_with (go_at_call 71; refine (mad_ex _ _ _ _ (by assumption) (by assumption) (by assumption) (by assumption) _).mono ?_; rintro e w2 ⟨h01, l01, E01, p01, q01, rfl, rfl⟩)
  rw [rounds_succ]
  go_wp2_with (go_at_call 71; refine (mad_ex _ _ _ _ (by assumption) (by assumption) (by assumption) (by assumption) _).mono ?_; rintro e w2 ⟨h02, l02, E02, p02, q02, rfl, rfl⟩)
  rw [rounds_succ]
  go_wp2_with (go_at_call 71; refine (mad_ex _ _ _ _ (by assumption) (by assumption) (by assumption) (by assumption) _).mono ?_; rintro e w2 ⟨h03, l03, E03, p03, q03, rfl, rfl⟩)
  rw [rounds_succ]
  go_wp2
  rw [rounds_succ]
  go_wp2
  refine wp_loop_rounds 5 ?_
  rw [rounds_succ]
  go_wp2_with (go_at_call 71; refine (mad_ex _ _ _ _ (by assumption) (by assumption) (by assumption) (by assumption) _).mono ?_; rintro e w2 ⟨h10, l10, E10, p10, q10, rfl, rfl⟩)
  rw [rounds_succ]
  go_wp2_with (go_at_call 71; refine (mad_ex _ _ _ _ (by assumption) (by assumption) (by assumption) (by assumption) _).mono ?_; rintro e w2 ⟨h11, l11, E11, p11, q11, rfl, rfl⟩)
  rw [rounds_succ]
  go_wp2_with (go_at_call 71; refine (mad_ex _ _ _ _ (by assumption) (by assumption) (by assumption) (by assumption) _).mono ?_; rintro e w2 ⟨h12, l12, E12, p12, q12, rfl, rfl⟩)
  rw [rounds_succ]
  go_wp2_with (go_at_call 71; refine (mad_ex _ _ _ _ (by assumption) (by assumption) (by assumption) (by assumption) _).mono ?_; rintro e w2 ⟨h13, l13, E13, p13, q13, rfl, rfl⟩)
  rw [rounds_succ]
  go_wp2
  rw [rounds_succ]
  go_wp2
  refine wp_loop_rounds 5 ?_
  rw [rounds_succ]
  go_wp2_with (go_at_call 71; refine (mad_ex _ _ _ _ (by assumption) (by assumption) (by assumption) (by assumption) _).mono ?_; rintro e w2 ⟨h20, l20, E20, p20, q20, rfl, rfl⟩)
  rw [rounds_succ]
  go_wp2_with (go_at_call 71; refine (mad_ex _ _ _ _ (by assumption) (by assumption) (by assumption) (by assumption) _).mono ?_; rintro e w2 ⟨h21, l21, E21, p21, q21, rfl, rfl⟩)
  rw [rounds_succ]
  go_wp2_with (go_at_call 71; refine (mad_ex _ _ _ _ (by assumption) (by assumption) (by assumption) (by assumption) _).mono ?_; rintro e w2 ⟨h22, l22, E22, p22, q22, rfl, rfl⟩)
  rw [rounds_succ]
  go_wp2_with (go_at_call 71; refine (mad_ex _ _ _ _ (by assumption) (by assumption) (by assumption) (by assumption) _).mono ?_; rintro e w2 ⟨h23, l23, E23, p23, q23, rfl, rfl⟩)
  rw [rounds_succ]
  go_wp2
  rw [rounds_succ]
  go_wp2
  refine wp_loop_rounds 5 ?_
  rw [rounds_succ]
  go_wp2_with (go_at_call 71; refine (mad_ex _ _ _ _ (by assumption) (by assumption) (by assumption) (by assumption) _).mono ?_; rintro e w2 ⟨h30, l30, E30, p30, q30, rfl, rfl⟩)
  rw [rounds_succ]
  go_wp2_with (go_at_call 71; refine (mad_ex _ _ _ _ (by assumption) (by assumption) (by assumption) (by assumption) _).mono ?_; rintro e w2 ⟨h31, l31, E31, p31, q31, rfl, rfl⟩)
  rw [rounds_succ]
  go_wp2_with (go_at_call 71; refine (mad_ex _ _ _ _ (by assumption) (by assumption) (by assumption) (by assumption) _).mono ?_; rintro e w2 ⟨h32, l32, E32, p32, q32, rfl, rfl⟩)
  rw [rounds_succ]
  go_wp2_with (go_at_call 71; refine (mad_ex _ _ _ _ (by assumption) (by assumption) (by assumption) (by assumption) _).mono ?_; rintro e w2 ⟨h33, l33, E33, p33, q33, rfl, rfl⟩)
  rw [rounds_succ]
  go_wp2
  rw [rounds_succ]
  go_wp2
  go_region
  go_wp2
  refine bodyPost_ret (v := .tuple #[.agg #[.int .u64 l00, .int .u64 l10, .int .u64 l20, .int .u64 l30], .agg #[.int .u64 l31, .int .u64 l32, .int .u64 l33, .int .u64 h33]]) (by simp [results, Try.results67, go_sem]) rfl ⟨l00, l10, l20, l30, l31, l32, l33, h33, q00, q10, q20, q30, q31, q32, q33, p33, ?_, rfl, ?_⟩
  · exact mul4 x0 x1 x2 x3 y0 y1 y2 y3 h00 l00 h01 l01 h02 l02 h03 l03 h10 l10 h11 l11 h12 l12 h13 l13 h20 l20 h21 l21 h22 l22 h23 l23 h30 l30 h31 l31 h32 l32 h33 l33 E00.out E01.out E02.out E03.out E10.out E11.out E12.out E13.out E20.out E21.out E22.out E23.out E30.out E31.out E32.out E33.out
  · go_grown

theorem full_any (a b : Nat) (ha : a < B256) (hb : b < B256) (w : World) :
    Calls Try.prog 67 #[U a, U b] w fun e w' => e = .returned (.tuple #[U (a * b % B256), U (a * b / B256)]) ∧ Below w.heap.size w w' := by
  have A := limb_sum ha
  have B := limb_sum hb
  refine (full_core _ _ _ _ _ _ _ _ w ⟨limb_nonneg a 0, limb_lt a 0⟩ ⟨limb_nonneg a 1, limb_lt a 1⟩ ⟨limb_nonneg a 2, limb_lt a 2⟩ ⟨limb_nonneg a 3, limb_lt a 3⟩ ⟨limb_nonneg b 0, limb_lt b 0⟩ ⟨limb_nonneg b 1, limb_lt b 1⟩ ⟨limb_nonneg b 2, limb_lt b 2⟩ ⟨limb_nonneg b 3, limb_lt b 3⟩).mono ?_
  rintro e w' ⟨t0, t1, t2, t3, t4, t5, t6, t7, ⟨p0, q0⟩, ⟨p1, q1⟩, ⟨p2, q2⟩, ⟨p3, q3⟩, ⟨p4, q4⟩, ⟨p5, q5⟩, ⟨p6, q6⟩, ⟨p7, q7⟩, E, rfl, hw⟩
  have E' := E.out
  rw [← A, ← B, ← Int.natCast_mul] at E'
  unfold B256
  obtain ⟨x0, x1, x2, x3⟩ := limb_of (n := a * b % 115792089237316195423570985008687907853269984665640564039457584007913129639936) p0 q0 p1 q1 p2 q2 p3 q3 (by generalize a * b = z at *; omega)
  obtain ⟨x4, x5, x6, x7⟩ := limb_of (n := a * b / 115792089237316195423570985008687907853269984665640564039457584007913129639936) p4 q4 p5 q5 p6 q6 p7 q7 (by generalize a * b = z at *; omega)
  refine ⟨?_, hw⟩
  rw [x0, x1, x2, x3, x4, x5, x6, x7]

end Go.Proofs.Ytlaapbenpjopiaa

namespace Go.Proofs.Ytlaapbenpjopiaa
open Go.RowKit

/-! ### Min -/
/-- The least of a and the numbers of l. -/
def minL (a : Nat) (l : List Nat) : Nat := l.foldl (fun m x => if x < m then x else m) a
theorem minL_snoc (a : Nat) (l : List Nat) (x : Nat) : minL a (l ++ [x]) = if x < minL a l then x else minL a l := by
  unfold minL; rw [List.foldl_append]; rfl

theorem Res.put4 {g : Nat} {t : TypeId} {c0 c1 c2 c3 : Value} {w : World} (h : Res g t #[c0, c1, c2, c3] w) (x0 x1 x2 x3 : Value) :
    Res g t #[x0, x1, x2, x3] ((((w.setCell ⟨g, 0, none⟩ x0).setCell ⟨g, 1, none⟩ x1).setCell ⟨g, 2, none⟩ x2).setCell ⟨g, 3, none⟩ x3) := by
  have e : ∀ (w : World) (c : Array Value) (i : Nat) (x : Value), Res g t c w → Res g t (c.setIfInBounds i x) (w.setCell ⟨g, i, none⟩ x) := fun w c i x h => by
    unfold Res at h ⊢
    simp [World.setCell, Array.getElem?_modify, h]
  exact e _ _ 3 x3 (e _ _ 2 x2 (e _ _ 1 x1 (e _ _ 0 x0 h)))
theorem Res.far4 {g g' : Nat} {t : TypeId} {c : Array Value} {w : World} (h : Res g t c w) (x0 x1 x2 x3 : Value) (hg : g ≠ g') :
    Res g t c ((((w.setCell ⟨g', 0, none⟩ x0).setCell ⟨g', 1, none⟩ x1).setCell ⟨g', 2, none⟩ x2).setCell ⟨g', 3, none⟩ x3) := by
  unfold Res at h ⊢
  rw [Below.heap_setCell _ _ _ _ hg, Below.heap_setCell _ _ _ _ hg, Below.heap_setCell _ _ _ _ hg, Below.heap_setCell _ _ _ _ hg]
  exact h

/-- A slice of numbers. -/
def Us (w : World) (v : Value) (l : List Nat) : Prop :=
  ∃ (A : Option Addr) (cap : Nat), v = .slice A l.length cap ∧ l.length ≤ 4294967296 ∧ (∀ x ∈ l, x < B256) ∧
    (0 < l.length → ∃ b o, A = some ⟨b, o, none⟩ ∧ b < w.heap.size ∧ ∀ i j, i < l.length → j < 4 → w.cell? ⟨b, o + i * 4 + j, none⟩ = some (.int .u64 (limb (l.getD i 0) j)))

end Go.Proofs.Ytlaapbenpjopiaa

