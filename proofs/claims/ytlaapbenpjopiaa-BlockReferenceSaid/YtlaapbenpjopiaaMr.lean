/- Plain arithmetic of digits in base 65536, and when a slice of ints reads as a number. No Go function in this text; no conditions. Plain arithmetic: two numbers added digit by digit in base 65536; rows of digits. No Go function in this text; no conditions. Plain arithmetic: differences and products of numbers digit by digit in base 65536. No Go function in this text; no conditions. Plain arithmetic: division by one digit and bit by bit, in base 65536. No Go function in this text; no conditions. Contracts of the reference's norm, Fits, FromUint256, ToUint256, Checked and Cmp over this translation: slices of digits read as numbers; memory that was there is as it was. Contract of the reference's ToUint256 over this translation: a slice of at most sixteen digits is turned into the number that it reads as; memory that was there is as it was. Contract of the reference's Cmp over this translation: it returns the order of the two numbers that the slices read as; memory is as it was but for draws. Contract of the reference's Add over this translation: the slice that it returns reads as the sum of the two numbers; memory that was there is as it was. Contract of the reference's Sub over this translation: the slice that it returns reads as the difference of the two numbers; memory that was there is as it was. Contract of the reference's Mul over this translation: the slice that it returns reads as the product of the two numbers; memory that was there is as it was. Contract of the reference's short over this translation: quotient and remainder of a number by a digit; memory that was there is as it was. Contract of the reference's Div over this translation: quotient and remainder of two numbers, the divisor not zero; memory that was there is as it was. Contracts of the reference's IsZero and FromUint64 over this translation: whether a number is zero; a word as a slice of digits; memory that was there is as it was. -/
import Derived.Test.YtlaapbenpjopiaaMu
import Derived.Handy
import Derived.Laws.Bits64b
import Derived.Laws.AppendOwn
import Derived.Laws.Rows
import Derived.Laws.OwnMore
import Derived.BigRegion
import Derived.OwnWalk
namespace Go.Proofs.Ytlaapbenpjopiaa
open Go.RowKit

/-- Digit i of n in base 65536. -/
def dig (n i : Nat) : Int := ((n / 65536 ^ i % 65536 : Nat) : Int)
/-- The number of digits of n in base 65536. -/
def nd (n : Nat) : Nat := (blen n + 15) / 16

theorem dig_nonneg (n i : Nat) : 0 ≤ dig n i := by unfold dig; omega
theorem dig_lt (n i : Nat) : dig n i < 65536 := by unfold dig; omega
theorem pow_16 (k : Nat) : 65536 ^ k = 2 ^ (16 * k) := by rw [show (65536 : Nat) = 2 ^ 16 from rfl, ← Nat.pow_mul]

theorem nd_le {n k : Nat} : nd n ≤ k ↔ n < 65536 ^ k := by
  rw [pow_16]
  constructor
  · intro h
    unfold nd at h
    exact Nat.lt_of_lt_of_le (blen_lt n) (Nat.pow_le_pow_right (by omega) (by omega))
  · intro h
    have := blen_le_of h
    unfold nd; omega
theorem nd_lt (n : Nat) : n < 65536 ^ nd n := nd_le.1 (Nat.le_refl _)
theorem nd_zero : nd 0 = 0 := rfl
/-- The top digit is not zero. -/
theorem nd_top {n k : Nat} (h : n < 65536 ^ (k + 1)) (hd : dig n k ≠ 0) : nd n = k + 1 := by
  have h1 := nd_le.2 h
  have h2 : ¬ nd n ≤ k := fun h3 => hd (by
    have h4 := nd_le.1 h3
    unfold dig; rw [Nat.div_eq_of_lt h4]; rfl)
  omega
theorem nd_drop {n k : Nat} (h : n < 65536 ^ (k + 1)) (hd : dig n k = 0) : n < 65536 ^ k := by
  unfold dig at hd
  rw [Nat.pow_succ] at h
  have h1 : n / 65536 ^ k < 65536 := Nat.div_lt_of_lt_mul h
  have h2 : n / 65536 ^ k = 0 := by generalize n / 65536 ^ k = q at *; omega
  rcases Nat.div_eq_zero_iff.1 h2 with h3 | h3
  · exact absurd h3 (Nat.ne_of_gt (Nat.pow_pos (by omega)))
  · exact h3
theorem nd_16 {n : Nat} : nd n ≤ 16 ↔ n < B256 := by rw [nd_le]; exact Iff.rfl

theorem lt_of_nd {a b : Nat} (h : nd a < nd b) : a < b := by
  have h1 := nd_lt a
  have h2 : ¬ b < 65536 ^ nd a := fun h3 => by have := nd_le.2 h3; omega
  omega
/-- Above place k the two are the same; the digits at k decide. -/
theorem div_step (a k : Nat) : (a / 65536 ^ k : Nat) = a / 65536 ^ (k + 1) * 65536 + (dig a k).toNat := by
  unfold dig
  rw [Nat.pow_succ, ← Nat.div_div_eq_div_mul]
  generalize a / 65536 ^ k = q
  omega
theorem lt_of_dig {a b k : Nat} (h : a / 65536 ^ (k + 1) = b / 65536 ^ (k + 1)) (hd : dig a k < dig b k) : a < b := by
  have h1 := div_step a k
  have h2 := div_step b k
  have h3 := dig_nonneg a k
  rw [h] at h1
  have h4 : a / 65536 ^ k < b / 65536 ^ k := by omega
  rcases Nat.lt_or_ge a b with h5 | h5
  · exact h5
  · have := Nat.div_le_div_right (c := 65536 ^ k) h5; omega
theorem eq_of_dig {a b k : Nat} (h : a / 65536 ^ (k + 1) = b / 65536 ^ (k + 1)) (hd : dig a k = dig b k) : a / 65536 ^ k = b / 65536 ^ k := by
  rw [div_step a k, div_step b k, h, hd]

/-! ### Digits of a number out of its words -/
theorem and16 (x : Int) (h0 : 0 ≤ x) (h1 : x < 18446744073709551616) : wrap64 (bits BinOp.and IntKind.u64 x 65535) = x % 65536 := by
  obtain ⟨n, rfl⟩ := Int.eq_ofNat_of_zero_le h0
  have h := bits_and_u64_nat n 65535 (by omega) (by omega)
  have e : n &&& 65535 = n % 65536 := Nat.and_two_pow_sub_one_eq_mod n 16
  rw [e] at h
  rw [show bits BinOp.and IntKind.u64 (n : Int) 65535 = ((n % 65536 : Nat) : Int) from h]
  simp only [wrap64]; omega
theorem word0 (a : Nat) : wrap64 (bits BinOp.and IntKind.u64 (limb a 0) 65535) = dig a 0 := by
  have h0 := limb_nonneg a 0
  have h1 := limb_lt a 0
  rw [and16 _ (by omega) (by omega)]
  rw [limb0, dig, show (65536 : Nat) ^ 0 = 1 from rfl]
  omega
theorem word1 (a : Nat) : wrap64 (bits BinOp.and IntKind.u64 (limb a 0 / 65536) 65535) = dig a 1 := by
  have h0 := limb_nonneg a 0
  have h1 := limb_lt a 0
  rw [and16 _ (by omega) (by omega)]
  rw [limb0, dig, show (65536 : Nat) ^ 1 = 65536 from rfl]
  omega
theorem word2 (a : Nat) : wrap64 (bits BinOp.and IntKind.u64 (limb a 0 / 4294967296) 65535) = dig a 2 := by
  have h0 := limb_nonneg a 0
  have h1 := limb_lt a 0
  rw [and16 _ (by omega) (by omega)]
  rw [limb0, dig, show (65536 : Nat) ^ 2 = 4294967296 from rfl]
  omega
theorem word3 (a : Nat) : wrap64 (bits BinOp.and IntKind.u64 (limb a 0 / 281474976710656) 65535) = dig a 3 := by
  have h0 := limb_nonneg a 0
  have h1 := limb_lt a 0
  rw [and16 _ (by omega) (by omega)]
  rw [limb0, dig, show (65536 : Nat) ^ 3 = 281474976710656 from rfl]
  omega
theorem word4 (a : Nat) : wrap64 (bits BinOp.and IntKind.u64 (limb a 1) 65535) = dig a 4 := by
  have h0 := limb_nonneg a 1
  have h1 := limb_lt a 1
  rw [and16 _ (by omega) (by omega)]
  rw [limb1, dig, show (65536 : Nat) ^ 4 = 18446744073709551616 from rfl]
  omega
theorem word5 (a : Nat) : wrap64 (bits BinOp.and IntKind.u64 (limb a 1 / 65536) 65535) = dig a 5 := by
  have h0 := limb_nonneg a 1
  have h1 := limb_lt a 1
  rw [and16 _ (by omega) (by omega)]
  rw [limb1, dig, show (65536 : Nat) ^ 5 = 1208925819614629174706176 from rfl]
  omega
theorem word6 (a : Nat) : wrap64 (bits BinOp.and IntKind.u64 (limb a 1 / 4294967296) 65535) = dig a 6 := by
  have h0 := limb_nonneg a 1
  have h1 := limb_lt a 1
  rw [and16 _ (by omega) (by omega)]
  rw [limb1, dig, show (65536 : Nat) ^ 6 = 79228162514264337593543950336 from rfl]
  omega
theorem word7 (a : Nat) : wrap64 (bits BinOp.and IntKind.u64 (limb a 1 / 281474976710656) 65535) = dig a 7 := by
  have h0 := limb_nonneg a 1
  have h1 := limb_lt a 1
  rw [and16 _ (by omega) (by omega)]
  rw [limb1, dig, show (65536 : Nat) ^ 7 = 5192296858534827628530496329220096 from rfl]
  omega
theorem word8 (a : Nat) : wrap64 (bits BinOp.and IntKind.u64 (limb a 2) 65535) = dig a 8 := by
  have h0 := limb_nonneg a 2
  have h1 := limb_lt a 2
  rw [and16 _ (by omega) (by omega)]
  rw [limb2, dig, show (65536 : Nat) ^ 8 = 340282366920938463463374607431768211456 from rfl]
  omega
theorem word9 (a : Nat) : wrap64 (bits BinOp.and IntKind.u64 (limb a 2 / 65536) 65535) = dig a 9 := by
  have h0 := limb_nonneg a 2
  have h1 := limb_lt a 2
  rw [and16 _ (by omega) (by omega)]
  rw [limb2, dig, show (65536 : Nat) ^ 9 = 22300745198530623141535718272648361505980416 from rfl]
  omega
theorem word10 (a : Nat) : wrap64 (bits BinOp.and IntKind.u64 (limb a 2 / 4294967296) 65535) = dig a 10 := by
  have h0 := limb_nonneg a 2
  have h1 := limb_lt a 2
  rw [and16 _ (by omega) (by omega)]
  rw [limb2, dig, show (65536 : Nat) ^ 10 = 1461501637330902918203684832716283019655932542976 from rfl]
  omega
theorem word11 (a : Nat) : wrap64 (bits BinOp.and IntKind.u64 (limb a 2 / 281474976710656) 65535) = dig a 11 := by
  have h0 := limb_nonneg a 2
  have h1 := limb_lt a 2
  rw [and16 _ (by omega) (by omega)]
  rw [limb2, dig, show (65536 : Nat) ^ 11 = 95780971304118053647396689196894323976171195136475136 from rfl]
  omega
theorem word12 (a : Nat) : wrap64 (bits BinOp.and IntKind.u64 (limb a 3) 65535) = dig a 12 := by
  have h0 := limb_nonneg a 3
  have h1 := limb_lt a 3
  rw [and16 _ (by omega) (by omega)]
  rw [limb3, dig, show (65536 : Nat) ^ 12 = 6277101735386680763835789423207666416102355444464034512896 from rfl]
  omega
theorem word13 (a : Nat) : wrap64 (bits BinOp.and IntKind.u64 (limb a 3 / 65536) 65535) = dig a 13 := by
  have h0 := limb_nonneg a 3
  have h1 := limb_lt a 3
  rw [and16 _ (by omega) (by omega)]
  rw [limb3, dig, show (65536 : Nat) ^ 13 = 411376139330301510538742295639337626245683966408394965837152256 from rfl]
  omega
theorem word14 (a : Nat) : wrap64 (bits BinOp.and IntKind.u64 (limb a 3 / 4294967296) 65535) = dig a 14 := by
  have h0 := limb_nonneg a 3
  have h1 := limb_lt a 3
  rw [and16 _ (by omega) (by omega)]
  rw [limb3, dig, show (65536 : Nat) ^ 14 = 26959946667150639794667015087019630673637144422540572481103610249216 from rfl]
  omega
theorem word15 (a : Nat) : wrap64 (bits BinOp.and IntKind.u64 (limb a 3 / 281474976710656) 65535) = dig a 15 := by
  have h0 := limb_nonneg a 3
  have h1 := limb_lt a 3
  rw [and16 _ (by omega) (by omega)]
  rw [limb3, dig, show (65536 : Nat) ^ 15 = 1766847064778384329583297500742918515827483896875618958121606201292619776 from rfl]
  omega

/-! ### Words of a number out of its digits -/
/-- The number that the lowest k digits make. -/
def lowp (n k : Nat) : Nat := n % 65536 ^ k
theorem lowp_zero (n : Nat) : lowp n 0 = 0 := Nat.mod_one n
theorem lowp_all {n k : Nat} (h : n < 65536 ^ k) : lowp n k = n := Nat.mod_eq_of_lt h
theorem put0 (n : Nat) : IntKind.u64.wrap (limb (lowp n 0) 0 + IntKind.u64.wrap (IntKind.u64.wrap (dig n 0))) = limb (lowp n 1) 0 := by
  simp only [IntKind.wrap_u64]
  rw [limb0, limb0, dig, lowp, lowp, show (65536 : Nat) ^ 0 = 1 from rfl, show (65536 : Nat) ^ 1 = 65536 from rfl]
  omega
theorem keep0 (n : Nat) : limb (lowp n 1) 1 = limb (lowp n 0) 1 ∧ limb (lowp n 1) 2 = limb (lowp n 0) 2 ∧ limb (lowp n 1) 3 = limb (lowp n 0) 3 := by
  rw [limb1, limb1, limb2, limb2, limb3, limb3, lowp, lowp, show (65536 : Nat) ^ 0 = 1 from rfl, show (65536 : Nat) ^ 1 = 65536 from rfl]
  omega
theorem put1 (n : Nat) : IntKind.u64.wrap (limb (lowp n 1) 0 + IntKind.u64.wrap (IntKind.u64.wrap (dig n 1) * 65536)) = limb (lowp n 2) 0 := by
  simp only [IntKind.wrap_u64]
  rw [limb0, limb0, dig, lowp, lowp, show (65536 : Nat) ^ 1 = 65536 from rfl, show (65536 : Nat) ^ 2 = 4294967296 from rfl]
  omega
theorem keep1 (n : Nat) : limb (lowp n 2) 1 = limb (lowp n 1) 1 ∧ limb (lowp n 2) 2 = limb (lowp n 1) 2 ∧ limb (lowp n 2) 3 = limb (lowp n 1) 3 := by
  rw [limb1, limb1, limb2, limb2, limb3, limb3, lowp, lowp, show (65536 : Nat) ^ 1 = 65536 from rfl, show (65536 : Nat) ^ 2 = 4294967296 from rfl]
  omega
theorem put2 (n : Nat) : IntKind.u64.wrap (limb (lowp n 2) 0 + IntKind.u64.wrap (IntKind.u64.wrap (dig n 2) * 4294967296)) = limb (lowp n 3) 0 := by
  simp only [IntKind.wrap_u64]
  rw [limb0, limb0, dig, lowp, lowp, show (65536 : Nat) ^ 2 = 4294967296 from rfl, show (65536 : Nat) ^ 3 = 281474976710656 from rfl]
  omega
theorem keep2 (n : Nat) : limb (lowp n 3) 1 = limb (lowp n 2) 1 ∧ limb (lowp n 3) 2 = limb (lowp n 2) 2 ∧ limb (lowp n 3) 3 = limb (lowp n 2) 3 := by
  rw [limb1, limb1, limb2, limb2, limb3, limb3, lowp, lowp, show (65536 : Nat) ^ 2 = 4294967296 from rfl, show (65536 : Nat) ^ 3 = 281474976710656 from rfl]
  omega
theorem put3 (n : Nat) : IntKind.u64.wrap (limb (lowp n 3) 0 + IntKind.u64.wrap (IntKind.u64.wrap (dig n 3) * 281474976710656)) = limb (lowp n 4) 0 := by
  simp only [IntKind.wrap_u64]
  rw [limb0, limb0, dig, lowp, lowp, show (65536 : Nat) ^ 3 = 281474976710656 from rfl, show (65536 : Nat) ^ 4 = 18446744073709551616 from rfl]
  omega
theorem keep3 (n : Nat) : limb (lowp n 4) 1 = limb (lowp n 3) 1 ∧ limb (lowp n 4) 2 = limb (lowp n 3) 2 ∧ limb (lowp n 4) 3 = limb (lowp n 3) 3 := by
  rw [limb1, limb1, limb2, limb2, limb3, limb3, lowp, lowp, show (65536 : Nat) ^ 3 = 281474976710656 from rfl, show (65536 : Nat) ^ 4 = 18446744073709551616 from rfl]
  omega
theorem put4 (n : Nat) : IntKind.u64.wrap (limb (lowp n 4) 1 + IntKind.u64.wrap (IntKind.u64.wrap (dig n 4))) = limb (lowp n 5) 1 := by
  simp only [IntKind.wrap_u64]
  rw [limb1, limb1, dig, lowp, lowp, show (65536 : Nat) ^ 4 = 18446744073709551616 from rfl, show (65536 : Nat) ^ 5 = 1208925819614629174706176 from rfl]
  omega
theorem keep4 (n : Nat) : limb (lowp n 5) 0 = limb (lowp n 4) 0 ∧ limb (lowp n 5) 2 = limb (lowp n 4) 2 ∧ limb (lowp n 5) 3 = limb (lowp n 4) 3 := by
  rw [limb0, limb0, limb2, limb2, limb3, limb3, lowp, lowp, show (65536 : Nat) ^ 4 = 18446744073709551616 from rfl, show (65536 : Nat) ^ 5 = 1208925819614629174706176 from rfl]
  omega
theorem put5 (n : Nat) : IntKind.u64.wrap (limb (lowp n 5) 1 + IntKind.u64.wrap (IntKind.u64.wrap (dig n 5) * 65536)) = limb (lowp n 6) 1 := by
  simp only [IntKind.wrap_u64]
  rw [limb1, limb1, dig, lowp, lowp, show (65536 : Nat) ^ 5 = 1208925819614629174706176 from rfl, show (65536 : Nat) ^ 6 = 79228162514264337593543950336 from rfl]
  omega
theorem keep5 (n : Nat) : limb (lowp n 6) 0 = limb (lowp n 5) 0 ∧ limb (lowp n 6) 2 = limb (lowp n 5) 2 ∧ limb (lowp n 6) 3 = limb (lowp n 5) 3 := by
  rw [limb0, limb0, limb2, limb2, limb3, limb3, lowp, lowp, show (65536 : Nat) ^ 5 = 1208925819614629174706176 from rfl, show (65536 : Nat) ^ 6 = 79228162514264337593543950336 from rfl]
  omega
theorem put6 (n : Nat) : IntKind.u64.wrap (limb (lowp n 6) 1 + IntKind.u64.wrap (IntKind.u64.wrap (dig n 6) * 4294967296)) = limb (lowp n 7) 1 := by
  simp only [IntKind.wrap_u64]
  rw [limb1, limb1, dig, lowp, lowp, show (65536 : Nat) ^ 6 = 79228162514264337593543950336 from rfl, show (65536 : Nat) ^ 7 = 5192296858534827628530496329220096 from rfl]
  omega
theorem keep6 (n : Nat) : limb (lowp n 7) 0 = limb (lowp n 6) 0 ∧ limb (lowp n 7) 2 = limb (lowp n 6) 2 ∧ limb (lowp n 7) 3 = limb (lowp n 6) 3 := by
  rw [limb0, limb0, limb2, limb2, limb3, limb3, lowp, lowp, show (65536 : Nat) ^ 6 = 79228162514264337593543950336 from rfl, show (65536 : Nat) ^ 7 = 5192296858534827628530496329220096 from rfl]
  omega
theorem put7 (n : Nat) : IntKind.u64.wrap (limb (lowp n 7) 1 + IntKind.u64.wrap (IntKind.u64.wrap (dig n 7) * 281474976710656)) = limb (lowp n 8) 1 := by
  simp only [IntKind.wrap_u64]
  rw [limb1, limb1, dig, lowp, lowp, show (65536 : Nat) ^ 7 = 5192296858534827628530496329220096 from rfl, show (65536 : Nat) ^ 8 = 340282366920938463463374607431768211456 from rfl]
  omega
theorem keep7 (n : Nat) : limb (lowp n 8) 0 = limb (lowp n 7) 0 ∧ limb (lowp n 8) 2 = limb (lowp n 7) 2 ∧ limb (lowp n 8) 3 = limb (lowp n 7) 3 := by
  rw [limb0, limb0, limb2, limb2, limb3, limb3, lowp, lowp, show (65536 : Nat) ^ 7 = 5192296858534827628530496329220096 from rfl, show (65536 : Nat) ^ 8 = 340282366920938463463374607431768211456 from rfl]
  omega
theorem put8 (n : Nat) : IntKind.u64.wrap (limb (lowp n 8) 2 + IntKind.u64.wrap (IntKind.u64.wrap (dig n 8))) = limb (lowp n 9) 2 := by
  simp only [IntKind.wrap_u64]
  rw [limb2, limb2, dig, lowp, lowp, show (65536 : Nat) ^ 8 = 340282366920938463463374607431768211456 from rfl, show (65536 : Nat) ^ 9 = 22300745198530623141535718272648361505980416 from rfl]
  omega
theorem keep8 (n : Nat) : limb (lowp n 9) 0 = limb (lowp n 8) 0 ∧ limb (lowp n 9) 1 = limb (lowp n 8) 1 ∧ limb (lowp n 9) 3 = limb (lowp n 8) 3 := by
  rw [limb0, limb0, limb1, limb1, limb3, limb3, lowp, lowp, show (65536 : Nat) ^ 8 = 340282366920938463463374607431768211456 from rfl, show (65536 : Nat) ^ 9 = 22300745198530623141535718272648361505980416 from rfl]
  omega
theorem put9 (n : Nat) : IntKind.u64.wrap (limb (lowp n 9) 2 + IntKind.u64.wrap (IntKind.u64.wrap (dig n 9) * 65536)) = limb (lowp n 10) 2 := by
  simp only [IntKind.wrap_u64]
  rw [limb2, limb2, dig, lowp, lowp, show (65536 : Nat) ^ 9 = 22300745198530623141535718272648361505980416 from rfl, show (65536 : Nat) ^ 10 = 1461501637330902918203684832716283019655932542976 from rfl]
  omega
theorem keep9 (n : Nat) : limb (lowp n 10) 0 = limb (lowp n 9) 0 ∧ limb (lowp n 10) 1 = limb (lowp n 9) 1 ∧ limb (lowp n 10) 3 = limb (lowp n 9) 3 := by
  rw [limb0, limb0, limb1, limb1, limb3, limb3, lowp, lowp, show (65536 : Nat) ^ 9 = 22300745198530623141535718272648361505980416 from rfl, show (65536 : Nat) ^ 10 = 1461501637330902918203684832716283019655932542976 from rfl]
  omega
theorem put10 (n : Nat) : IntKind.u64.wrap (limb (lowp n 10) 2 + IntKind.u64.wrap (IntKind.u64.wrap (dig n 10) * 4294967296)) = limb (lowp n 11) 2 := by
  simp only [IntKind.wrap_u64]
  rw [limb2, limb2, dig, lowp, lowp, show (65536 : Nat) ^ 10 = 1461501637330902918203684832716283019655932542976 from rfl, show (65536 : Nat) ^ 11 = 95780971304118053647396689196894323976171195136475136 from rfl]
  omega
theorem keep10 (n : Nat) : limb (lowp n 11) 0 = limb (lowp n 10) 0 ∧ limb (lowp n 11) 1 = limb (lowp n 10) 1 ∧ limb (lowp n 11) 3 = limb (lowp n 10) 3 := by
  rw [limb0, limb0, limb1, limb1, limb3, limb3, lowp, lowp, show (65536 : Nat) ^ 10 = 1461501637330902918203684832716283019655932542976 from rfl, show (65536 : Nat) ^ 11 = 95780971304118053647396689196894323976171195136475136 from rfl]
  omega
theorem put11 (n : Nat) : IntKind.u64.wrap (limb (lowp n 11) 2 + IntKind.u64.wrap (IntKind.u64.wrap (dig n 11) * 281474976710656)) = limb (lowp n 12) 2 := by
  simp only [IntKind.wrap_u64]
  rw [limb2, limb2, dig, lowp, lowp, show (65536 : Nat) ^ 11 = 95780971304118053647396689196894323976171195136475136 from rfl, show (65536 : Nat) ^ 12 = 6277101735386680763835789423207666416102355444464034512896 from rfl]
  omega
theorem keep11 (n : Nat) : limb (lowp n 12) 0 = limb (lowp n 11) 0 ∧ limb (lowp n 12) 1 = limb (lowp n 11) 1 ∧ limb (lowp n 12) 3 = limb (lowp n 11) 3 := by
  rw [limb0, limb0, limb1, limb1, limb3, limb3, lowp, lowp, show (65536 : Nat) ^ 11 = 95780971304118053647396689196894323976171195136475136 from rfl, show (65536 : Nat) ^ 12 = 6277101735386680763835789423207666416102355444464034512896 from rfl]
  omega
theorem put12 (n : Nat) : IntKind.u64.wrap (limb (lowp n 12) 3 + IntKind.u64.wrap (IntKind.u64.wrap (dig n 12))) = limb (lowp n 13) 3 := by
  simp only [IntKind.wrap_u64]
  rw [limb3, limb3, dig, lowp, lowp, show (65536 : Nat) ^ 12 = 6277101735386680763835789423207666416102355444464034512896 from rfl, show (65536 : Nat) ^ 13 = 411376139330301510538742295639337626245683966408394965837152256 from rfl]
  omega
theorem keep12 (n : Nat) : limb (lowp n 13) 0 = limb (lowp n 12) 0 ∧ limb (lowp n 13) 1 = limb (lowp n 12) 1 ∧ limb (lowp n 13) 2 = limb (lowp n 12) 2 := by
  rw [limb0, limb0, limb1, limb1, limb2, limb2, lowp, lowp, show (65536 : Nat) ^ 12 = 6277101735386680763835789423207666416102355444464034512896 from rfl, show (65536 : Nat) ^ 13 = 411376139330301510538742295639337626245683966408394965837152256 from rfl]
  omega
theorem put13 (n : Nat) : IntKind.u64.wrap (limb (lowp n 13) 3 + IntKind.u64.wrap (IntKind.u64.wrap (dig n 13) * 65536)) = limb (lowp n 14) 3 := by
  simp only [IntKind.wrap_u64]
  rw [limb3, limb3, dig, lowp, lowp, show (65536 : Nat) ^ 13 = 411376139330301510538742295639337626245683966408394965837152256 from rfl, show (65536 : Nat) ^ 14 = 26959946667150639794667015087019630673637144422540572481103610249216 from rfl]
  omega
theorem keep13 (n : Nat) : limb (lowp n 14) 0 = limb (lowp n 13) 0 ∧ limb (lowp n 14) 1 = limb (lowp n 13) 1 ∧ limb (lowp n 14) 2 = limb (lowp n 13) 2 := by
  rw [limb0, limb0, limb1, limb1, limb2, limb2, lowp, lowp, show (65536 : Nat) ^ 13 = 411376139330301510538742295639337626245683966408394965837152256 from rfl, show (65536 : Nat) ^ 14 = 26959946667150639794667015087019630673637144422540572481103610249216 from rfl]
  omega
theorem put14 (n : Nat) : IntKind.u64.wrap (limb (lowp n 14) 3 + IntKind.u64.wrap (IntKind.u64.wrap (dig n 14) * 4294967296)) = limb (lowp n 15) 3 := by
  simp only [IntKind.wrap_u64]
  rw [limb3, limb3, dig, lowp, lowp, show (65536 : Nat) ^ 14 = 26959946667150639794667015087019630673637144422540572481103610249216 from rfl, show (65536 : Nat) ^ 15 = 1766847064778384329583297500742918515827483896875618958121606201292619776 from rfl]
  omega
theorem keep14 (n : Nat) : limb (lowp n 15) 0 = limb (lowp n 14) 0 ∧ limb (lowp n 15) 1 = limb (lowp n 14) 1 ∧ limb (lowp n 15) 2 = limb (lowp n 14) 2 := by
  rw [limb0, limb0, limb1, limb1, limb2, limb2, lowp, lowp, show (65536 : Nat) ^ 14 = 26959946667150639794667015087019630673637144422540572481103610249216 from rfl, show (65536 : Nat) ^ 15 = 1766847064778384329583297500742918515827483896875618958121606201292619776 from rfl]
  omega
theorem put15 (n : Nat) : IntKind.u64.wrap (limb (lowp n 15) 3 + IntKind.u64.wrap (IntKind.u64.wrap (dig n 15) * 281474976710656)) = limb (lowp n 16) 3 := by
  simp only [IntKind.wrap_u64]
  rw [limb3, limb3, dig, lowp, lowp, show (65536 : Nat) ^ 15 = 1766847064778384329583297500742918515827483896875618958121606201292619776 from rfl, show (65536 : Nat) ^ 16 = 115792089237316195423570985008687907853269984665640564039457584007913129639936 from rfl]
  omega
theorem keep15 (n : Nat) : limb (lowp n 16) 0 = limb (lowp n 15) 0 ∧ limb (lowp n 16) 1 = limb (lowp n 15) 1 ∧ limb (lowp n 16) 2 = limb (lowp n 15) 2 := by
  rw [limb0, limb0, limb1, limb1, limb2, limb2, lowp, lowp, show (65536 : Nat) ^ 15 = 1766847064778384329583297500742918515827483896875618958121606201292619776 from rfl, show (65536 : Nat) ^ 16 = 115792089237316195423570985008687907853269984665640564039457584007913129639936 from rfl]
  omega

/-- The slice v reads as len digits of n, which fits them; it lies in one block from the start on. -/
def Raw (w : World) (v : Value) (n len : Nat) : Prop :=
  ∃ (A : Option Addr) (cap : Nat), v = .slice A len cap ∧ len ≤ cap ∧ len ≤ 4294967296 ∧ n < 65536 ^ len ∧
    (0 < len → ∃ b, A = some ⟨b, 0, none⟩ ∧ b < w.heap.size ∧ ∀ i, i < len → w.cell? ⟨b, i, none⟩ = some (.int .i64 (dig n i)))
/-- The slice v reads as the number n, without leading zeros. -/
def Big (w : World) (v : Value) (n : Nat) : Prop := Raw w v n (nd n)

theorem Raw.below {w w' : World} {v : Value} {n len : Nat} (h : Raw w v n len) (hb : Below w.heap.size w w') : Raw w' v n len := by
  obtain ⟨A, cap, hv, h1, h2, h3, h4⟩ := h
  refine ⟨A, cap, hv, h1, h2, h3, fun hl => ?_⟩
  obtain ⟨b, hA, hlt, hc⟩ := h4 hl
  exact ⟨b, hA, Nat.lt_of_lt_of_le hlt hb.size, fun i hi => (hb.cell (p := ⟨b, i, none⟩) hlt).trans (hc i hi)⟩
theorem Big.below {w w' : World} {v : Value} {n : Nat} (h : Big w v n) (hb : Below w.heap.size w w') : Big w' v n := Raw.below h hb
theorem Raw.belowLe {w w' : World} {v : Value} {n len B : Nat} (h : Raw w v n len) (hB : w.heap.size ≤ B) (hb : Below B w w') : Raw w' v n len := h.below (hb.mono hB)

end Go.Proofs.Ytlaapbenpjopiaa

namespace Go.Proofs.Ytlaapbenpjopiaa
open Go.RowKit

/-! ### Sums digit by digit -/
theorem pow_pos16 (k : Nat) : 0 < 65536 ^ k := Nat.pow_pos (by omega)
theorem lowp_succ (n k : Nat) : lowp n (k + 1) = lowp n k + 65536 ^ k * (n / 65536 ^ k % 65536) := by
  unfold lowp; rw [Nat.pow_succ, Nat.mod_mul]
theorem lowp_lt (n k : Nat) : lowp n k < 65536 ^ k := Nat.mod_lt _ (pow_pos16 k)
theorem lowp_div (n k : Nat) : n = lowp n k + 65536 ^ k * (n / 65536 ^ k) := by
  unfold lowp; have := Nat.div_add_mod n (65536 ^ k); omega
/-- The carry into place k. -/
def car (a b k : Nat) : Int := (((lowp a k + lowp b k) / 65536 ^ k : Nat) : Int)
theorem car_zero (a b : Nat) : car a b 0 = 0 := by unfold car; rw [lowp_zero, lowp_zero]; rfl
theorem car_nonneg (a b k : Nat) : 0 ≤ car a b k := by unfold car; exact Int.natCast_nonneg _
theorem car_le (a b k : Nat) : car a b k ≤ 1 := by
  have h1 := lowp_lt a k; have h2 := lowp_lt b k
  have : (lowp a k + lowp b k) / 65536 ^ k < 2 := Nat.div_lt_of_lt_mul (by omega)
  unfold car; omega
theorem car_nat (P la lb da db : Nat) (hP : 0 < P) :
    (la + P * da + (lb + P * db)) / (P * 65536) = ((la + lb) / P + da + db) / 65536 := by
  rw [← Nat.div_div_eq_div_mul, show la + P * da + (lb + P * db) = (la + lb) + P * (da + db) from by rw [Nat.mul_add]; omega, Nat.add_mul_div_left _ _ hP, Nat.add_assoc]
theorem car_succ (a b k : Nat) : (car a b k + dig a k + dig b k) / 65536 = car a b (k + 1) := by
  have h := car_nat (65536 ^ k) (lowp a k) (lowp b k) (a / 65536 ^ k % 65536) (b / 65536 ^ k % 65536) (pow_pos16 k)
  unfold car dig
  rw [lowp_succ, lowp_succ, Nat.pow_succ, h]
  omega
theorem dig_add (a b k : Nat) : (car a b k + dig a k + dig b k) % 65536 = dig (a + b) k := by
  unfold car dig
  have h : (a + b) / 65536 ^ k = (lowp a k + lowp b k) / 65536 ^ k + a / 65536 ^ k + b / 65536 ^ k := by
    have e : a + b = (lowp a k + lowp b k) + 65536 ^ k * (a / 65536 ^ k + b / 65536 ^ k) := by
      rw [Nat.mul_add]; have h1 := lowp_div a k; have h2 := lowp_div b k; omega
    have e2 : (a + b) / 65536 ^ k = ((lowp a k + lowp b k) + 65536 ^ k * (a / 65536 ^ k + b / 65536 ^ k)) / 65536 ^ k := congrArg (· / 65536 ^ k) e
    rw [e2, Nat.add_mul_div_left _ _ (pow_pos16 k), Nat.add_assoc]
  rw [h]
  generalize a / 65536 ^ k = x; generalize b / 65536 ^ k = y; generalize (lowp a k + lowp b k) / 65536 ^ k = z
  omega
theorem dig_high {n k : Nat} (h : nd n ≤ k) : dig n k = 0 := by
  unfold dig; rw [Nat.div_eq_of_lt (nd_le.1 h)]; rfl
theorem nd_mono {a b : Nat} (h : a ≤ b) : nd a ≤ nd b := by unfold nd; have := blen_mono h; omega
/-- There is a digit at k as long as a summand or the carry reaches it. -/
theorem add_more {a b k : Nat} (h : k < nd a ∨ k < nd b ∨ 0 < car a b k) : k < nd (a + b) := by
  rcases h with h | h | h
  · exact Nat.lt_of_lt_of_le h (nd_mono (by omega))
  · exact Nat.lt_of_lt_of_le h (nd_mono (by omega))
  · have h1 : ¬ a + b < 65536 ^ k := fun h2 => by
      have ha : lowp a k ≤ a := Nat.mod_le _ _
      have hb : lowp b k ≤ b := Nat.mod_le _ _
      unfold car at h
      rw [Nat.div_eq_of_lt (by omega)] at h
      simp at h
    have := mt nd_le.1 h1
    omega
theorem add_end {a b k : Nat} (ha : nd a ≤ k) (hb : nd b ≤ k) (hc : car a b k = 0) (hk : k ≤ nd (a + b)) : k = nd (a + b) := by
  have h1 := nd_le.1 ha; have h2 := nd_le.1 hb
  have : a + b < 65536 ^ k := by
    unfold car at hc
    rw [lowp_all h1, lowp_all h2] at hc
    have h3 : (a + b) / 65536 ^ k = 0 := by omega
    rcases Nat.div_eq_zero_iff.1 h3 with h4 | h4
    · have := pow_pos16 k; omega
    · exact h4
  have := nd_le.2 this
  omega
theorem and16i (x : Int) (h0 : 0 ≤ x) (h1 : x < 9223372036854775808) : bits BinOp.and IntKind.i64 x 65535 = x % 65536 := by
  obtain ⟨n, rfl⟩ := Int.eq_ofNat_of_zero_le h0
  have a1 : (BitVec.ofInt 64 (n : Int)).toNat = n := by
    rw [BitVec.ofInt_natCast, BitVec.toNat_ofNat]; exact Nat.mod_eq_of_lt (by omega)
  have a2 : (BitVec.ofInt 64 65535).toNat = 65535 := rfl
  have e : n &&& 65535 = n % 65536 := Nat.and_two_pow_sub_one_eq_mod n 16
  show IntKind.i64.wrap ((BitVec.ofInt 64 (n : Int) &&& BitVec.ofInt 64 65535).toNat : Int) = _
  rw [BitVec.toNat_and, a1, a2, e, IntKind.wrap_i64]
  omega

/-! ### Rows of digits that a call has made itself -/
/-- The lowest k digits of n. -/
def digs (n k : Nat) : List Value := (List.range k).map fun i => .int .i64 (dig n i)
theorem digs_len (n k : Nat) : (digs n k).length = k := by simp [digs]
theorem digs_succ (n k : Nat) : digs n (k + 1) = digs n k ++ [.int .i64 (dig n k)] := by simp [digs, List.range_succ]
theorem digs_get {n k i : Nat} (h : i < k) : (digs n k)[i]? = some (.int .i64 (dig n i)) := by simp [digs, h]
theorem raw_of_own {w : World} {base n k : Nat} {e : TypeId} {v : Value} (h : w.ownsRow base e 1 v k (digs n k)) (hn : n < 65536 ^ k) (hk : k ≤ 4294967296) : Raw w v n k := by
  rcases h.2 with ⟨rfl, rfl⟩ | ⟨g, cap, cur, rfl, _, hh, hc, _, hz, ht⟩
  · exact ⟨none, 0, rfl, by omega, by omega, hn, fun h0 => absurd h0 (by omega)⟩
  · refine ⟨_, cap, rfl, hc, hk, hn, fun h0 => ⟨g, rfl, ?_, fun i hi => ?_⟩⟩
    · rcases Nat.lt_or_ge g w.heap.size with h1 | h1
      · exact h1
      · rw [Array.getElem?_eq_none h1] at hh; cases hh
    · rw [cell_of_row w g i cur e (0, 0) hh]
      have h2 := digs_get (n := n) hi
      rw [← ht, Nat.mul_one, List.getElem?_take, if_pos hi] at h2
      rw [← h2, Array.getElem?_toList]
/-- Behind an append of the next digit. -/
theorem grow_rel {B k n : Nat} {w wr w1 : World} {v v' : Value} {o : Obj} {e : TypeId} (hown : wr.ownsRow B e 1 v k (digs n k)) (hnx : Below B w wr) (hB : B ≤ wr.heap.size)
    (hown' : w1.ownsRow B e 1 v' (k + 1) (digs n k ++ [.int .i64 (dig n k)])) (hgrow : (wr.alloc o).grownBy w1 v.ownBlock) :
    w1.ownsRow B e 1 v' (k + 1) (digs n (k + 1)) ∧ Below B w w1 := by
  refine ⟨by rw [digs_succ]; exact hown', (hnx.alloc hB o).grown hgrow (by simp; omega) (fun j hj => (hown.lt j hj).1)⟩
theorem nd_add (a b m : Nat) (ha : nd a ≤ m) (hb : nd b ≤ m) : nd (a + b) ≤ m + 1 := by
  have h1 := nd_le.1 ha; have h2 := nd_le.1 hb
  refine nd_le.2 ?_
  rw [Nat.pow_succ]; omega

end Go.Proofs.Ytlaapbenpjopiaa

namespace Go.Proofs.Ytlaapbenpjopiaa
open Go.RowKit
/-! ### Rows as functions -/
def rowOf (f : Nat → Int) (L : Nat) : List Value := (List.range L).map fun j => .int .i64 (f j)
theorem rowOf_len (f : Nat → Int) (L : Nat) : (rowOf f L).length = L := by simp [rowOf]
theorem rowOf_get {f : Nat → Int} {L j : Nat} (h : j < L) : (rowOf f L)[j]? = some (.int .i64 (f j)) := by simp [rowOf, h]
theorem rowOf_congr {f g : Nat → Int} {L : Nat} (h : ∀ j, j < L → f j = g j) : rowOf f L = rowOf g L := by
  unfold rowOf; exact List.map_congr_left fun j hj => by rw [h j (List.mem_range.1 hj)]
theorem rowOf_set {f g : Nat → Int} {L j : Nat} {x : Int} (hj : g j = x) (hne : ∀ i, i < L → i ≠ j → g i = f i) : (rowOf f L).set j (.int .i64 x) = rowOf g L := by
  apply List.ext_getElem?
  intro i
  rw [List.getElem?_set]
  by_cases h : i < L
  · by_cases hij : j = i
    · subst hij; rw [if_pos rfl, if_pos (by rw [rowOf_len]; exact h), rowOf_get h, hj]
    · rw [if_neg hij, rowOf_get h, rowOf_get h, hne i h (fun e => hij e.symm)]
  · have h1 : (rowOf f L)[i]? = none := List.getElem?_eq_none (by rw [rowOf_len]; omega)
    have h2 : (rowOf g L)[i]? = none := List.getElem?_eq_none (by rw [rowOf_len]; omega)
    rw [h1, h2]
    by_cases hij : j = i
    · subst hij; rw [if_pos rfl, if_neg (by rw [rowOf_len]; exact h)]
    · rw [if_neg hij]
theorem digs_row (n k : Nat) : digs n k = rowOf (dig n) k := rfl
theorem made_row (n : Nat) : (madeCells #[.int .i64 0] n).toList = rowOf (fun _ => 0) n := by
  rw [toList_madeCells_one]; apply List.ext_getElem?; intro i
  by_cases h : i < n
  · rw [rowOf_get h, List.getElem?_replicate, if_pos h]
  · rw [List.getElem?_eq_none (by simp; omega), List.getElem?_eq_none (by rw [rowOf_len]; omega)]

/-! ### Differences digit by digit -/
def bo (a b k : Nat) : Int := -(((lowp a k : Int) - (lowp b k : Int)) / ((65536 ^ k : Nat) : Int))
theorem bo_zero (a b : Nat) : bo a b 0 = 0 := by unfold bo; rw [lowp_zero, lowp_zero]; rfl
theorem bo_bounds (a b k : Nat) : 0 ≤ bo a b k ∧ bo a b k ≤ 1 := by
  have h1 := lowp_lt a k; have h2 := lowp_lt b k
  have hP := pow_pos16 k
  unfold bo
  generalize 65536 ^ k = P at *
  have a1 : ((lowp a k : Int) - (lowp b k : Int)) / (P : Int) < 1 := Int.ediv_lt_of_lt_mul (by omega) (by omega)
  have a2 : -1 ≤ ((lowp a k : Int) - (lowp b k : Int)) / (P : Int) := Int.le_ediv_of_mul_le (by omega) (by omega)
  omega
theorem digN (n k : Nat) : dig n k = ((n / 65536 ^ k : Nat) : Int) % 65536 := by unfold dig; omega
theorem bo_succ (a b k : Nat) : (dig a k - bo a b k - dig b k) / 65536 = - bo a b (k + 1) := by
  have hP := pow_pos16 k
  unfold bo dig
  rw [lowp_succ, lowp_succ, Nat.pow_succ]
  generalize 65536 ^ k = P at *
  generalize a / P % 65536 = da; generalize b / P % 65536 = db; generalize lowp a k = la; generalize lowp b k = lb
  have e : ((la + P * da : Nat) : Int) - ((lb + P * db : Nat) : Int) = ((la : Int) - lb) + (P : Int) * ((da : Int) - db) := by
    rw [Int.natCast_add, Int.natCast_add, Int.natCast_mul, Int.natCast_mul, Int.mul_sub]; omega
  rw [e, Int.natCast_mul, ← Int.ediv_ediv_of_nonneg (by omega), Int.add_mul_ediv_left _ _ (by omega)]
  generalize ((la : Int) - lb) / P = q
  omega
theorem dig_sub (a b k : Nat) (h : b ≤ a) : (dig a k - bo a b k - dig b k) % 65536 = dig (a - b) k := by
  have hP := pow_pos16 k
  have h1 := lowp_div a k; have h2 := lowp_div b k
  rw [digN a, digN b, digN (a - b)]
  unfold bo
  have e3 : ((a - b : Nat) : Int) / ((65536 ^ k : Nat) : Int) = ((lowp a k : Int) - (lowp b k : Int)) / ((65536 ^ k : Nat) : Int) + (((a / 65536 ^ k : Nat) : Int) - ((b / 65536 ^ k : Nat) : Int)) := by
    rw [← Int.add_mul_ediv_left _ _ (by omega : ((65536 ^ k : Nat) : Int) ≠ 0)]
    congr 1
    rw [Int.mul_sub, ← Int.natCast_mul, ← Int.natCast_mul]
    omega
  rw [Int.natCast_ediv (a - b), e3]
  generalize ((lowp a k : Int) - (lowp b k : Int)) / ((65536 ^ k : Nat) : Int) = q
  generalize ((a / 65536 ^ k : Nat) : Int) = x; generalize ((b / 65536 ^ k : Nat) : Int) = y
  omega
def subF (r k : Nat) : Nat → Int := fun j => if j < k then dig r j else 0
theorem subF_set (r k L : Nat) : (rowOf (subF r k) L).set k (.int .i64 (dig r k)) = rowOf (subF r (k + 1)) L :=
  rowOf_set (by simp [subF]) fun i _ hi => by
    unfold subF
    by_cases h : i < k
    · rw [if_pos h, if_pos (by omega)]
    · rw [if_neg h, if_neg (by omega)]
theorem subF_zero (r L : Nat) : rowOf (fun _ => 0) L = rowOf (subF r 0) L := rowOf_congr fun j _ => by simp [subF]
theorem subF_all (r L : Nat) : rowOf (subF r L) L = digs r L := rowOf_congr fun j hj => by simp [subF, hj]
theorem subF_get {r k L : Nat} (h : k < L) : (rowOf (subF r k) L)[k]? = some (.int .i64 0) := by rw [rowOf_get h]; simp [subF]
/-! ### Products digit by digit -/
theorem dig_low {x y j m : Nat} (h : j < m) : dig (x + 65536 ^ m * y) j = dig x j := by
  unfold dig
  obtain ⟨t, rfl⟩ := Nat.exists_eq_add_of_lt h
  rw [show j + t + 1 = j + (t + 1) from rfl, Nat.pow_add, Nat.mul_assoc, Nat.add_mul_div_left _ _ (pow_pos16 j), Nat.pow_succ, Nat.mul_right_comm, Nat.add_mul_mod_self_right]
def mulP (a b i : Nat) : Nat := lowp a i * b
def mulX (a b i k : Nat) : Nat := lowp (mulP a b i) (i + k) + 65536 ^ i * ((a / 65536 ^ i % 65536) * lowp b k)
def ovr (a b i k : Nat) : Int := ((mulX a b i k / 65536 ^ (i + k) : Nat) : Int)
theorem mulX_zero (a b i : Nat) : mulX a b i 0 = lowp (mulP a b i) i := by unfold mulX; rw [lowp_zero]; simp
theorem ovr_zero (a b i : Nat) : ovr a b i 0 = 0 := by
  unfold ovr; rw [mulX_zero, Nat.add_zero, Nat.div_eq_of_lt (lowp_lt _ _)]; rfl
theorem mulX_succ (a b i k : Nat) : mulX a b i (k + 1) = mulX a b i k + 65536 ^ (i + k) * (mulP a b i / 65536 ^ (i + k) % 65536 + (a / 65536 ^ i % 65536) * (b / 65536 ^ k % 65536)) := by
  unfold mulX
  rw [← Nat.add_assoc, lowp_succ (mulP a b i), lowp_succ b, Nat.mul_add, Nat.mul_add, Nat.mul_add]
  have e : 65536 ^ i * (a / 65536 ^ i % 65536 * (65536 ^ k * (b / 65536 ^ k % 65536))) = 65536 ^ (i + k) * (a / 65536 ^ i % 65536 * (b / 65536 ^ k % 65536)) := by
    rw [Nat.pow_add]
    generalize 65536 ^ i = p; generalize 65536 ^ k = q; generalize a / p % 65536 = x; generalize b / q % 65536 = y
    rw [Nat.mul_left_comm x q y, Nat.mul_assoc]
  rw [e]
  omega
theorem mulX_div (a b i k : Nat) : mulX a b i (k + 1) / 65536 ^ (i + k) = mulX a b i k / 65536 ^ (i + k) + (mulP a b i / 65536 ^ (i + k) % 65536 + (a / 65536 ^ i % 65536) * (b / 65536 ^ k % 65536)) := by
  rw [mulX_succ, Nat.add_mul_div_left _ _ (pow_pos16 _)]
theorem mul_tot (a b i k : Nat) : ovr a b i k + dig (mulP a b i) (i + k) + dig a i * dig b k = ((mulX a b i (k + 1) / 65536 ^ (i + k) : Nat) : Int) := by
  rw [mulX_div]; unfold ovr dig
  rw [← Int.natCast_mul, ← Int.natCast_add, ← Int.natCast_add, Nat.add_assoc]
theorem mul_dig (a b i k : Nat) : (ovr a b i k + dig (mulP a b i) (i + k) + dig a i * dig b k) % 65536 = dig (mulX a b i (k + 1)) (i + k) := by
  rw [mul_tot, digN]
theorem mul_ovr (a b i k : Nat) : (ovr a b i k + dig (mulP a b i) (i + k) + dig a i * dig b k) / 65536 = ovr a b i (k + 1) := by
  rw [mul_tot]; unfold ovr
  rw [← Nat.add_assoc, Nat.pow_succ, ← Nat.div_div_eq_div_mul]
  generalize mulX a b i (k + 1) / 65536 ^ (i + k) = z
  omega
theorem ovr_bounds (a b i k : Nat) : 0 ≤ ovr a b i k ∧ ovr a b i k ≤ 65535 := by
  refine ⟨Int.natCast_nonneg _, ?_⟩
  have h : mulX a b i k / 65536 ^ (i + k) < 65536 := by
    refine Nat.div_lt_of_lt_mul ?_
    unfold mulX
    have h1 := lowp_lt (mulP a b i) (i + k)
    have h2 : 65536 ^ i * ((a / 65536 ^ i % 65536) * lowp b k) ≤ 65536 ^ (i + k) * 65535 := by
      have h3 : (a / 65536 ^ i % 65536) * lowp b k ≤ 65535 * 65536 ^ k := Nat.mul_le_mul (by omega) (Nat.le_of_lt (lowp_lt b k))
      have h4 := Nat.mul_le_mul_left (65536 ^ i) h3
      rw [Nat.pow_add, Nat.mul_assoc, Nat.mul_comm (65536 ^ k) 65535]; exact h4
    omega
  unfold ovr; generalize mulX a b i k / 65536 ^ (i + k) = z at *; omega
theorem prod_bounds (a b i k : Nat) : 0 ≤ dig a i * dig b k ∧ dig a i * dig b k ≤ 4294836225 := by
  have h1 := dig_nonneg a i; have h2 := dig_lt a i; have h3 := dig_nonneg b k; have h4 := dig_lt b k
  refine ⟨Int.mul_nonneg h1 h3, ?_⟩
  have : dig a i * dig b k ≤ 65535 * 65535 := Int.mul_le_mul (by omega) (by omega) h3 (by omega)
  omega
/-- The row inside a round. -/
def mulF (a b i k : Nat) : Nat → Int := fun j => if j < i + k then dig (mulX a b i k) j else dig (mulP a b i) j
theorem mulF_zero (a b i L : Nat) : rowOf (dig (mulP a b i)) L = rowOf (mulF a b i 0) L := rowOf_congr fun j _ => by
  unfold mulF
  by_cases h : j < i
  · rw [if_pos (by omega), mulX_zero]
    have := dig_low (x := lowp (mulP a b i) i) (y := mulP a b i / 65536 ^ i) h
    rw [← this, ← lowp_div]
  · rw [if_neg (by omega)]
theorem mulF_at (a b i k : Nat) : mulF a b i k (i + k) = dig (mulP a b i) (i + k) := by unfold mulF; rw [if_neg (by omega)]
theorem mulF_set (a b i k L : Nat) : (rowOf (mulF a b i k) L).set (i + k) (.int .i64 (dig (mulX a b i (k + 1)) (i + k))) = rowOf (mulF a b i (k + 1)) L :=
  rowOf_set (by unfold mulF; rw [if_pos (by omega)]) fun j _ hj => by
    unfold mulF
    by_cases h : j < i + k
    · rw [if_pos h, if_pos (by omega), mulX_succ, dig_low h]
    · rw [if_neg h, if_neg (by omega)]
theorem mulP_lt (a b i : Nat) : mulP a b i < 65536 ^ (i + nd b) := by
  unfold mulP; rw [Nat.pow_add]; exact Nat.mul_lt_mul'' (lowp_lt a i) (nd_lt b)
theorem mulX_end (a b i : Nat) : mulX a b i (nd b) = mulP a b (i + 1) := by
  unfold mulX
  rw [lowp_all (mulP_lt a b i), lowp_all (nd_lt b)]
  unfold mulP
  rw [lowp_succ, Nat.add_mul, Nat.mul_assoc]
theorem ovr_end (a b i : Nat) : ovr a b i (nd b) = dig (mulP a b (i + 1)) (i + nd b) := by
  unfold ovr dig; rw [mulX_end]
  have h := mulP_lt a b (i + 1)
  rw [show i + 1 + nd b = (i + nd b) + 1 from by omega, Nat.pow_succ] at h
  have h2 : mulP a b (i + 1) / 65536 ^ (i + nd b) < 65536 := Nat.div_lt_of_lt_mul h
  rw [Nat.mod_eq_of_lt h2]
theorem mulF_end (a b i L : Nat) : (rowOf (mulF a b i (nd b)) L).set (i + nd b) (.int .i64 (ovr a b i (nd b))) = rowOf (dig (mulP a b (i + 1))) L :=
  rowOf_set (ovr_end a b i).symm fun j _ hj => by
    unfold mulF
    by_cases h : j < i + nd b
    · rw [if_pos h, mulX_end]
    · rw [if_neg h, dig_high (n := mulP a b (i + 1)) (nd_le.2 (Nat.lt_of_lt_of_le (mulP_lt a b (i + 1)) (Nat.pow_le_pow_right (by omega) (by omega)))), dig_high (n := mulP a b i) (nd_le.2 (Nat.lt_of_lt_of_le (mulP_lt a b i) (Nat.pow_le_pow_right (by omega) (by omega))))]
theorem mulP_zero (a b L : Nat) : rowOf (fun _ => 0) L = rowOf (dig (mulP a b 0)) L := rowOf_congr fun j _ => by
  unfold mulP; rw [lowp_zero, Nat.zero_mul]; simp [dig]
theorem mulP_all (a b : Nat) : mulP a b (nd a) = a * b := by unfold mulP; rw [lowp_all (nd_lt a)]
theorem mul_fits (a b : Nat) : a * b < 65536 ^ (nd a + nd b) := by rw [Nat.pow_add]; exact Nat.mul_lt_mul'' (nd_lt a) (nd_lt b)
end Go.Proofs.Ytlaapbenpjopiaa

namespace Go.Proofs.Ytlaapbenpjopiaa
open Go.RowKit
/-! ### Rows as arrays -/
def rowA (f : Nat → Int) (L : Nat) : Array Value := (rowOf f L).toArray
theorem rowA_get {f : Nat → Int} {L j : Nat} (h : j < L) : (rowA f L)[j]? = some (.int .i64 (f j)) := by
  unfold rowA; rw [List.getElem?_toArray]; exact rowOf_get h
theorem rowA_size (f : Nat → Int) (L : Nat) : (rowA f L).size = L := by simp [rowA, rowOf]
theorem rowA_set {f g : Nat → Int} {L j : Nat} {x : Int} (hj : g j = x) (hne : ∀ i, i < L → i ≠ j → g i = f i) : (rowA f L).setIfInBounds j (.int .i64 x) = rowA g L := by
  unfold rowA; rw [← rowOf_set (f := f) hj hne]; simp
theorem rowA_congr {f g : Nat → Int} {L : Nat} (h : ∀ j, j < L → f j = g j) : rowA f L = rowA g L := by unfold rowA; rw [rowOf_congr h]
theorem made_rowA (n : Nat) : madeCells #[.int .i64 0] n = rowA (fun _ => 0) n := by
  unfold rowA; rw [← made_row]

/-! ### Division by one digit -/
theorem div_digit (n d k : Nat) : n / d / 65536 ^ k = n / 65536 ^ k / d := by
  rw [Nat.div_div_eq_div_mul, Nat.mul_comm, ← Nat.div_div_eq_div_mul]
/-- What is left behind the digits from k on. -/
def lft (n d k : Nat) : Int := ((n / 65536 ^ k % d : Nat) : Int)
theorem short_tot (n d k : Nat) : (65536 * lft n d (k + 1) + dig n k) = ((65536 * (n / 65536 ^ (k + 1) % d) + n / 65536 ^ k % 65536 : Nat) : Int) := by unfold lft dig; omega
theorem short_nat (N d x y : Nat) (hd : 0 < d) (hy : y < 65536) (hN : N = 65536 * x + y) :
    N % d = (65536 * (x % d) + y) % d ∧ N / d % 65536 = (65536 * (x % d) + y) / d ∧ (65536 * (x % d) + y) / d < 65536 := by
  have h1 : N = (65536 * (x % d) + y) + d * (65536 * (x / d)) := by
    have := Nat.div_add_mod x d
    rw [hN, Nat.mul_left_comm]
    omega
  have hx := Nat.mod_lt x hd
  have h3 : (65536 * (x % d) + y) / d < 65536 := Nat.div_lt_of_lt_mul (by
    have : 65536 * (x % d + 1) ≤ 65536 * d := Nat.mul_le_mul_left _ hx
    rw [Nat.mul_comm d]; omega)
  refine ⟨?_, ?_, h3⟩
  · rw [h1, Nat.add_mul_mod_self_left]
  · rw [h1, Nat.add_mul_div_left _ _ hd]
    generalize (65536 * (x % d) + y) / d = u at *
    generalize x / d = v
    omega
theorem short_step (n d k : Nat) (hd : 0 < d) : (65536 * lft n d (k + 1) + dig n k) / (d : Int) = dig (n / d) k ∧ (65536 * lft n d (k + 1) + dig n k) % (d : Int) = lft n d k := by
  have e := div_step n k
  have e' : n / 65536 ^ k = 65536 * (n / 65536 ^ (k + 1)) + n / 65536 ^ k % 65536 := by
    unfold dig at e; rw [Int.toNat_natCast] at e; omega
  obtain ⟨a1, a2, a3⟩ := short_nat (n / 65536 ^ k) d (n / 65536 ^ (k + 1)) (n / 65536 ^ k % 65536) hd (Nat.mod_lt _ (by omega)) e'
  rw [short_tot, ← Int.natCast_ediv, ← Int.natCast_emod]
  unfold lft
  refine ⟨?_, ?_⟩
  · rw [← a2]; unfold dig; rw [div_digit]
  · rw [← a1]
theorem lft_bounds (n d k : Nat) (hd : 0 < d) : 0 ≤ lft n d k ∧ lft n d k < d := by
  unfold lft; have := Nat.mod_lt (n / 65536 ^ k) hd; omega
theorem lft_top {n d k : Nat} (h : n < 65536 ^ k) : lft n d k = 0 := by unfold lft; rw [Nat.div_eq_of_lt h, Nat.zero_mod]; rfl
theorem lft_zero (n d : Nat) : lft n d 0 = ((n % d : Nat) : Int) := by unfold lft; rw [Nat.pow_zero, Nat.div_one]
/-- The row of quotients down to place k. -/
def quoF (n d k : Nat) : Nat → Int := fun j => if j < k then 0 else dig (n / d) j
theorem quoF_top (n d L : Nat) : rowA (fun _ => 0) L = rowA (quoF n d L) L := rowA_congr fun j hj => by simp [quoF, hj]
theorem quoF_set (n d k L : Nat) : (rowA (quoF n d (k + 1)) L).setIfInBounds k (.int .i64 (dig (n / d) k)) = rowA (quoF n d k) L :=
  rowA_set (by simp [quoF]) fun i _ hi => by
    unfold quoF
    by_cases h : i < k
    · rw [if_pos h, if_pos (by omega)]
    · rw [if_neg h, if_neg (by omega)]
theorem quoF_zero (n d L : Nat) : rowA (quoF n d 0) L = rowA (dig (n / d)) L := rowA_congr fun j _ => by simp [quoF]

/-! ### Division bit by bit -/
def Rm (n m t : Nat) : Nat := n / 2 ^ t % m
def Vm (n m t : Nat) : Nat := n / 2 ^ t / m * 2 ^ t
theorem half (n t : Nat) : n / 2 ^ t = 2 * (n / 2 ^ (t + 1)) + n / 2 ^ t % 2 := by
  rw [Nat.pow_succ, ← Nat.div_div_eq_div_mul]; omega
theorem div_bit (m x y : Nat) (hm : 0 < m) (hy : y < 2) :
    (2 * (x % m) + y < m → (2 * x + y) % m = 2 * (x % m) + y ∧ (2 * x + y) / m = 2 * (x / m)) ∧
    (m ≤ 2 * (x % m) + y → (2 * x + y) % m = 2 * (x % m) + y - m ∧ (2 * x + y) / m = 2 * (x / m) + 1) := by
  have h := Nat.div_add_mod x m
  have hx := Nat.mod_lt x hm
  have e : 2 * x + y = (2 * (x % m) + y) + m * (2 * (x / m)) := by rw [Nat.mul_left_comm]; omega
  constructor
  · intro hl
    refine ⟨?_, ?_⟩
    · rw [e, Nat.add_mul_mod_self_left, Nat.mod_eq_of_lt hl]
    · rw [e, Nat.add_mul_div_left _ _ hm, Nat.div_eq_of_lt hl]; omega
  · intro hg
    have e2 : 2 * x + y = (2 * (x % m) + y - m) + m * (2 * (x / m) + 1) := by rw [Nat.mul_add, Nat.mul_one]; omega
    have hl : 2 * (x % m) + y - m < m := by omega
    refine ⟨?_, ?_⟩
    · rw [e2, Nat.add_mul_mod_self_left, Nat.mod_eq_of_lt hl]
    · rw [e2, Nat.add_mul_div_left _ _ hm, Nat.div_eq_of_lt hl]; omega
theorem rm_small (n m t : Nat) (hm : 0 < m) (h : 2 * Rm n m (t + 1) + n / 2 ^ t % 2 < m) : Rm n m t = 2 * Rm n m (t + 1) + n / 2 ^ t % 2 ∧ Vm n m t = Vm n m (t + 1) := by
  obtain ⟨a, b⟩ := (div_bit m (n / 2 ^ (t + 1)) (n / 2 ^ t % 2) hm (Nat.mod_lt _ (by omega))).1 h
  rw [← half] at a b
  refine ⟨a, ?_⟩
  unfold Vm; rw [b, Nat.pow_succ, Nat.mul_comm (2 ^ t) 2, ← Nat.mul_assoc, Nat.mul_comm 2]
theorem rm_large (n m t : Nat) (hm : 0 < m) (h : m ≤ 2 * Rm n m (t + 1) + n / 2 ^ t % 2) : Rm n m t = 2 * Rm n m (t + 1) + n / 2 ^ t % 2 - m ∧ Vm n m t = Vm n m (t + 1) + 2 ^ t := by
  obtain ⟨a, b⟩ := (div_bit m (n / 2 ^ (t + 1)) (n / 2 ^ t % 2) hm (Nat.mod_lt _ (by omega))).2 h
  rw [← half] at a b
  refine ⟨a, ?_⟩
  unfold Vm; rw [b, Nat.add_mul, Nat.one_mul, Nat.pow_succ, Nat.mul_comm (2 ^ t) 2, ← Nat.mul_assoc, Nat.mul_comm 2]
theorem rm_lt (n m t : Nat) (hm : 0 < m) : Rm n m t < m := Nat.mod_lt _ hm
theorem rm_top {n m t : Nat} (h : n < 2 ^ t) : Rm n m t = 0 ∧ Vm n m t = 0 := by
  unfold Rm Vm; rw [Nat.div_eq_of_lt h]; simp
theorem rm_end (n m : Nat) : Rm n m 0 = n % m ∧ Vm n m 0 = n / m := by unfold Rm Vm; simp
/-- One bit more sets one bit of one digit. -/
theorem dig_bit_other (Q i b j : Nat) (hb : b < 16) (hj : j ≠ i) : dig (Q * 2 ^ (16 * i + b + 1) + 2 ^ (16 * i + b)) j = dig (Q * 2 ^ (16 * i + b + 1)) j := by
  unfold dig
  rw [pow_16]
  rcases Nat.lt_or_ge j i with h | h
  · have e1 : (2 : Nat) ^ (16 * i + b) = 2 ^ (16 * j) * (65536 * 2 ^ (16 * (i - j - 1) + b)) := by
      rw [show (65536 : Nat) = 2 ^ 16 from rfl, ← Nat.pow_add, ← Nat.pow_add]; congr 1; omega
    rw [Nat.pow_succ, e1, show Q * (2 ^ (16 * j) * (65536 * 2 ^ (16 * (i - j - 1) + b)) * 2) = 2 ^ (16 * j) * (65536 * (Q * 2 ^ (16 * (i - j - 1) + b) * 2)) from by grind]
    rw [← Nat.mul_add, Nat.mul_div_cancel_left _ (Nat.two_pow_pos _), Nat.mul_div_cancel_left _ (Nat.two_pow_pos _)]
    omega
  · have hj' : i < j := by omega
    have e1 : (2 : Nat) ^ (16 * j) = 2 ^ (16 * i + b + 1) * 2 ^ (16 * j - (16 * i + b + 1)) := by rw [← Nat.pow_add]; congr 1; omega
    have e2 : (Q * 2 ^ (16 * i + b + 1) + 2 ^ (16 * i + b)) / 2 ^ (16 * i + b + 1) = Q := by
      rw [Nat.add_comm, Nat.add_mul_div_right _ _ (Nat.two_pow_pos _), Nat.div_eq_of_lt (Nat.pow_lt_pow_right (by omega) (by omega))]; omega
    rw [e1, ← Nat.div_div_eq_div_mul, ← Nat.div_div_eq_div_mul, e2, Nat.mul_div_cancel _ (Nat.two_pow_pos _)]
theorem dig_bit_at (Q i b : Nat) (hb : b < 16) : dig (Q * 2 ^ (16 * i + b + 1) + 2 ^ (16 * i + b)) i = dig (Q * 2 ^ (16 * i + b + 1)) i + ((2 ^ b : Nat) : Int) := by
  unfold dig
  rw [pow_16, show (2 : Nat) ^ (16 * i + b) = 2 ^ (16 * i) * 2 ^ b from Nat.pow_add _ _ _, show (2 : Nat) ^ (16 * i + b + 1) = 2 ^ (16 * i) * 2 ^ (b + 1) from by rw [← Nat.pow_add]; rfl]
  rw [show Q * (2 ^ (16 * i) * 2 ^ (b + 1)) = 2 ^ (16 * i) * (Q * 2 ^ (b + 1)) from Nat.mul_left_comm _ _ _, ← Nat.mul_add, Nat.mul_div_cancel_left _ (Nat.two_pow_pos _), Nat.mul_div_cancel_left _ (Nat.two_pow_pos _)]
  rcases (by omega : b = 0 ∨ b = 1 ∨ b = 2 ∨ b = 3 ∨ b = 4 ∨ b = 5 ∨ b = 6 ∨ b = 7 ∨ b = 8 ∨ b = 9 ∨ b = 10 ∨ b = 11 ∨ b = 12 ∨ b = 13 ∨ b = 14 ∨ b = 15) with rfl | rfl | rfl | rfl | rfl | rfl | rfl | rfl | rfl | rfl | rfl | rfl | rfl | rfl | rfl | rfl <;> omega

/-! ### Twice a number and a bit, digit by digit -/
def dbl (R y k : Nat) : Int := (((2 * lowp R k + y) / 65536 ^ k : Nat) : Int)
theorem dbl_zero (R y : Nat) : dbl R y 0 = (y : Int) := by unfold dbl; rw [lowp_zero]; simp
theorem dbl_bounds (R y k : Nat) (hy : y ≤ 1) : 0 ≤ dbl R y k ∧ dbl R y k ≤ 1 := by
  have h1 := lowp_lt R k
  have : (2 * lowp R k + y) / 65536 ^ k < 2 := Nat.div_lt_of_lt_mul (by omega)
  unfold dbl; exact ⟨Int.natCast_nonneg _, by omega⟩
theorem dbl_succ (R y k : Nat) : (dbl R y k + 2 * dig R k) / 65536 = dbl R y (k + 1) := by
  unfold dbl dig
  rw [lowp_succ, Nat.pow_succ, ← Nat.div_div_eq_div_mul, show 2 * (lowp R k + 65536 ^ k * (R / 65536 ^ k % 65536)) + y = (2 * lowp R k + y) + 65536 ^ k * (2 * (R / 65536 ^ k % 65536)) from by rw [Nat.mul_add, Nat.mul_left_comm]; omega, Nat.add_mul_div_left _ _ (pow_pos16 k)]
  generalize (2 * lowp R k + y) / 65536 ^ k = z; generalize R / 65536 ^ k % 65536 = x
  omega
theorem dbl_dig (R y k : Nat) : (dbl R y k + 2 * dig R k) % 65536 = dig (2 * R + y) k := by
  unfold dbl dig
  have h : (2 * R + y) / 65536 ^ k = (2 * lowp R k + y) / 65536 ^ k + 2 * (R / 65536 ^ k) := by
    have e : 2 * R + y = (2 * lowp R k + y) + 65536 ^ k * (2 * (R / 65536 ^ k)) := by rw [Nat.mul_left_comm]; have := lowp_div R k; omega
    have e2 : (2 * R + y) / 65536 ^ k = ((2 * lowp R k + y) + 65536 ^ k * (2 * (R / 65536 ^ k))) / 65536 ^ k := congrArg (· / 65536 ^ k) e
    rw [e2, Nat.add_mul_div_left _ _ (pow_pos16 k)]
  rw [h]
  generalize (2 * lowp R k + y) / 65536 ^ k = z; generalize R / 65536 ^ k = x
  omega
def dblF (R y k : Nat) : Nat → Int := fun j => if j < k then dig (2 * R + y) j else dig R j
theorem dblF_zero (R y L : Nat) : rowA (dig R) L = rowA (dblF R y 0) L := rowA_congr fun j _ => by simp [dblF]
theorem dblF_at (R y k : Nat) : dblF R y k k = dig R k := by simp [dblF]
theorem dblF_set (R y k L : Nat) : (rowA (dblF R y k) L).setIfInBounds k (.int .i64 (dig (2 * R + y) k)) = rowA (dblF R y (k + 1)) L :=
  rowA_set (by simp [dblF]) fun i _ hi => by
    unfold dblF
    by_cases h : i < k
    · rw [if_pos h, if_pos (by omega)]
    · rw [if_neg h, if_neg (by omega)]
theorem dblF_all (R y L : Nat) : rowA (dblF R y L) L = rowA (dig (2 * R + y)) L := rowA_congr fun j hj => by simp [dblF, hj]
/-- One row written over another. -/
def ovF (D R k : Nat) : Nat → Int := fun j => if j < k then dig D j else dig R j
theorem ovF_zero (D R L : Nat) : rowA (dig R) L = rowA (ovF D R 0) L := rowA_congr fun j _ => by simp [ovF]
theorem ovF_at (D R k : Nat) : ovF D R k k = dig R k := by simp [ovF]
theorem ovF_set (D R k L : Nat) : (rowA (ovF D R k) L).setIfInBounds k (.int .i64 (dig D k)) = rowA (ovF D R (k + 1)) L :=
  rowA_set (by simp [ovF]) fun i _ hi => by
    unfold ovF
    by_cases h : i < k
    · rw [if_pos h, if_pos (by omega)]
    · rw [if_neg h, if_neg (by omega)]
theorem ovF_all (D R L : Nat) : rowA (ovF D R L) L = rowA (dig D) L := rowA_congr fun j hj => by simp [ovF, hj]

/-! ### Parts of a number -/
theorem dig_shift (n o i : Nat) : dig (n / 65536 ^ o) i = dig n (o + i) := by
  unfold dig; rw [Nat.div_div_eq_div_mul, ← Nat.pow_add]
theorem nd_32 (a b : Nat) (ha : a < B256) (hb : b < B256) : nd (a * b) ≤ 32 :=
  nd_le.2 (Nat.lt_of_lt_of_le (Nat.mul_lt_mul'' ha hb) (Nat.le_of_eq rfl))
end Go.Proofs.Ytlaapbenpjopiaa

namespace Go.Proofs.Ytlaapbenpjopiaa
open Go.RowKit

/-- The slice lies in a block that is new since w. -/
def Fresh (w : World) (v : Value) : Prop := ∀ b, v.ownBlock = some b → w.heap.size ≤ b

theorem norm_core (b len cap n : Nat) (w : World) (hcap : len ≤ cap) (hlen : len ≤ 4294967296) (hn : n < 65536 ^ len)
    (hc : ∀ i, i < len → w.cell? ⟨b, i, none⟩ = some (.int .i64 (dig n i))) :
    Calls Try.prog 45 #[.slice (some ⟨b, 0, none⟩) len cap] w fun e w' => e = .returned (.slice (some ⟨b, 0, none⟩) (nd n) cap) ∧ w = w' := by
  have HC := Lib.hid hc
  have HN := Lib.hid hn
  clear hc hn
  go_enter Try.func45, Try.ntmps45
  go_wp2
  go_loop [3] (fun i => ∃ k : Nat, k ≤ len ∧ i = .int .i64 k ∧ Hid (n < 65536 ^ k)) (fun i => (intOf i).toNat)
  case atStart => exact ⟨len, Nat.le_refl _, rfl, HN⟩
  case round =>
    obtain ⟨k, hk, rfl, HK⟩ := hrel
    rcases k with _ | j
    · have e : nd n = 0 := by have := nd_le.2 HK.out; omega
      have He := Lib.hid e
      clear e
      go_wp2
      go_ret
      exact ⟨by rw [He.out]; rfl, rfl⟩
    · have hcell := HC.out j (by omega)
      by_cases hz : dig n j = 0
      · have HD := Lib.hid (nd_drop HK.out hz)
        have ht : (dig n j == 0) = true := by simpa using hz
        clear hz HK
        go_wp2
        go_round
        case rel => exact ⟨j, by omega, by go_num, HD⟩
        case measure => simp [intOf]
      · have e : nd n = j + 1 := nd_top HK.out hz
        have ht : (dig n j == 0) = false := by simpa using hz
        have He := Lib.hid e
        clear hz HK e
        go_wp2
        go_ret
        exact ⟨by rw [He.out]; rfl, rfl⟩

theorem norm_zero (A : Option Addr) (cap : Nat) (w : World) :
    Calls Try.prog 45 #[.slice A 0 cap] w fun e w' => e = .returned (.slice A 0 cap) ∧ w = w' := by
  go_enter Try.func45, Try.ntmps45
  go_wp2
  refine wp_loop_rounds 1 ?_
  rw [rounds_succ]
  go_wp2
  go_ret
  exact ⟨rfl, rfl⟩

theorem norm_any (v : Value) (n len : Nat) (w : World) (h : Raw w v n len) :
    Calls Try.prog 45 #[v] w fun e w' => ∃ v', e = .returned v' ∧ Big w v' n ∧ w = w' := by
  obtain ⟨A, cap, rfl, h1, h2, h3, h4⟩ := h
  by_cases hl : 0 < len
  · obtain ⟨b, rfl, hb, hc⟩ := h4 hl
    have hle := nd_le.2 h3
    exact (norm_core b len cap n w h1 h2 h3 hc).mono fun e w' h => ⟨_, h.1, ⟨_, cap, rfl, by omega, by omega, nd_lt n, fun _ => ⟨b, rfl, hb, fun i hi => hc i (by omega)⟩⟩, h.2⟩
  · obtain rfl : len = 0 := by omega
    have e : nd n = 0 := by have := nd_le.2 h3; omega
    exact (norm_zero A cap w).mono fun e' w' h => ⟨_, h.1, ⟨A, cap, by rw [e], by omega, by omega, nd_lt n, fun hp => absurd hp (by omega)⟩, h.2⟩

/-- The same, and where the result lies. -/
theorem norm_own (v : Value) (n len : Nat) (w : World) (h : Raw w v n len) :
    Calls Try.prog 45 #[v] w fun e w' => ∃ v', e = .returned v' ∧ Big w v' n ∧ v'.ownBlock = v.ownBlock ∧ w = w' := by
  obtain ⟨A, cap, rfl, h1, h2, h3, h4⟩ := h
  by_cases hl : 0 < len
  · obtain ⟨b, rfl, hb, hc⟩ := h4 hl
    have hle := nd_le.2 h3
    exact (norm_core b len cap n w h1 h2 h3 hc).mono fun e w' h => ⟨_, h.1, ⟨_, cap, rfl, by omega, by omega, nd_lt n, fun _ => ⟨b, rfl, hb, fun i hi => hc i (by omega)⟩⟩, rfl, h.2⟩
  · obtain rfl : len = 0 := by omega
    have e : nd n = 0 := by have := nd_le.2 h3; omega
    exact (norm_zero A cap w).mono fun e' w' h => ⟨_, h.1, ⟨A, cap, by rw [e], by omega, by omega, nd_lt n, fun hp => absurd hp (by omega)⟩, rfl, h.2⟩

theorem fits_yes (A : Option Addr) (len cap : Nat) (w : World) (h : len ≤ 16) :
    Calls Try.prog 57 #[.slice A len cap] w fun e w' => e = .returned (.bool true) ∧ w = w' := by
  have hd : decide ((len : Int) ≤ 16) = true := by simp; omega
  go_enter Try.func57, Try.ntmps57
  go_wp2
  go_ret
  exact ⟨rfl, rfl⟩
theorem fits_no (A : Option Addr) (len cap : Nat) (w : World) (h : 16 < len) :
    Calls Try.prog 57 #[.slice A len cap] w fun e w' => e = .returned (.bool false) ∧ w = w' := by
  have hd : decide ((len : Int) ≤ 16) = false := by simp; omega
  go_enter Try.func57, Try.ntmps57
  go_wp2
  go_ret
  exact ⟨rfl, rfl⟩

set_option maxRecDepth 100000 in
set_option maxHeartbeats 4000000 in
theorem from_new (a : Nat) (ha : a < B256) (w : World) :
    Calls Try.prog 47 #[U a] w fun e w' => ∃ v, e = .returned v ∧ Big w' v a ∧ Fresh w v ∧ Below w.heap.size w w' := by
  have mk : ∀ w, (Instr.makeSlice 57 (.int .i64 16) (.int .i64 16)).run Try.prog w = .ok (.slice (some ⟨w.heap.size, 0, none⟩) 16 16) (w.alloc (.cells #[.int .i64 0, .int .i64 0, .int .i64 0, .int .i64 0, .int .i64 0, .int .i64 0, .int .i64 0, .int .i64 0, .int .i64 0, .int .i64 0, .int .i64 0, .int .i64 0, .int .i64 0, .int .i64 0, .int .i64 0, .int .i64 0] 3)) := fun _ => by kernel_rfl
  have d0 := word0 a
  have d1 := word1 a
  have d2 := word2 a
  have d3 := word3 a
  have d4 := word4 a
  have d5 := word5 a
  have d6 := word6 a
  have d7 := word7 a
  have d8 := word8 a
  have d9 := word9 a
  have d10 := word10 a
  have d11 := word11 a
  have d12 := word12 a
  have d13 := word13 a
  have d14 := word14 a
  have d15 := word15 a
  have hR : ∀ w : World, Raw ((w.alloc (.cells #[.int .u64 (limb a 0), .int .u64 (limb a 1), .int .u64 (limb a 2), .int .u64 (limb a 3)] 24)).alloc (.cells #[.int .i64 (dig a 0), .int .i64 (dig a 1), .int .i64 (dig a 2), .int .i64 (dig a 3), .int .i64 (dig a 4), .int .i64 (dig a 5), .int .i64 (dig a 6), .int .i64 (dig a 7), .int .i64 (dig a 8), .int .i64 (dig a 9), .int .i64 (dig a 10), .int .i64 (dig a 11), .int .i64 (dig a 12), .int .i64 (dig a 13), .int .i64 (dig a 14), .int .i64 (dig a 15)] 3)) (.slice (some ⟨w.heap.size + 1, 0, none⟩) 16 16) a 16 := fun w => by
    refine ⟨_, _, rfl, by omega, by omega, ha, fun _ => ⟨w.heap.size + 1, rfl, by simp, fun i hi => ?_⟩⟩
    have e := cell_of_row ((w.alloc (.cells #[.int .u64 (limb a 0), .int .u64 (limb a 1), .int .u64 (limb a 2), .int .u64 (limb a 3)] 24)).alloc (.cells #[.int .i64 (dig a 0), .int .i64 (dig a 1), .int .i64 (dig a 2), .int .i64 (dig a 3), .int .i64 (dig a 4), .int .i64 (dig a 5), .int .i64 (dig a 6), .int .i64 (dig a 7), .int .i64 (dig a 8), .int .i64 (dig a 9), .int .i64 (dig a 10), .int .i64 (dig a 11), .int .i64 (dig a 12), .int .i64 (dig a 13), .int .i64 (dig a 14), .int .i64 (dig a 15)] 3)) (w.heap.size + 1) i #[.int .i64 (dig a 0), .int .i64 (dig a 1), .int .i64 (dig a 2), .int .i64 (dig a 3), .int .i64 (dig a 4), .int .i64 (dig a 5), .int .i64 (dig a 6), .int .i64 (dig a 7), .int .i64 (dig a 8), .int .i64 (dig a 9), .int .i64 (dig a 10), .int .i64 (dig a 11), .int .i64 (dig a 12), .int .i64 (dig a 13), .int .i64 (dig a 14), .int .i64 (dig a 15)] 3 (0, 0) (by have h := heap_alloc_new (w.alloc (.cells #[.int .u64 (limb a 0), .int .u64 (limb a 1), .int .u64 (limb a 2), .int .u64 (limb a 3)] 24)) (.cells #[.int .i64 (dig a 0), .int .i64 (dig a 1), .int .i64 (dig a 2), .int .i64 (dig a 3), .int .i64 (dig a 4), .int .i64 (dig a 5), .int .i64 (dig a 6), .int .i64 (dig a 7), .int .i64 (dig a 8), .int .i64 (dig a 9), .int .i64 (dig a 10), .int .i64 (dig a 11), .int .i64 (dig a 12), .int .i64 (dig a 13), .int .i64 (dig a 14), .int .i64 (dig a 15)] 3); rw [World.size_alloc] at h; exact h)
    rw [e]
    match i, hi with
    | 0, _ | 1, _ | 2, _ | 3, _ | 4, _ | 5, _ | 6, _ | 7, _ | 8, _ | 9, _ | 10, _ | 11, _ | 12, _ | 13, _ | 14, _ | 15, _ => rfl
    | j + 16, h => exact absurd h (by omega)
  have HR := Lib.hid hR
  clear hR
  go_enter Try.func47, Try.ntmps47
  go_wp2
  refine wp_loop_rounds 17 ?_
  iterate 16 (rw [rounds_succ]; go_wp2)
  rw [rounds_succ]
  go_wp2_with (go_at_call 45; refine (norm_own _ a 16 _ (HR.out w)).mono ?_; rintro e w2 ⟨v, rfl, hb, ho, rfl⟩)
  go_ret
  refine ⟨v, rfl, hb, fun b h => ?_, ?_⟩
  · rw [ho] at h
    simp [Value.ownBlock] at h
    omega
  · go_grown
theorem from_any (a : Nat) (ha : a < B256) (w : World) :
    Calls Try.prog 47 #[U a] w fun e w' => ∃ v, e = .returned v ∧ Big w' v a ∧ Below w.heap.size w w' :=
  (from_new a ha w).mono fun _ _ ⟨v, h1, h2, _, h3⟩ => ⟨v, h1, h2, h3⟩
end Go.Proofs.Ytlaapbenpjopiaa

namespace Go.Proofs.Ytlaapbenpjopiaa
open Go.RowKit

/-- A store into the newest block, behind draws. -/
theorem setN (w : World) (c : Array Value) (t : TypeId) (m g i : Nat) {v : Value} (hg : g = w.heap.size) : ((w.alloc (.cells c t)).drewN m).setCell ⟨g, i, none⟩ v = (w.alloc (.cells (c.setIfInBounds i v) t)).drewN m := by
  rw [show ((w.alloc (.cells c t)).drewN m).setCell ⟨g, i, none⟩ v = ((w.alloc (.cells c t)).setCell ⟨g, i, none⟩ v).drewN m from rfl, World.setCell_alloc_at _ _ _ _ _ hg]

set_option maxRecDepth 100000 in
set_option maxHeartbeats 8000000 in
theorem to_core (b o len cap n : Nat) (w : World) (hlen : len ≤ 16) (hb : b < w.heap.size)
    (hc : ∀ i, i < len → w.cell? ⟨b, o + i, none⟩ = some (.int .i64 (dig n i))) :
    Calls Try.prog 32 #[.slice (some ⟨b, o, none⟩) len cap] w fun e w' => e = .returned (U (lowp n len)) ∧ Below w.heap.size w w' := by
  have HC := Lib.hid hc
  clear hc
  have hb1 : b < w.heap.size + 1 := by omega
  go_enter Try.func32, Try.ntmps32
  go_wp2
  go_loopw [4] (fun i w' => ∃ k q : Nat, k ≤ len ∧ i = .int .i64 k ∧ w' = ((w.alloc (.cells #[.int .u64 0, .int .u64 0, .int .u64 0, .int .u64 0] 24)).alloc (.cells #[.int .u64 (limb (lowp n k) 0), .int .u64 (limb (lowp n k) 1), .int .u64 (limb (lowp n k) 2), .int .u64 (limb (lowp n k) 3)] 24)).drewN q) (fun i _ => len - (intOf i).toNat)
  case atStart =>
    have E := U_zero
    rw [Value.agg.injEq] at E
    refine ⟨0, 0, by omega, rfl, ?_⟩
    rw [lowp_zero, E]
    rfl
  case round =>
    obtain ⟨k, q, hk, rfl, rfl⟩ := hrel
    by_cases hlt : k < len
    · have hcell := HC.out k hlt
      rcases (by omega : k = 0 ∨ k = 1 ∨ k = 2 ∨ k = 3 ∨ k = 4 ∨ k = 5 ∨ k = 6 ∨ k = 7 ∨ k = 8 ∨ k = 9 ∨ k = 10 ∨ k = 11 ∨ k = 12 ∨ k = 13 ∨ k = 14 ∨ k = 15) with rfl | rfl | rfl | rfl | rfl | rfl | rfl | rfl | rfl | rfl | rfl | rfl | rfl | rfl | rfl | rfl
      · have hlt' : decide ((0 : Int) < (len : Int)) = true := by simp; omega
        have P := put0 n
        rw [Nat.add_zero] at hcell
        go_wp2
        go_region
        go_wp2
        go_roundw
        case rel =>
          obtain ⟨e0, e1, e2⟩ := keep0 n
          exact ⟨1, q + 1, by omega, rfl, by rw [e0, e1, e2]; exact setN _ _ _ _ _ _ (by simp)⟩
        case measure => simp [intOf]; omega
      · have hlt' : decide ((1 : Int) < (len : Int)) = true := by simp; omega
        have P := put1 n
        go_wp2
        go_region
        go_wp2
        go_roundw
        case rel =>
          obtain ⟨e0, e1, e2⟩ := keep1 n
          exact ⟨2, q + 1, by omega, rfl, by rw [e0, e1, e2]; exact setN _ _ _ _ _ _ (by simp)⟩
        case measure => simp [intOf]; omega
      · have hlt' : decide ((2 : Int) < (len : Int)) = true := by simp; omega
        have P := put2 n
        go_wp2
        go_region
        go_wp2
        go_roundw
        case rel =>
          obtain ⟨e0, e1, e2⟩ := keep2 n
          exact ⟨3, q + 1, by omega, rfl, by rw [e0, e1, e2]; exact setN _ _ _ _ _ _ (by simp)⟩
        case measure => simp [intOf]; omega
      · have hlt' : decide ((3 : Int) < (len : Int)) = true := by simp; omega
        have P := put3 n
        go_wp2
        go_region
        go_wp2
        go_roundw
        case rel =>
          obtain ⟨e0, e1, e2⟩ := keep3 n
          exact ⟨4, q + 1, by omega, rfl, by rw [e0, e1, e2]; exact setN _ _ _ _ _ _ (by simp)⟩
        case measure => simp [intOf]; omega
      · have hlt' : decide ((4 : Int) < (len : Int)) = true := by simp; omega
        have P := put4 n
        go_wp2
        go_region
        go_wp2
        go_roundw
        case rel =>
          obtain ⟨e0, e1, e2⟩ := keep4 n
          exact ⟨5, q + 1, by omega, rfl, by rw [e0, e1, e2]; exact setN _ _ _ _ _ _ (by simp)⟩
        case measure => simp [intOf]; omega
      · have hlt' : decide ((5 : Int) < (len : Int)) = true := by simp; omega
        have P := put5 n
        go_wp2
        go_region
        go_wp2
        go_roundw
        case rel =>
          obtain ⟨e0, e1, e2⟩ := keep5 n
          exact ⟨6, q + 1, by omega, rfl, by rw [e0, e1, e2]; exact setN _ _ _ _ _ _ (by simp)⟩
        case measure => simp [intOf]; omega
      · have hlt' : decide ((6 : Int) < (len : Int)) = true := by simp; omega
        have P := put6 n
        go_wp2
        go_region
        go_wp2
        go_roundw
        case rel =>
          obtain ⟨e0, e1, e2⟩ := keep6 n
          exact ⟨7, q + 1, by omega, rfl, by rw [e0, e1, e2]; exact setN _ _ _ _ _ _ (by simp)⟩
        case measure => simp [intOf]; omega
      · have hlt' : decide ((7 : Int) < (len : Int)) = true := by simp; omega
        have P := put7 n
        go_wp2
        go_region
        go_wp2
        go_roundw
        case rel =>
          obtain ⟨e0, e1, e2⟩ := keep7 n
          exact ⟨8, q + 1, by omega, rfl, by rw [e0, e1, e2]; exact setN _ _ _ _ _ _ (by simp)⟩
        case measure => simp [intOf]; omega
      · have hlt' : decide ((8 : Int) < (len : Int)) = true := by simp; omega
        have P := put8 n
        go_wp2
        go_region
        go_wp2
        go_roundw
        case rel =>
          obtain ⟨e0, e1, e2⟩ := keep8 n
          exact ⟨9, q + 1, by omega, rfl, by rw [e0, e1, e2]; exact setN _ _ _ _ _ _ (by simp)⟩
        case measure => simp [intOf]; omega
      · have hlt' : decide ((9 : Int) < (len : Int)) = true := by simp; omega
        have P := put9 n
        go_wp2
        go_region
        go_wp2
        go_roundw
        case rel =>
          obtain ⟨e0, e1, e2⟩ := keep9 n
          exact ⟨10, q + 1, by omega, rfl, by rw [e0, e1, e2]; exact setN _ _ _ _ _ _ (by simp)⟩
        case measure => simp [intOf]; omega
      · have hlt' : decide ((10 : Int) < (len : Int)) = true := by simp; omega
        have P := put10 n
        go_wp2
        go_region
        go_wp2
        go_roundw
        case rel =>
          obtain ⟨e0, e1, e2⟩ := keep10 n
          exact ⟨11, q + 1, by omega, rfl, by rw [e0, e1, e2]; exact setN _ _ _ _ _ _ (by simp)⟩
        case measure => simp [intOf]; omega
      · have hlt' : decide ((11 : Int) < (len : Int)) = true := by simp; omega
        have P := put11 n
        go_wp2
        go_region
        go_wp2
        go_roundw
        case rel =>
          obtain ⟨e0, e1, e2⟩ := keep11 n
          exact ⟨12, q + 1, by omega, rfl, by rw [e0, e1, e2]; exact setN _ _ _ _ _ _ (by simp)⟩
        case measure => simp [intOf]; omega
      · have hlt' : decide ((12 : Int) < (len : Int)) = true := by simp; omega
        have P := put12 n
        go_wp2
        go_region
        go_wp2
        go_roundw
        case rel =>
          obtain ⟨e0, e1, e2⟩ := keep12 n
          exact ⟨13, q + 1, by omega, rfl, by rw [e0, e1, e2]; exact setN _ _ _ _ _ _ (by simp)⟩
        case measure => simp [intOf]; omega
      · have hlt' : decide ((13 : Int) < (len : Int)) = true := by simp; omega
        have P := put13 n
        go_wp2
        go_region
        go_wp2
        go_roundw
        case rel =>
          obtain ⟨e0, e1, e2⟩ := keep13 n
          exact ⟨14, q + 1, by omega, rfl, by rw [e0, e1, e2]; exact setN _ _ _ _ _ _ (by simp)⟩
        case measure => simp [intOf]; omega
      · have hlt' : decide ((14 : Int) < (len : Int)) = true := by simp; omega
        have P := put14 n
        go_wp2
        go_region
        go_wp2
        go_roundw
        case rel =>
          obtain ⟨e0, e1, e2⟩ := keep14 n
          exact ⟨15, q + 1, by omega, rfl, by rw [e0, e1, e2]; exact setN _ _ _ _ _ _ (by simp)⟩
        case measure => simp [intOf]; omega
      · have hlt' : decide ((15 : Int) < (len : Int)) = true := by simp; omega
        have P := put15 n
        go_wp2
        go_region
        go_wp2
        go_roundw
        case rel =>
          obtain ⟨e0, e1, e2⟩ := keep15 n
          exact ⟨16, q + 1, by omega, rfl, by rw [e0, e1, e2]; exact setN _ _ _ _ _ _ (by simp)⟩
        case measure => simp [intOf]; omega
    · obtain rfl : k = len := by omega
      have hlt' : decide ((k : Int) < (k : Int)) = false := by simp
      go_wp2
      refine bodyPost_ret (v := U (lowp n k)) (by simp [results, Try.results32, go_sem]) rfl ⟨rfl, ?_⟩
      iterate 4 refine Below.setCell ?_ (by exact Nat.le_refl _) _
      exact belowN (by go_grown)

theorem to_zero (A : Option Addr) (cap : Nat) (w : World) :
    Calls Try.prog 32 #[.slice A 0 cap] w fun e w' => e = .returned (.agg #[.int .u64 0, .int .u64 0, .int .u64 0, .int .u64 0]) ∧ Below w.heap.size w w' := by
  go_enter Try.func32, Try.ntmps32
  go_wp2
  refine wp_loop_rounds 1 ?_
  rw [rounds_succ]
  go_wp2
  refine bodyPost_ret (v := .agg #[.int .u64 0, .int .u64 0, .int .u64 0, .int .u64 0]) (by simp [results, Try.results32, go_sem]) rfl ⟨rfl, ?_⟩
  go_grown

/-- A part of a slice of digits. -/
theorem to_part (g o len cap n m : Nat) (w : World) (hlen : len ≤ 16) (hg : g < w.heap.size) (hm : m = n / 65536 ^ o % 65536 ^ len)
    (hc : ∀ i, i < len → w.cell? ⟨g, o + i, none⟩ = some (.int .i64 (dig n (o + i)))) :
    Calls Try.prog 32 #[.slice (some ⟨g, o, none⟩) len cap] w fun e w' => e = .returned (U m) ∧ Below w.heap.size w w' := by
  have := to_core g o len cap (n / 65536 ^ o) w hlen hg (fun i hi => by rw [dig_shift]; exact hc i hi)
  rw [show lowp (n / 65536 ^ o) len = m from by rw [hm]; rfl] at this
  exact this

theorem to_any (v : Value) (n : Nat) (w : World) (h : Big w v n) (hn : n < B256) :
    Calls Try.prog 32 #[v] w fun e w' => e = .returned (U n) ∧ Below w.heap.size w w' := by
  obtain ⟨A, cap, rfl, h1, h2, h3, h4⟩ := h
  have h16 := nd_16.2 hn
  by_cases hl : 0 < nd n
  · obtain ⟨b, rfl, hb, hc⟩ := h4 hl
    have := to_core b 0 (nd n) cap n w h16 hb (fun i hi => by rw [Nat.zero_add]; exact hc i hi)
    rw [lowp_all h3] at this
    exact this
  · have e : nd n = 0 := by omega
    rw [e] at h3 ⊢
    obtain rfl : n = 0 := by simpa using h3
    rw [U_zero]
    exact to_zero A cap w

theorem checked_ok (A : Option Addr) (len cap n : Nat) (w : World) (hl : len ≤ 16)
    (C : ∀ w' : World, Below w.heap.size w w' → Calls Try.prog 32 #[.slice A len cap] w' fun e w2 => e = .returned (U n) ∧ Below w'.heap.size w' w2) :
    Calls Try.prog 49 #[.slice A len cap] w fun e w' => e = .returned (.tuple #[U n, .int .i64 0]) ∧ Below w.heap.size w w' := by
  have HC := Lib.hid C
  have HF := Lib.hid (fun w => fits_yes A len cap w hl)
  clear C
  go_enter Try.func49, Try.ntmps49
  go_wp2_with (first | (go_at_call 57; refine (HF.out _).mono ?_; rintro e w2 ⟨rfl, rfl⟩) | (go_at_call 32; refine (HC.out _ (by go_grown)).mono ?_; rintro e w2 ⟨rfl, hw⟩; obtain ⟨hc, hm, hs⟩ := keepNew hw))
  have hb0 : Below w.heap.size w w2 := Below.trans (by go_grown) (hw.mono (by simp))
  refine bodyPost_ret (v := .tuple #[U n, .int .i64 0]) (by simp [results, Try.results49, go_sem, hc]) rfl ⟨rfl, ?_⟩
  go_grown

theorem checked_over (A : Option Addr) (len cap : Nat) (w : World) (hl : 16 < len) :
    Calls Try.prog 49 #[.slice A len cap] w fun e w' => e = .returned (.tuple #[.agg #[.int .u64 0, .int .u64 0, .int .u64 0, .int .u64 0], .int .i64 4]) ∧ Below w.heap.size w w' := by
  have HF := Lib.hid (fun w => fits_no A len cap w hl)
  go_enter Try.func49, Try.ntmps49
  go_wp2_with (go_at_call 57; refine (HF.out _).mono ?_; rintro e w2 ⟨rfl, rfl⟩)
  refine bodyPost_ret (v := .tuple #[.agg #[.int .u64 0, .int .u64 0, .int .u64 0, .int .u64 0], .int .i64 4]) (by simp [results, Try.results49, go_sem]) rfl ⟨rfl, ?_⟩
  go_grown

theorem checked_any (v : Value) (n : Nat) (w : World) (h : Big w v n) :
    Calls Try.prog 49 #[v] w fun e w' => e = .returned (.tuple #[U (chkR n), .int .i64 (chkE n)]) ∧ Below w.heap.size w w' := by
  have h0 := h
  obtain ⟨A, cap, rfl, h1, h2, h3, h4⟩ := h
  by_cases hn : n < B256
  · rw [show chkR n = n from if_pos hn, show chkE n = 0 from if_pos hn]
    exact checked_ok A (nd n) cap n w (nd_16.2 hn) (fun w' hb => to_any _ n w' (h0.below hb) hn)
  · rw [show chkR n = 0 from if_neg hn, show chkE n = 4 from if_neg hn, U_zero]
    exact checked_over A (nd n) cap w (by have := mt nd_16.1 hn; omega)

end Go.Proofs.Ytlaapbenpjopiaa

namespace Go.Proofs.Ytlaapbenpjopiaa
open Go.RowKit

theorem rcmp_lt (A B : Option Addr) (m n c d : Nat) (w : World) (h : m < n) (_hn : n ≤ 4294967296) :
    Calls Try.prog 44 #[.slice A m c, .slice B n d] w fun e w' => e = .returned (.int .i64 (-1)) ∧ Below w.heap.size w w' := by
  have h1 : ((m : Int) != (n : Int)) = true := by simp; omega
  go_enter Try.func44, Try.ntmps44
  go_wp2
  go_ret
  exact ⟨rfl, Below.refl _ _⟩
theorem rcmp_gt (A B : Option Addr) (m n c d : Nat) (w : World) (h : n < m) (_hn : m ≤ 4294967296) :
    Calls Try.prog 44 #[.slice A m c, .slice B n d] w fun e w' => e = .returned (.int .i64 1) ∧ Below w.heap.size w w' := by
  have h1 : ((m : Int) != (n : Int)) = true := by simp; omega
  have h2 : decide ((m : Int) < (n : Int)) = false := by simp; omega
  go_enter Try.func44, Try.ntmps44
  go_wp2
  go_ret
  exact ⟨rfl, Below.refl _ _⟩

set_option maxHeartbeats 1000000 in
theorem rcmp_same (A B : Option Addr) (len c d a b : Nat) (w : World) (hl : len ≤ 4294967296) (ha : a < 65536 ^ len) (hb : b < 65536 ^ len)
    (hA : 0 < len → ∃ g, A = some ⟨g, 0, none⟩ ∧ ∀ i, i < len → w.cell? ⟨g, i, none⟩ = some (.int .i64 (dig a i)))
    (hB : 0 < len → ∃ g, B = some ⟨g, 0, none⟩ ∧ ∀ i, i < len → w.cell? ⟨g, i, none⟩ = some (.int .i64 (dig b i))) :
    Calls Try.prog 44 #[.slice A len c, .slice B len d] w fun e w' => e = .returned (.int .i64 (cmpI a b)) ∧ Below w.heap.size w w' := by
  have h1 : ((len : Int) != (len : Int)) = false := by simp
  have HA := Lib.hid hA
  have HB := Lib.hid hB
  have HE := Lib.hid (show a / 65536 ^ len = b / 65536 ^ len by rw [Nat.div_eq_of_lt ha, Nat.div_eq_of_lt hb])
  clear hA hB ha hb
  go_enter Try.func44, Try.ntmps44
  go_wp2
  go_loopw [5] (fun i w' => ∃ k q : Nat, k ≤ len ∧ i = .int .i64 ((k : Int) - 1) ∧ Hid (a / 65536 ^ k = b / 65536 ^ k) ∧ w' = w.drewN q) (fun i _ => (intOf i + 1).toNat)
  case atStart => exact ⟨len, 0, Nat.le_refl _, rfl, HE, rfl⟩
  case round =>
    obtain ⟨k, q, hk, rfl, HK, rfl⟩ := hrel
    rcases k with _ | j
    · have e : cmpI a b = 0 := by
        have := HK.out
        rw [Nat.pow_zero, Nat.div_one, Nat.div_one] at this
        subst this
        unfold cmpI; rw [if_neg (by omega), if_neg (by omega)]
      have He := Lib.hid e
      clear e
      go_wp2
      go_ret
      exact ⟨by rw [He.out]; rfl, by repeat (first | exact Below.refl _ _ | refine belowN ?_)⟩
    · obtain ⟨g, rfl, hcA⟩ := HA.out (by omega)
      obtain ⟨g', rfl, hcB⟩ := HB.out (by omega)
      have ca := hcA j (by omega)
      have cb := hcB j (by omega)
      clear hcA hcB HA HB
      have hi : ((j + 1 : Nat) : Int) - 1 = (j : Int) := by omega
      rw [hi]
      have hj1 : (j : Int) < (len : Int) := by omega
      rcases Int.lt_trichotomy (dig a j) (dig b j) with h | h | h
      · have e : cmpI a b = -1 := if_pos (lt_of_dig HK.out h)
        have He := Lib.hid e
        clear e
        go_wp2
        go_quiet (fail)
        go_wp2
        go_ret
        exact ⟨by rw [He.out]; rfl, by repeat (first | exact Below.refl _ _ | refine belowN ?_)⟩
      · have He := Lib.hid (eq_of_dig HK.out h)
        have d1 : decide (dig a j < dig b j) = false := by simp; omega
        have d2 : decide (dig b j < dig a j) = false := by simp; omega
        clear h HK
        go_wp2
        go_quiet (fail)
        go_wp2
        go_quiet (fail)
        go_wp2
        go_roundw
        case rel => exact ⟨j, _, by omega, by go_num, He, rfl⟩
        case measure => simp [intOf]
      · have e : cmpI a b = 1 := by
          have := lt_of_dig HK.out.symm h
          unfold cmpI; rw [if_neg (by omega), if_pos this]
        have He := Lib.hid e
        have d1 : decide (dig a j < dig b j) = false := by simp; omega
        clear e
        go_wp2
        go_quiet (fail)
        go_wp2
        go_quiet (fail)
        go_wp2
        go_ret
        exact ⟨by rw [He.out]; rfl, by repeat (first | exact Below.refl _ _ | refine belowN ?_)⟩

theorem rcmp_any (u v : Value) (a b : Nat) (w : World) (hu : Big w u a) (hv : Big w v b) :
    Calls Try.prog 44 #[u, v] w fun e w' => e = .returned (.int .i64 (cmpI a b)) ∧ Below w.heap.size w w' := by
  obtain ⟨A, c, rfl, h1, h2, h3, h4⟩ := hu
  obtain ⟨B, d, rfl, k1, k2, k3, k4⟩ := hv
  rcases Nat.lt_trichotomy (nd a) (nd b) with h | h | h
  · rw [show cmpI a b = -1 from if_pos (lt_of_nd h)]
    exact rcmp_lt _ _ _ _ _ _ w h k2
  · rw [h] at h2 h3 h4 ⊢
    exact rcmp_same A B (nd b) c d a b w k2 h3 k3 (fun hp => by obtain ⟨g, e, _, hc⟩ := h4 hp; exact ⟨g, e, hc⟩) (fun hp => by obtain ⟨g, e, _, hc⟩ := k4 hp; exact ⟨g, e, hc⟩)
  · have hlt := lt_of_nd h
    rw [show cmpI a b = 1 from by unfold cmpI; rw [if_neg (by omega), if_pos hlt]]
    exact rcmp_gt _ _ _ _ _ _ w h h2

end Go.Proofs.Ytlaapbenpjopiaa

namespace Go.Proofs.Ytlaapbenpjopiaa
open Go.RowKit

/-- A slice that lies below B, reads as n, and keeps so. -/
def At (w : World) (A : Option Addr) (n : Nat) : Prop := 0 < nd n → ∃ g, A = some ⟨g, 0, none⟩ ∧ g < w.heap.size ∧ ∀ i, i < nd n → w.cell? ⟨g, i, none⟩ = some (.int .i64 (dig n i))

set_option maxRecDepth 100000 in
set_option maxHeartbeats 2000000 in
theorem radd_core (A B : Option Addr) (a b c d : Nat) (w : World) (ha : nd a ≤ 1048576) (hb : nd b ≤ 1048576) (hA : At w A a) (hB : At w B b) :
    Calls Try.prog 48 #[.slice A (nd a) c, .slice B (nd b) d] w fun e w' => ∃ v, e = .returned v ∧ w'.ownsRow w.heap.size 3 1 v (nd (a + b)) (digs (a + b) (nd (a + b))) ∧ Below w.heap.size w w' := by
  have hi : Try.prog.info? 3 = some Try.t3 := by kernel_rfl
  have HA := Lib.hid hA
  have HB := Lib.hid hB
  clear hA hB
  go_enter Try.func48, Try.ntmps48
  go_wp2
  go_loopw [5, 6, 7] (fun v o i wr => ∃ k : Nat, k ≤ nd (a + b) ∧ i = .int .i64 k ∧ o = .int .i64 (car a b k) ∧ wr.ownsRow w.heap.size 3 1 v k (digs (a + b) k) ∧ Below w.heap.size w wr) (fun _ _ i _ => nd (a + b) - (intOf i).toNat)
  case atStart => exact ⟨0, Nat.zero_le _, rfl, by rw [car_zero], World.ownsRow_nil _ _ _ _, Below.refl _ _⟩
  case round =>
    obtain ⟨k, hk, rfl, rfl, hown, hnx⟩ := hrel
    have hkb : k ≤ 1048577 := Nat.le_trans hk (nd_add a b 1048576 ha hb)
    have c0 := car_nonneg a b k
    have c1 := car_le a b k
    by_cases ta : k < nd a
    · by_cases tb : k < nd b
      · skip
        obtain ⟨g, rfl, hgB, hga⟩ := HA.out (by omega)
        have ca := (hnx.cell (p := ⟨g, k, none⟩) hgB).trans (hga k ta)
        have d1 := dig_nonneg a k
        have d2 := dig_lt a k
        obtain ⟨g', rfl, hgB', hgb⟩ := HB.out (by omega)
        have cb := (hnx.cell (p := ⟨g', k, none⟩) hgB').trans (hgb k tb)
        have d3 := dig_nonneg b k
        have d4 := dig_lt b k
        have e1 := dig_add a b k
        have e2 := car_succ a b k
        have hand : bits BinOp.and IntKind.i64 (car a b k + dig a k + dig b k) 65535 = dig (a + b) k := (and16i _ (by omega) (by omega)).trans e1
        have hlt := add_more (a := a) (b := b) (k := k) (by omega)
        have hshr : (car a b k + dig a k + dig b k) / 65536 = car a b (k + 1) := e2
        clear e1 e2 
        clear HA HB hga hgb
        go_wp2_with (at_builtin; refine wpList_append_own _ rfl _ _ 57 rfl w.heap.size 3 Try.t3 (.int .i64 0) 1 8 Try.underlying57 hi rfl rfl rfl rfl (by decide) _ _ _ rfl (hown.alloc _) ⟨wr.heap.size, 0, none⟩ 1 1 [.int .i64 (dig (a + b) k)] rfl rfl (cell_one_new _ _ _) ?c2 ?c3 ?c4 ?c5 ?_)
        case c2 => intro u hu; simp at hu; subst hu; rfl
        case c3 => unfold maxLen; omega
        case c4 => omega
        case c5 => have := hnx.size; simp; omega
        intro v' w1 hown' hgrow _
        obtain ⟨R1, R2⟩ := grow_rel hown hnx hnx.size hown' hgrow
        clear hown' hgrow hown hand
        go_wp2
        go_roundw
        case rel => exact ⟨k + 1, by omega, by go_num, rfl, R1, R2⟩
        case measure => simp [intOf]; omega
      · skip
        obtain ⟨g, rfl, hgB, hga⟩ := HA.out (by omega)
        have ca := (hnx.cell (p := ⟨g, k, none⟩) hgB).trans (hga k ta)
        have d1 := dig_nonneg a k
        have d2 := dig_lt a k
        have tb' : decide (k < nd b) = false := by simp; omega
        have zb := dig_high (n := b) (k := k) (by omega)
        have e1 := dig_add a b k
        have e2 := car_succ a b k
        rw [zb] at e1 e2
        simp only [Int.add_zero] at e1 e2
        have hand : bits BinOp.and IntKind.i64 (car a b k + dig a k) 65535 = dig (a + b) k := (and16i _ (by omega) (by omega)).trans e1
        have hlt := add_more (a := a) (b := b) (k := k) (by omega)
        have hshr : (car a b k + dig a k) / 65536 = car a b (k + 1) := e2
        clear e1 e2 zb
        clear HA HB hga
        go_wp2_with (at_builtin; refine wpList_append_own _ rfl _ _ 57 rfl w.heap.size 3 Try.t3 (.int .i64 0) 1 8 Try.underlying57 hi rfl rfl rfl rfl (by decide) _ _ _ rfl (hown.alloc _) ⟨wr.heap.size, 0, none⟩ 1 1 [.int .i64 (dig (a + b) k)] rfl rfl (cell_one_new _ _ _) ?c2 ?c3 ?c4 ?c5 ?_)
        case c2 => intro u hu; simp at hu; subst hu; rfl
        case c3 => unfold maxLen; omega
        case c4 => omega
        case c5 => have := hnx.size; simp; omega
        intro v' w1 hown' hgrow _
        obtain ⟨R1, R2⟩ := grow_rel hown hnx hnx.size hown' hgrow
        clear hown' hgrow hown hand
        go_wp2
        go_roundw
        case rel => exact ⟨k + 1, by omega, by go_num, rfl, R1, R2⟩
        case measure => simp [intOf]; omega
    · by_cases tb : k < nd b
      · skip
        have ta' : decide (k < nd a) = false := by simp; omega
        have za := dig_high (n := a) (k := k) (by omega)
        obtain ⟨g', rfl, hgB', hgb⟩ := HB.out (by omega)
        have cb := (hnx.cell (p := ⟨g', k, none⟩) hgB').trans (hgb k tb)
        have d3 := dig_nonneg b k
        have d4 := dig_lt b k
        have e1 := dig_add a b k
        have e2 := car_succ a b k
        rw [za] at e1 e2
        simp only [Int.add_zero] at e1 e2
        have hand : bits BinOp.and IntKind.i64 (car a b k + dig b k) 65535 = dig (a + b) k := (and16i _ (by omega) (by omega)).trans e1
        have hlt := add_more (a := a) (b := b) (k := k) (by omega)
        have hshr : (car a b k + dig b k) / 65536 = car a b (k + 1) := e2
        clear e1 e2 za
        clear HA HB hgb
        go_wp2_with (at_builtin; refine wpList_append_own _ rfl _ _ 57 rfl w.heap.size 3 Try.t3 (.int .i64 0) 1 8 Try.underlying57 hi rfl rfl rfl rfl (by decide) _ _ _ rfl (hown.alloc _) ⟨wr.heap.size, 0, none⟩ 1 1 [.int .i64 (dig (a + b) k)] rfl rfl (cell_one_new _ _ _) ?c2 ?c3 ?c4 ?c5 ?_)
        case c2 => intro u hu; simp at hu; subst hu; rfl
        case c3 => unfold maxLen; omega
        case c4 => omega
        case c5 => have := hnx.size; simp; omega
        intro v' w1 hown' hgrow _
        obtain ⟨R1, R2⟩ := grow_rel hown hnx hnx.size hown' hgrow
        clear hown' hgrow hown hand
        go_wp2
        go_roundw
        case rel => exact ⟨k + 1, by omega, by go_num, rfl, R1, R2⟩
        case measure => simp [intOf]; omega
      · by_cases tc : 0 < car a b k
        · skip
          have ta' : decide (k < nd a) = false := by simp; omega
          have za := dig_high (n := a) (k := k) (by omega)
          have tb' : decide (k < nd b) = false := by simp; omega
          have zb := dig_high (n := b) (k := k) (by omega)
          have tc' : decide (0 < car a b k) = true := by simpa using tc
          have e1 := dig_add a b k
          have e2 := car_succ a b k
          rw [za, zb] at e1 e2
          simp only [Int.add_zero] at e1 e2
          have hand : bits BinOp.and IntKind.i64 (car a b k) 65535 = dig (a + b) k := (and16i _ (by omega) (by omega)).trans e1
          have hlt := add_more (a := a) (b := b) (k := k) (by omega)
          have hshr : car a b k / 65536 = car a b (k + 1) := e2
          clear e1 e2 za zb
          clear HA HB
          go_wp2_with (at_builtin; refine wpList_append_own _ rfl _ _ 57 rfl w.heap.size 3 Try.t3 (.int .i64 0) 1 8 Try.underlying57 hi rfl rfl rfl rfl (by decide) _ _ _ rfl (hown.alloc _) ⟨wr.heap.size, 0, none⟩ 1 1 [.int .i64 (dig (a + b) k)] rfl rfl (cell_one_new _ _ _) ?c2 ?c3 ?c4 ?c5 ?_)
          case c2 => intro u hu; simp at hu; subst hu; rfl
          case c3 => unfold maxLen; omega
          case c4 => omega
          case c5 => have := hnx.size; simp; omega
          intro v' w1 hown' hgrow _
          obtain ⟨R1, R2⟩ := grow_rel hown hnx hnx.size hown' hgrow
          clear hown' hgrow hown hand
          go_wp2
          go_roundw
          case rel => exact ⟨k + 1, by omega, by go_num, rfl, R1, R2⟩
          case measure => simp [intOf]; omega
        · have he : car a b k = 0 := by omega
          have hend := add_end (a := a) (b := b) (k := k) (by omega) (by omega) he hk
          have ta' : decide (k < nd a) = false := by simp; omega
          have tb' : decide (k < nd b) = false := by simp; omega
          have tc' : decide (0 < car a b k) = false := by simp; omega
          have HEnd := Lib.hid hend
          clear HA HB he hend
          go_wp2
          go_ret
          exact ⟨_, rfl, by rw [← HEnd.out]; exact hown, hnx⟩

theorem fresh_of_own {w w' : World} {e : TypeId} {v : Value} {n : Nat} {xs : List Value} (h : w'.ownsRow w.heap.size e 1 v n xs) : Fresh w v := by
  intro b hb
  obtain ⟨_, h2⟩ := h
  rcases h2 with ⟨rfl, _⟩ | ⟨g, cap, cur, rfl, hg, _⟩
  · simp [Value.ownBlock] at hb
  · simp [Value.ownBlock] at hb; omega
theorem radd_new (u v : Value) (a b : Nat) (w : World) (hu : Big w u a) (hv : Big w v b) (ha : nd a ≤ 1048576) (hb : nd b ≤ 1048576) :
    Calls Try.prog 48 #[u, v] w fun e w' => ∃ r, e = .returned r ∧ Big w' r (a + b) ∧ Fresh w r ∧ Below w.heap.size w w' := by
  obtain ⟨A, c, rfl, h1, h2, h3, h4⟩ := hu
  obtain ⟨B, d, rfl, k1, k2, k3, k4⟩ := hv
  refine (radd_core A B a b c d w ha hb h4 k4).mono ?_
  rintro e w' ⟨r, rfl, ho, hw⟩
  exact ⟨r, rfl, raw_of_own ho (nd_lt _) (by have := nd_add a b 1048576 ha hb; omega), fresh_of_own ho, hw⟩
theorem radd_any (u v : Value) (a b : Nat) (w : World) (hu : Big w u a) (hv : Big w v b) (ha : nd a ≤ 1048576) (hb : nd b ≤ 1048576) :
    Calls Try.prog 48 #[u, v] w fun e w' => ∃ r, e = .returned r ∧ Big w' r (a + b) ∧ Below w.heap.size w w' := by
  exact (radd_new u v a b w hu hv ha hb).mono fun _ _ ⟨v, h1, h2, _, h3⟩ => ⟨v, h1, h2, h3⟩

end Go.Proofs.Ytlaapbenpjopiaa

namespace Go.Proofs.Ytlaapbenpjopiaa
open Go.RowKit

theorem mk_run (n : Nat) (hn : n ≤ 4294967296) (w : World) : (Instr.makeSlice 57 (.int .i64 (n : Int)) (.int .i64 (n : Int))).run Try.prog w = .ok (.slice (some ⟨w.heap.size, 0, none⟩) n n) (w.alloc (.cells (madeCells #[.int .i64 0] n) 3)) := by
  have hi : Try.prog.info? 3 = some Try.t3 := by kernel_rfl
  have h := run_make (P := Try.prog) w 57 3 Try.t3 (.int .i64 0) Try.underlying57 hi rfl .i64 .i64 n n (by omega) (Int.le_refl _) (by rw [show (Try.t3).bytes = 8 from rfl]; omega) (by omega)
  rw [h]
  simp only [Int.toNat_natCast, show (Try.t3).size = 1 from rfl, Nat.mul_one]
  rfl

set_option maxRecDepth 100000 in
set_option maxHeartbeats 2000000 in
theorem rsub_core (A B : Option Addr) (a b c d : Nat) (w : World) (ha : nd a ≤ 1048576) (hba : b ≤ a) (hA : At w A a) (hB : At w B b) :
    Calls Try.prog 46 #[.slice A (nd a) c, .slice B (nd b) d] w fun e w' => ∃ v, e = .returned v ∧ Big w' v (a - b) ∧ v.ownBlock = some w.heap.size ∧ Below w.heap.size w w' := by
  have mk := mk_run (nd a) (by omega)
  have HA := Lib.hid hA
  have HB := Lib.hid hB
  clear hA hB
  have hndb := nd_mono hba
  have hown0 : (w.alloc (.cells (madeCells #[.int .i64 0] (nd a)) 3)).ownsRow w.heap.size 3 1 (.slice (some ⟨w.heap.size, 0, none⟩) (nd a) (nd a)) (nd a) (rowOf (subF (a - b) 0) (nd a)) := by
    rw [← subF_zero, ← made_row]
    exact World.ownsRow_lit w _ (nd a) (Nat.le_refl _) (by unfold maxLen; omega) (by rw [size_madeCells, Nat.mul_one])
  have HO := Lib.hid hown0
  clear hown0
  go_enter Try.func46, Try.ntmps46
  go_wp2
  go_loopw [6, 7] (fun o i wr => ∃ k : Nat, k ≤ nd a ∧ i = .int .i64 k ∧ o = .int .i64 (bo a b k) ∧ wr.ownsRow w.heap.size 3 1 (.slice (some ⟨w.heap.size, 0, none⟩) (nd a) (nd a)) (nd a) (rowOf (subF (a - b) k) (nd a)) ∧ Below w.heap.size w wr) (fun _ i _ => nd a - (intOf i).toNat)
  case atStart => exact ⟨0, Nat.zero_le _, rfl, by rw [bo_zero], HO.out, (Below.refl _ _).alloc (Nat.le_refl _) _⟩
  case round =>
    obtain ⟨k, hk, rfl, rfl, hown, hnx⟩ := hrel
    by_cases ta : k < nd a
    · obtain ⟨g, rfl, hgB, hga⟩ := HA.out (by omega)
      have ca := (hnx.cell (p := ⟨g, k, none⟩) hgB).trans (hga k ta)
      have d1 := dig_nonneg a k
      have d2 := dig_lt a k
      obtain ⟨b1, b2⟩ := bo_bounds a b k
      have e1 := dig_sub a b k hba
      have e2 := bo_succ a b k
      have hcell := (hown.cellAt k (by omega)).trans (subF_get ta)
      have hfz := hown.frozenAt k
      have R := hown.stored k (.int .i64 (dig (a - b) k))
      rw [subF_set] at R
      obtain ⟨R1, _⟩ := R
      clear hown
      by_cases tb : k < nd b
      · by_cases hx : dig a k - bo a b k - dig b k < 0
        · skip
          obtain ⟨g', rfl, hgB', hgb⟩ := HB.out (by omega)
          have cb := (hnx.cell (p := ⟨g', k, none⟩) hgB').trans (hgb k tb)
          have d3 := dig_nonneg b k
          have d4 := dig_lt b k
          have hb1 : bo a b (k + 1) = 1 := by omega
          have hst : dig a k - bo a b k - dig b k + 65536 = dig (a - b) k := by omega
          have HST := Lib.hid hst
          have HB1 := Lib.hid hb1
          clear e1 e2 hst hb1 HA HB hga hgb
          go_wp2
          rw [HST.out]
          go_roundw
          case rel => exact ⟨k + 1, by omega, by go_num, by rw [HB1.out], R1, hnx.setCell (by exact Nat.le_refl _) _⟩
          case measure => simp [intOf]; omega
        · skip
          obtain ⟨g', rfl, hgB', hgb⟩ := HB.out (by omega)
          have cb := (hnx.cell (p := ⟨g', k, none⟩) hgB').trans (hgb k tb)
          have d3 := dig_nonneg b k
          have d4 := dig_lt b k
          have hb1 : bo a b (k + 1) = 0 := by omega
          have hst : dig a k - bo a b k - dig b k = dig (a - b) k := by omega
          have HST := Lib.hid hst
          have HB1 := Lib.hid hb1
          clear e1 e2 hst hb1 HA HB hga hgb
          go_wp2
          rw [HST.out]
          go_roundw
          case rel => exact ⟨k + 1, by omega, by go_num, by rw [HB1.out], R1, hnx.setCell (by exact Nat.le_refl _) _⟩
          case measure => simp [intOf]; omega
      · by_cases hx : dig a k - bo a b k - dig b k < 0
        · skip
          have tb' : decide (k < nd b) = false := by simp; omega
          have zb := dig_high (n := b) (k := k) (by omega)
          rw [zb, Int.sub_zero] at e1 e2 hx
          clear zb
          have hb1 : bo a b (k + 1) = 1 := by omega
          have hst : dig a k - bo a b k + 65536 = dig (a - b) k := by omega
          have HST := Lib.hid hst
          have HB1 := Lib.hid hb1
          clear e1 e2 hst hb1 HA HB hga
          go_wp2
          rw [HST.out]
          go_roundw
          case rel => exact ⟨k + 1, by omega, by go_num, by rw [HB1.out], R1, hnx.setCell (by exact Nat.le_refl _) _⟩
          case measure => simp [intOf]; omega
        · skip
          have tb' : decide (k < nd b) = false := by simp; omega
          have zb := dig_high (n := b) (k := k) (by omega)
          rw [zb, Int.sub_zero] at e1 e2 hx
          clear zb
          have hb1 : bo a b (k + 1) = 0 := by omega
          have hst : dig a k - bo a b k = dig (a - b) k := by omega
          have HST := Lib.hid hst
          have HB1 := Lib.hid hb1
          clear e1 e2 hst hb1 HA HB hga
          go_wp2
          rw [HST.out]
          go_roundw
          case rel => exact ⟨k + 1, by omega, by go_num, by rw [HB1.out], R1, hnx.setCell (by exact Nat.le_refl _) _⟩
          case measure => simp [intOf]; omega
    · obtain rfl : k = nd a := by omega
      have HR := Lib.hid (raw_of_own (by rw [← subF_all]; exact hown : wr.ownsRow w.heap.size 3 1 _ (nd a) (digs (a - b) (nd a))) (Nat.lt_of_le_of_lt (Nat.sub_le _ _) (nd_lt a)) (by omega))
      have tk : decide (nd a < nd a) = false := by simp
      clear HA HB hown
      go_wp2_with (go_at_call 45; refine (norm_own _ (a - b) (nd a) _ HR.out).mono ?_; rintro e w2 ⟨v, rfl, hbig, hown, rfl⟩)
      go_ret
      exact ⟨v, rfl, hbig, hown, hnx⟩

theorem rsub_any (u v : Value) (a b : Nat) (w : World) (hu : Big w u a) (hv : Big w v b) (ha : nd a ≤ 1048576) (hba : b ≤ a) :
    Calls Try.prog 46 #[u, v] w fun e w' => ∃ r, e = .returned r ∧ Big w' r (a - b) ∧ Below w.heap.size w w' := by
  obtain ⟨A, c, rfl, h1, h2, h3, h4⟩ := hu
  obtain ⟨B, d, rfl, k1, k2, k3, k4⟩ := hv
  exact (rsub_core A B a b c d w ha hba h4 k4).mono fun e w' h => by
    obtain ⟨r, h1, h2, _, h3⟩ := h
    exact ⟨r, h1, h2, h3⟩
/-- The same, and the result lies in a new block. -/
theorem rsub_new (u v : Value) (a b : Nat) (w : World) (hu : Big w u a) (hv : Big w v b) (ha : nd a ≤ 1048576) (hba : b ≤ a) :
    Calls Try.prog 46 #[u, v] w fun e w' => ∃ r, e = .returned r ∧ Big w' r (a - b) ∧ r.ownBlock = some w.heap.size ∧ Below w.heap.size w w' := by
  obtain ⟨A, c, rfl, h1, h2, h3, h4⟩ := hu
  obtain ⟨B, d, rfl, k1, k2, k3, k4⟩ := hv
  exact rsub_core A B a b c d w ha hba h4 k4

end Go.Proofs.Ytlaapbenpjopiaa

namespace Go.Proofs.Ytlaapbenpjopiaa
open Go.RowKit

set_option maxRecDepth 100000 in
set_option maxHeartbeats 2000000 in
theorem rmul_core (A B : Option Addr) (a b c d : Nat) (w : World) (ha : nd a ≤ 1048576) (hb : nd b ≤ 1048576) (hA : At w A a) (hB : At w B b) :
    Calls Try.prog 30 #[.slice A (nd a) c, .slice B (nd b) d] w fun e w' => ∃ v, e = .returned v ∧ Big w' v (a * b) ∧ Fresh w v ∧ Below w.heap.size w w' := by
  have mk := mk_run (nd a + nd b) (by omega)
  rw [Int.natCast_add] at mk
  have HA := Lib.hid hA
  have HB := Lib.hid hB
  clear hA hB
  have hown0 : (w.alloc (.cells (madeCells #[.int .i64 0] (nd a + nd b)) 3)).ownsRow w.heap.size 3 1 (.slice (some ⟨w.heap.size, 0, none⟩) (nd a + nd b) (nd a + nd b)) (nd a + nd b) (rowOf (dig (mulP a b 0)) (nd a + nd b)) := by
    rw [← mulP_zero, ← made_row]
    exact World.ownsRow_lit w _ (nd a + nd b) (Nat.le_refl _) (by unfold maxLen; omega) (by rw [size_madeCells, Nat.mul_one])
  have HO := Lib.hid hown0
  clear hown0
  go_enter Try.func30, Try.ntmps30
  go_wp2
  go_loopw [6] (fun i wr => ∃ k : Nat, k ≤ nd a ∧ i = .int .i64 k ∧ wr.ownsRow w.heap.size 3 1 (.slice (some ⟨w.heap.size, 0, none⟩) (nd a + nd b) (nd a + nd b)) (nd a + nd b) (rowOf (dig (mulP a b k)) (nd a + nd b)) ∧ Below w.heap.size w wr) (fun i _ => nd a - (intOf i).toNat)
  case atStart => exact ⟨0, Nat.zero_le _, rfl, HO.out, (Below.refl _ _).alloc (Nat.le_refl _) _⟩
  case round =>
    obtain ⟨i, hi, rfl, hown, hnx⟩ := hrel
    by_cases ta : i < nd a
    · obtain ⟨g, rfl, hgB, hga⟩ := HA.out (by omega)
      have HCA := Lib.hid (hga i ta)
      have HO1 := Lib.hid (by rw [mulF_zero a b i] at hown; exact hown)
      clear hown hga HA HO
      go_wp2
      go_loopw [7, 8] (fun o k wr => ∃ j : Nat, j ≤ nd b ∧ k = .int .i64 j ∧ o = .int .i64 (ovr a b i j) ∧ wr.ownsRow w.heap.size 3 1 (.slice (some ⟨w.heap.size, 0, none⟩) (nd a + nd b) (nd a + nd b)) (nd a + nd b) (rowOf (mulF a b i j) (nd a + nd b)) ∧ Below w.heap.size w wr) (fun _ k _ => nd b - (intOf k).toNat)
      case atStart => exact ⟨0, Nat.zero_le _, rfl, by rw [ovr_zero], HO1.out, hnx⟩
      case round =>
        clear hnx
        obtain ⟨j, hj, rfl, rfl, hown, hnx⟩ := hrel
        by_cases tb : j < nd b
        · obtain ⟨g', rfl, hgB', hgb⟩ := HB.out (by omega)
          have ca := (hnx.cell (p := ⟨g, i, none⟩) hgB).trans HCA.out
          have cb := (hnx.cell (p := ⟨g', j, none⟩) hgB').trans (hgb j tb)
          have co := (hown.cellAt (i + j) (by omega)).trans (rowOf_get (by omega))
          rw [mulF_at] at co
          have hfz := hown.frozenAt (i + j)
          have R := (hown.stored (i + j) (.int .i64 (dig (mulX a b i (j + 1)) (i + j)))).1
          rw [mulF_set] at R
          have d1 := dig_nonneg (mulP a b i) (i + j)
          have d2 := dig_lt (mulP a b i) (i + j)
          obtain ⟨o1, o2⟩ := ovr_bounds a b i j
          obtain ⟨p1, p2⟩ := prod_bounds a b i j
          have e1 := mul_dig a b i j
          have e2 := mul_ovr a b i j
          have hand : bits BinOp.and IntKind.i64 (ovr a b i j + dig (mulP a b i) (i + j) + dig a i * dig b j) 65535 = dig (mulX a b i (j + 1)) (i + j) := (and16i _ (by omega) (by omega)).trans e1
          have i1 : (0 : Int) ≤ (i : Int) + (j : Int) := by omega
          have i2 : (i : Int) + (j : Int) < ((nd a + nd b : Nat) : Int) := by omega
          have i3 : ((i : Int) + (j : Int)).toNat = i + j := by omega
          clear e1 hown hgb HB HCA HO1
          go_wp2
          go_quiet (fail)
          go_wp2
          go_roundw
          case rel => exact ⟨j + 1, by omega, by go_num, rfl, R, (belowN hnx).setCell (by exact Nat.le_refl _) _⟩
          case measure => simp [intOf]; omega
        · obtain rfl : j = nd b := by omega
          have tb' : decide (nd b < nd b) = false := by simp
          have co := (hown.cellAt (i + nd b) (by omega)).trans (rowOf_get (by omega))
          have hfz := hown.frozenAt (i + nd b)
          have R := (hown.stored (i + nd b) (.int .i64 (ovr a b i (nd b)))).1
          rw [mulF_end] at R
          have i1 : (0 : Int) ≤ (i : Int) + (nd b : Int) := by omega
          have i2 : (i : Int) + (nd b : Int) < ((nd a + nd b : Nat) : Int) := by omega
          have i3 : ((i : Int) + (nd b : Int)).toNat = i + nd b := by omega
          clear hown HB HCA HO1
          go_wp2
          go_roundw
          case rel => exact ⟨i + 1, by omega, by go_num, R, hnx.setCell (by exact Nat.le_refl _) _⟩
          case measure => simp [intOf]; omega
    · obtain rfl : i = nd a := by omega
      have HR := Lib.hid (raw_of_own (by rw [digs_row, ← mulP_all]; exact hown : wr.ownsRow w.heap.size 3 1 _ (nd a + nd b) (digs (a * b) (nd a + nd b))) (mul_fits a b) (by omega))
      have tk : decide (nd a < nd a) = false := by simp
      clear HA HB hown
      go_wp2_with (go_at_call 45; refine (norm_own _ (a * b) (nd a + nd b) _ HR.out).mono ?_; rintro e w2 ⟨v, rfl, hbig, ho, rfl⟩)
      go_ret
      exact ⟨v, rfl, hbig, fun b h => by rw [ho] at h; simp [Value.ownBlock] at h; omega, hnx⟩

theorem rmul_new (u v : Value) (a b : Nat) (w : World) (hu : Big w u a) (hv : Big w v b) (ha : nd a ≤ 1048576) (hb : nd b ≤ 1048576) :
    Calls Try.prog 30 #[u, v] w fun e w' => ∃ r, e = .returned r ∧ Big w' r (a * b) ∧ Fresh w r ∧ Below w.heap.size w w' := by
  obtain ⟨A, c, rfl, h1, h2, h3, h4⟩ := hu
  obtain ⟨B, d, rfl, k1, k2, k3, k4⟩ := hv
  exact rmul_core A B a b c d w ha hb h4 k4
theorem rmul_any (u v : Value) (a b : Nat) (w : World) (hu : Big w u a) (hv : Big w v b) (ha : nd a ≤ 1048576) (hb : nd b ≤ 1048576) :
    Calls Try.prog 30 #[u, v] w fun e w' => ∃ r, e = .returned r ∧ Big w' r (a * b) ∧ Below w.heap.size w w' := by
  exact (rmul_new u v a b w hu hv ha hb).mono fun _ _ ⟨v, h1, h2, _, h3⟩ => ⟨v, h1, h2, h3⟩

end Go.Proofs.Ytlaapbenpjopiaa

namespace Go.Proofs.Ytlaapbenpjopiaa
open Go.RowKit

theorem Res.set1 {g : Nat} {t : TypeId} {c : Array Value} {w : World} (h : Res g t c w) (i : Nat) (x : Value) : Res g t (c.setIfInBounds i x) (w.setCell ⟨g, i, none⟩ x) := by
  unfold Res at h ⊢
  simp [World.setCell, Array.getElem?_modify, h]
theorem Res.far1 {g g' : Nat} {t : TypeId} {c : Array Value} {w : World} (h : Res g t c w) (i : Nat) (x : Value) (hg : g ≠ g') : Res g t c (w.setCell ⟨g', i, none⟩ x) := by
  unfold Res at h ⊢
  rw [Below.heap_setCell _ _ _ _ hg]; exact h
theorem Res.drewN {g : Nat} {t : TypeId} {c : Array Value} {w : World} (h : Res g t c w) (n : Nat) : Res g t c (w.drewN n) := h
/-- A row of digits that lies in a block of its own. -/
theorem raw_of_res {w : World} {g n L : Nat} {t : TypeId} (h : Res g t (rowA (dig n) L) w) (hn : n < 65536 ^ L) (hL : L ≤ 4294967296) : Raw w (.slice (some ⟨g, 0, none⟩) L L) n L :=
  ⟨_, L, rfl, Nat.le_refl _, hL, hn, fun _ => ⟨g, rfl, h.lt, fun i hi => (h.cells i).trans (rowA_get hi)⟩⟩

/-- Two results that read as numbers. -/
def TwoBig (x y : Nat) (w : World) (e : Ending) (w' : World) : Prop := ∃ u v, e = .returned (.tuple #[u, v]) ∧ Big w' u x ∧ Big w' v y ∧ Below w.heap.size w w'
/-- The same, both in new memory. -/
def TwoBigN (x y : Nat) (w : World) (e : Ending) (w' : World) : Prop := ∃ u v, e = .returned (.tuple #[u, v]) ∧ Big w' u x ∧ Big w' v y ∧ Below w.heap.size w w' ∧ Fresh w u ∧ Fresh w v

set_option maxRecDepth 100000 in
set_option maxHeartbeats 2000000 in
theorem short_core (A : Option Addr) (n d c : Nat) (w : World) (hn : nd n ≤ 1048576) (hd : 0 < d) (hd' : d < 65536) (hA : At w A n) :
    Calls Try.prog 43 #[.slice A (nd n) c, .int .i64 d] w fun e w' => TwoBigN (n / d) (n % d) w e w' := by
  have mk := mk_run (nd n) (by omega)
  rw [made_rowA, quoF_top n d] at mk
  have HA := Lib.hid hA
  clear hA
  have hd0 : ((d : Int) == 0) = false := by simp; omega
  have hdp : (0 : Int) < (d : Int) := by omega
  have hdl : (d : Int) < 65536 := by omega
  have H0 := Lib.hid (lft_top (n := n) (d := d) (nd_lt n))
  go_enter Try.func43, Try.ntmps43
  go_wp2
  go_loopw [7, 8] (fun o i wr => ∃ k q : Nat, k ≤ nd n ∧ i = .int .i64 ((k : Int) - 1) ∧ o = .int .i64 (lft n d k) ∧ Res w.heap.size 3 (rowA (quoF n d k) (nd n)) wr ∧ Below w.heap.size w wr) (fun _ i _ => (intOf i + 1).toNat)
  case atStart => exact ⟨nd n, 0, Nat.le_refl _, rfl, by rw [H0.out], Res.new _ _ _, (Below.refl _ _).alloc (Nat.le_refl _) _⟩
  case round =>
    obtain ⟨k, q, hk, rfl, rfl, hr, hnx⟩ := hrel
    rcases k with _ | j
    · have HR := Lib.hid (raw_of_res (by rw [← quoF_zero]; exact hr : Res w.heap.size 3 (rowA (dig (n / d)) (nd n)) wr) (Nat.lt_of_le_of_lt (Nat.div_le_self _ _) (nd_lt n)) (by omega))
      have hm : n % d < 65536 := Nat.lt_trans (Nat.mod_lt _ hd) hd'
      have HL := Lib.hid (lft_zero n d)
      have H1 : Hid (∀ W : World, Raw (W.alloc (.cells #[.int .i64 (lft n d 0)] 3)) (.slice (some ⟨W.heap.size, 0, none⟩) 1 1) (n % d) 1) := fun W => by
        refine ⟨_, 1, rfl, by omega, by omega, hm, fun _ => ⟨W.heap.size, rfl, by simp, fun i hi => ?_⟩⟩
        obtain rfl : i = 0 := by omega
        rw [(Res.new W 3 #[.int .i64 (lft n d 0)]).cells 0, HL.out]
        show some (Value.int .i64 _) = _
        unfold dig
        rw [Nat.pow_zero, Nat.div_one, Nat.mod_eq_of_lt hm]
      clear HA hr HL
      go_wp2_with fail
      refine (norm_own _ (n / d) (nd n) _ HR.out).mono ?_
      rintro e w2 ⟨u, rfl, hu, ho1, rfl⟩
      have HO1 := Lib.hid ho1
      clear ho1
      go_wp2_with fail
      refine (norm_own _ (n % d) 1 _ (H1.out _)).mono ?_
      rintro e w3 ⟨v, rfl, hv, ho2, rfl⟩
      have HO2 := Lib.hid ho2
      clear ho2
      go_wp2
      go_ret2
      have hb : Below wr.heap.size wr (wr.alloc (.cells #[.int .i64 (lft n d 0)] 3)) := (Below.refl _ _).alloc (Nat.le_refl _) _
      have hsz := hnx.size
      exact ⟨u, v, rfl, hu.below hb, hv, hnx.alloc hnx.size _, fun b h => by rw [HO1.out] at h; simp [Value.ownBlock] at h; omega, fun b h => by rw [HO2.out] at h; simp [Value.ownBlock] at h; omega⟩
    · obtain ⟨g, rfl, hgB, hga⟩ := HA.out (by omega)
      have ca := (hnx.cell (p := ⟨g, j, none⟩) hgB).trans (hga j (by omega))
      have d1 := dig_nonneg n j
      have d2 := dig_lt n j
      obtain ⟨l1, l2⟩ := lft_bounds n d (j + 1) hd
      obtain ⟨s1, s2⟩ := short_step n d j hd
      have hi : ((j + 1 : Nat) : Int) - 1 = (j : Int) := by omega
      rw [hi]
      have i1 : (0 : Int) ≤ (j : Int) := by omega
      have i2 : (j : Int) < (nd n : Int) := by omega
      have co := (hr.cells j).trans (rowA_get (by omega))
      have hfz := hr.marks j
      have R := (hr.set1 j (.int .i64 (dig (n / d) j)))
      rw [quoF_set] at R
      clear hga HA hr
      go_wp2
      go_region
      go_wp2
      go_roundw
      case rel => exact ⟨j, 0, by omega, by go_num, by first | rfl | rw [s2], R.drew, (hnx.setCell (by exact Nat.le_refl _) _).drew⟩
      case measure => simp [intOf]

theorem short_any (u : Value) (n d : Nat) (w : World) (hu : Big w u n) (hn : nd n ≤ 1048576) (hd : 0 < d) (hd' : d < 65536) :
    Calls Try.prog 43 #[u, .int .i64 d] w fun e w' => TwoBigN (n / d) (n % d) w e w' := by
  obtain ⟨A, c, rfl, h1, h2, h3, h4⟩ := hu
  exact short_core A n d c w hn hd hd' h4

end Go.Proofs.Ytlaapbenpjopiaa

namespace Go.Proofs.Ytlaapbenpjopiaa
open Go.RowKit

theorem div_one (u v : Value) (n m : Nat) (w : World) (hu : Big w u n) (hv : Big w v m) (hn : nd n ≤ 1048576) (hm : nd m = 1) :
    Calls Try.prog 29 #[u, v] w fun e w' => TwoBigN (n / m) (n % m) w e w' := by
  obtain ⟨B, c, rfl, h1, h2, h3, h4⟩ := hv
  obtain ⟨g, rfl, hg, hc⟩ := h4 (by omega)
  have c0 := hc 0 (by omega)
  have hlt : m < 65536 := by rw [hm] at h3; simpa using h3
  have e0 : dig m 0 = (m : Int) := by unfold dig; rw [Nat.pow_zero, Nat.div_one, Nat.mod_eq_of_lt hlt]
  have hpos : 0 < m := by
    rcases Nat.eq_zero_or_pos m with h | h
    · subst h; rw [nd_zero] at hm; omega
    · exact h
  rw [e0] at c0
  rw [hm]
  have C := Lib.hid (fun w' (hu : Big w' u n) => short_any u n m w' hu hn hpos hlt)
  have HU := Lib.hid hu
  clear hu hc h4 h3 e0 hm hlt
  go_enter Try.func29, Try.ntmps29
  go_wp2_with fail
  refine (C.out _ HU.out).mono ?_
  rintro e w' ⟨x, y, rfl, hx, hy, hb, f1, f2⟩
  go_wp2
  go_ret2
  exact ⟨x, y, rfl, hx, hy, hb, f1, f2⟩

theorem bit_of (n j c : Nat) (hc : c < 16) : bits BinOp.and IntKind.i64 (dig n j / 2 ^ c) 1 = ((n / 2 ^ (16 * j + c) % 2 : Nat) : Int) := by
  have e1 : dig n j / 2 ^ c = ((n / 65536 ^ j % 65536 / 2 ^ c : Nat) : Int) := by
    unfold dig; rw [Int.natCast_ediv, Int.natCast_pow]; rfl
  rw [e1]
  have e2 : n / 65536 ^ j % 65536 / 2 ^ c < 65536 := Nat.lt_of_le_of_lt (Nat.div_le_self _ _) (Nat.mod_lt _ (by omega))
  have e4 : n / 2 ^ (16 * j + c) = n / 65536 ^ j / 2 ^ c := by rw [Nat.pow_add, ← pow_16, Nat.div_div_eq_div_mul]
  rw [e4]
  generalize n / 65536 ^ j = y at *
  have t1 := Nat.testBit_mod_two_pow y 16 c
  rw [Nat.testBit_eq_decide_div_mod_eq, Nat.testBit_eq_decide_div_mod_eq, decide_eq_true hc, Bool.true_and, show (2 : Nat) ^ 16 = 65536 from rfl] at t1
  have t2 : y % 65536 / 2 ^ c % 2 = y / 2 ^ c % 2 := by
    have t3 : (y % 65536 / 2 ^ c % 2 = 1) ↔ (y / 2 ^ c % 2 = 1) := by simpa using t1
    generalize y % 65536 / 2 ^ c = p at *
    generalize y / 2 ^ c = q at *
    omega
  rw [← t2]
  generalize y % 65536 / 2 ^ c = z at *
  have a1 : (BitVec.ofInt 64 (z : Int)).toNat = z := by
    rw [BitVec.ofInt_natCast, BitVec.toNat_ofNat]; exact Nat.mod_eq_of_lt (by omega)
  have a2 : (BitVec.ofInt 64 1).toNat = 1 := rfl
  show IntKind.i64.wrap ((BitVec.ofInt 64 (z : Int) &&& BitVec.ofInt 64 1).toNat : Int) = _
  rw [BitVec.toNat_and, a1, a2, Nat.and_one_is_mod, IntKind.wrap_i64]
  omega

theorem bit_store (Q j x : Nat) (hx : x < 16) : wrap64 (dig (Q * 2 ^ (16 * j + x + 1)) j + wrap64 (2 ^ x)) = dig (Q * 2 ^ (16 * j + x + 1) + 2 ^ (16 * j + x)) j := by
  have f1 := dig_bit_at Q j x hx
  have f2 := dig_nonneg (Q * 2 ^ (16 * j + x + 1)) j
  have f3 := dig_lt (Q * 2 ^ (16 * j + x + 1) + 2 ^ (16 * j + x)) j
  rw [f1] at f3 ⊢
  rw [show (2 : Int) ^ x = ((2 ^ x : Nat) : Int) from by rw [Int.natCast_pow]; rfl]
  generalize dig (Q * 2 ^ (16 * j + x + 1)) j = A1 at *
  generalize 2 ^ x = A2 at *
  unfold wrap64
  omega
theorem dig_zero_row (L : Nat) : rowA (dig 0) L = rowA (fun _ => 0) L := rowA_congr fun j _ => by unfold dig; simp

set_option maxRecDepth 100000 in
set_option maxHeartbeats 8000000 in
theorem div_core (A B : Option Addr) (n m c d : Nat) (w : World) (hn : nd n ≤ 1048576) (hm : nd m ≤ 1048575) (hm2 : 2 ≤ nd m) (hA : At w A n) (hB : Big w (.slice B (nd m) d) m) :
    Calls Try.prog 29 #[.slice A (nd n) c, .slice B (nd m) d] w fun e w' => TwoBigN (n / m) (n % m) w e w' := by
  have mk1 := mk_run (nd n) (by omega)
  have mk2 := mk_run (nd m + 1) (by omega)
  rw [made_rowA] at mk1 mk2
  rw [Int.natCast_add, show ((1 : Nat) : Int) = 1 from rfl] at mk2
  have HA := Lib.hid hA
  have HB := Lib.hid hB
  clear hA hB
  have hmp : 0 < m := by
    rcases Nat.eq_zero_or_pos m with h | h
    · subst h; rw [nd_zero] at hm2; omega
    · exact h
  have h1 : ((nd m : Int) == 1) = false := by simp; omega
  have top := rm_top (n := n) (m := m) (t := 16 * nd n) (by rw [← pow_16]; exact nd_lt n)
  have HT1 := Lib.hid top.1
  have HT2 := Lib.hid top.2
  clear top
  go_enter Try.func29, Try.ntmps29
  go_wp2
  go_loopw [8] (fun i wr => ∃ k : Nat, k ≤ nd n ∧ i = .int .i64 ((k : Int) - 1) ∧ Res w.heap.size 3 (rowA (dig (Vm n m (16 * k))) (nd n)) wr ∧ Res (w.heap.size + 1) 3 (rowA (dig (Rm n m (16 * k))) (nd m + 1)) wr ∧ Below w.heap.size w wr) (fun i _ => (intOf i + 1).toNat)
  case atStart =>
    refine ⟨nd n, Nat.le_refl _, rfl, ?_, ?_, ?_⟩
    · rw [HT2.out, dig_zero_row]
      exact (Res.new _ _ _).alloc _
    · rw [HT1.out, dig_zero_row]
      have := Res.new (w.alloc (.cells (rowA (fun _ => 0) (nd n)) 3)) 3 (rowA (fun _ => 0) (nd m + 1))
      rw [World.size_alloc] at this
      exact this
    · exact ((Below.refl _ _).alloc (Nat.le_refl _) _).alloc (by simp) _
  case round =>
    obtain ⟨k, hk, rfl, rq, rr, hnx⟩ := hrel
    rcases k with _ | j
    · rw [show 16 * 0 = 0 from rfl] at rq rr
      have E := rm_end n m
      rw [E.1] at rr
      rw [E.2] at rq
      have hlt := Nat.mod_lt n hmp
      have HQ := Lib.hid (raw_of_res rq (Nat.lt_of_le_of_lt (Nat.div_le_self _ _) (nd_lt n)) (by omega))
      have HR := Lib.hid (raw_of_res rr (by have := nd_lt m; rw [Nat.pow_succ]; omega) (by omega))
      clear rq rr E HA HB HT1 HT2
      go_wp2_with fail
      refine (norm_own _ (n / m) (nd n) _ HQ.out).mono ?_
      rintro e w2 ⟨u, rfl, hu, ho1, rfl⟩
      have HO1 := Lib.hid ho1
      clear ho1
      go_wp2_with fail
      refine (norm_own _ (n % m) (nd m + 1) _ HR.out).mono ?_
      rintro e w3 ⟨v, rfl, hv, ho2, rfl⟩
      have HO2 := Lib.hid ho2
      clear ho2
      go_wp2
      go_ret2
      exact ⟨u, v, rfl, hu, hv, hnx, fun b h => by rw [HO1.out] at h; simp [Value.ownBlock] at h; omega, fun b h => by rw [HO2.out] at h; simp [Value.ownBlock] at h; omega⟩
    · have hi : ((j + 1 : Nat) : Int) - 1 = (j : Int) := by omega
      rw [hi]
      obtain ⟨g, rfl, hgB, hga⟩ := HA.out (by omega)
      have HCA := Lib.hid (hga j (by omega))
      have Rq := Lib.hid rq
      have Rr := Lib.hid rr
      clear rq rr hga HA
      have i1 : (0 : Int) ≤ (j : Int) := by omega
      have i2 : (j : Int) < (nd n : Int) := by omega
      go_wp2
      go_loopw [9] (fun i wr => ∃ b : Nat, b ≤ 16 ∧ i = .int .i64 ((b : Int) - 1) ∧ Res w.heap.size 3 (rowA (dig (Vm n m (16 * j + b))) (nd n)) wr ∧ Res (w.heap.size + 1) 3 (rowA (dig (Rm n m (16 * j + b))) (nd m + 1)) wr ∧ Below w.heap.size w wr) (fun i _ => (intOf i + 1).toNat)
      case atStart => exact ⟨16, by omega, rfl, Rq.out, Rr.out, hnx⟩
      case round =>
        clear hnx Rq Rr
        obtain ⟨b, hb, rfl, rq, rr, hnx⟩ := hrel
        rcases b with _ | x
        · have Rq := Lib.hid rq
          have Rr := Lib.hid rr
          clear rq rr
          go_wp2
          go_roundw
          case rel => exact ⟨j, by omega, by go_num, Rq.out, Rr.out, hnx⟩
          case measure => simp [intOf]
        · have hi2 : ((x + 1 : Nat) : Int) - 1 = (x : Int) := by omega
          rw [hi2]
          have hx : x < 16 := by omega
          have hbit := bit_of n j x hx
          have ca := (hnx.cell (p := ⟨g, j, none⟩) hgB).trans HCA.out
          have hy : n / 2 ^ (16 * j + x) % 2 ≤ 1 := by omega
          have SM := Lib.hid (rm_small n m (16 * j + x) hmp)
          have LG := Lib.hid (rm_large n m (16 * j + x) hmp)
          have hRlt := rm_lt n m (16 * j + x + 1) hmp
          have HV : Hid (∃ Q, Vm n m (16 * j + x + 1) = Q * 2 ^ (16 * j + x + 1)) := ⟨_, rfl⟩
          rw [show 16 * j + (x + 1) = 16 * j + x + 1 from rfl] at rq rr
          generalize n / 2 ^ (16 * j + x) % 2 = y at *
          generalize hR : Rm n m (16 * j + x + 1) = R at *
          generalize hV : Vm n m (16 * j + x + 1) = V at *
          clear hR hV
          have hfit : 2 * R + y < 65536 ^ (nd m + 1) := by
            have := nd_lt m
            rw [Nat.pow_succ]; omega
          have HFit := Lib.hid hfit
          have Rq := Lib.hid rq
          have Rr := Lib.hid (by rw [dblF_zero R y] at rr; exact rr)
          have x1 : (0 : Int) ≤ (x : Int) := by omega
          have x2 : (x : Int) < 16 := by omega
          clear hfit rq rr hi hi2
          go_wp2
          go_loopw [10, 11] (fun o k wr => ∃ z : Nat, z ≤ nd m + 1 ∧ k = .int .i64 z ∧ o = .int .i64 (dbl R y z) ∧ Res (w.heap.size) 3 (rowA (dig V) (nd n)) wr ∧ Res (w.heap.size + 1) 3 (rowA (dblF R y z) (nd m + 1)) wr ∧ Below w.heap.size w wr) (fun _ k _ => nd m + 1 - (intOf k).toNat)
          case atStart => exact ⟨0, by omega, rfl, by rw [dbl_zero], Rq.out, Rr.out, hnx⟩
          case round =>
            clear hnx Rq Rr ca
            obtain ⟨z, hz, rfl, rfl, rq, rr, hnx⟩ := hrel
            by_cases tz : z < nd m + 1
            · have co := (rr.cells z).trans (rowA_get tz)
              rw [dblF_at] at co
              have hfz := rr.marks z
              have S := rr.set1 z (.int .i64 (dig (2 * R + y) z))
              rw [dblF_set] at S
              have S1 := Lib.hid S
              have S2 := Lib.hid (rq.far1 z (.int .i64 (dig (2 * R + y) z)) (by omega : w.heap.size ≠ w.heap.size + 1))
              have d1 := dig_nonneg R z
              have d2 := dig_lt R z
              obtain ⟨l1, l2⟩ := dbl_bounds R y z hy
              have e2 := dbl_succ R y z
              have hand : bits BinOp.and IntKind.i64 (dbl R y z + 2 * dig R z) 65535 = dig (2 * R + y) z := (and16i _ (by omega) (by omega)).trans (dbl_dig R y z)
              have z1 : (0 : Int) ≤ (z : Int) := by omega
              have z2 : (z : Int) < ((nd m + 1 : Nat) : Int) := by omega
              have s1 : 0 ≤ dbl R y z + 2 * dig R z := by omega
              have s2 : dbl R y z + 2 * dig R z < 200000 := by omega
              clear S rq rr hbit mk1 mk2 h1 x1 x2 hRlt hx
              generalize dig R z = D at *
              generalize dig (2 * R + y) z = E at *
              go_wp2
              go_roundw
              case rel => exact ⟨z + 1, by omega, by go_num, rfl, S2.out, S1.out, hnx.setCell (by exact Nat.le_succ _) _⟩
              case measure => simp [intOf]; omega
            · obtain rfl : z = nd m + 1 := by omega
              have tz' : decide (nd m + 1 < nd m + 1) = false := by simp
              rw [dblF_all] at rr
              have HR := Lib.hid (raw_of_res rr HFit.out (by omega))
              have HB1 := Lib.hid (HB.out.below hnx)
              have Rq := Lib.hid rq
              have Rr := Lib.hid rr
              clear rq rr
              go_wp2_with fail
              refine (norm_any _ (2 * R + y) (nd m + 1) _ HR.out).mono ?_
              rintro e w2 ⟨u, rfl, hu, rfl⟩
              go_wp2_with fail
              refine (rcmp_any _ _ (2 * R + y) m _ hu HB1.out).mono ?_
              rintro e w3 ⟨rfl, h3⟩
              have b3 := chain hnx h3
              have q3 := Lib.hid (Rq.out.keep h3)
              have r3 := Lib.hid (Rr.out.keep h3)
              have HB3 := Lib.hid (HB1.out.below h3)
              clear hu HR
              by_cases hge : m ≤ 2 * R + y
              · have hc : 0 ≤ cmpI (2 * R + y) m := by unfold cmpI; rw [if_neg (by omega)]; split <;> omega
                have HR3 := Lib.hid (raw_of_res r3.out HFit.out (by omega))
                have LG' := Lib.hid (LG.out hge)
                have hnd : nd (2 * R + y) ≤ 1048576 := by have := nd_le.2 HFit.out; omega
                go_wp2_with fail
                refine (norm_any _ (2 * R + y) (nd m + 1) _ HR3.out).mono ?_
                rintro e w4 ⟨u4, rfl, hu4, rfl⟩
                go_wp2_with fail
                refine (rsub_new _ _ (2 * R + y) m _ hu4 HB3.out hnd hge).mono ?_
                rintro e w5 ⟨dv, rfl, ⟨AD, cd, rfl, k1, k2, k3, k4⟩, hown, h5⟩
                have b5 := chain b3 h5
                have q5 := Lib.hid (q3.out.keep h5)
                have r5 := Lib.hid (r3.out.keep h5)
                have HD : Hid (∃ G, G ≠ w.heap.size + 1 ∧ (0 < nd (2 * R + y - m) → AD = some ⟨G, 0, none⟩ ∧ ∀ i, i < nd (2 * R + y - m) → w5.cell? ⟨G, i, none⟩ = some (.int .i64 (dig (2 * R + y - m) i)))) := by
                  rcases Nat.eq_zero_or_pos (nd (2 * R + y - m)) with h | h
                  · exact ⟨w.heap.size, by omega, fun h' => by omega⟩
                  · obtain ⟨G, hG, hlt, hc⟩ := k4 h
                    refine ⟨G, ?_, fun _ => ⟨hG, hc⟩⟩
                    subst hG
                    have e1 : G = w3.heap.size := Option.some.inj hown
                    have e2 := r3.out.lt
                    omega
                clear k4 k3 k2 k1 hu4 HR3 HB3 HB1 SM LG hown hnd hge hc h5 h3 q3 r3 b3 hnx HFit mk1 mk2 hRlt hbit h1
                generalize 2 * R + y - m = D at *
                generalize 2 * R + y = R2 at *
                obtain ⟨G, hG, hGD⟩ := HD.out
                clear HD
                have HGD := Lib.hid hGD
                clear hGD
                go_wp2_with fail
                go_loopw [13] (fun k wr => ∃ z : Nat, z ≤ nd m + 1 ∧ k = .int .i64 z ∧ Res (w.heap.size) 3 (rowA (dig V) (nd n)) wr ∧ Res (w.heap.size + 1) 3 (rowA (ovF D R2 z) (nd m + 1)) wr ∧ (0 < nd D → AD = some ⟨G, 0, none⟩ ∧ ∀ i, i < nd D → wr.cell? ⟨G, i, none⟩ = some (.int .i64 (dig D i))) ∧ Below w.heap.size w wr) (fun k _ => nd m + 1 - (intOf k).toNat)
                case atStart => exact ⟨0, by omega, rfl, q5.out, by rw [← ovF_zero]; exact r5.out, HGD.out, b5⟩
                case round =>
                  clear q5 r5 b5 HGD
                  obtain ⟨z, hz, rfl, rq, rr, hgd, hnx⟩ := hrel
                  by_cases tz : z < nd m + 1
                  · have co := (rr.cells z).trans (rowA_get tz)
                    have hfz := rr.marks z
                    have z1 : (0 : Int) ≤ (z : Int) := by omega
                    have z2 : (z : Int) < ((nd m + 1 : Nat) : Int) := by omega
                    have P1 := rr.set1 z (.int .i64 0)
                    have P2 := rq.far1 z (.int .i64 0) (by omega : w.heap.size ≠ w.heap.size + 1)
                    have b1 := hnx.setCell (p := ⟨w.heap.size + 1, z, none⟩) (by exact Nat.le_succ _) (.int .i64 0)
                    by_cases tD : z < nd D
                    · obtain ⟨rfl, hcs⟩ := hgd (by omega)
                      have c1 : (wr.setCell ⟨w.heap.size + 1, z, none⟩ (.int .i64 0)).cell? ⟨G, z, none⟩ = some (.int .i64 (dig D z)) := by
                        rw [World.cell?_setCell_far _ _ _ _ (by exact fun h => hG h.symm)]; exact hcs z tD
                      have co2 := (P1.cells z)
                      rw [Array.getElem?_setIfInBounds_self_of_lt (by rw [rowA_size]; exact tz)] at co2
                      have hfz2 := P1.marks z
                      have P3 := P1.set1 z (.int .i64 (dig D z))
                      rw [Array.setIfInBounds_setIfInBounds, ovF_set] at P3
                      have P4 := P2.far1 z (.int .i64 (dig D z)) (by omega : w.heap.size ≠ w.heap.size + 1)
                      have b2 := b1.setCell (p := ⟨w.heap.size + 1, z, none⟩) (by exact Nat.le_succ _) (.int .i64 (dig D z))
                      have HS : Hid (∀ i, i < nd D → ((wr.setCell ⟨w.heap.size + 1, z, none⟩ (.int .i64 0)).setCell ⟨w.heap.size + 1, z, none⟩ (.int .i64 (dig D z))).cell? ⟨G, i, none⟩ = some (.int .i64 (dig D i))) := fun i hi => by
                        rw [World.cell?_setCell_far _ _ _ _ (by exact fun h => hG h.symm), World.cell?_setCell_far _ _ _ _ (by exact fun h => hG h.symm)]; exact hcs i hi
                      have HP3 := Lib.hid P3
                      have HP4 := Lib.hid P4
                      have HBB := Lib.hid b2
                      clear P1 P2 P3 P4 b1 b2 rq rr hgd hcs
                      generalize dig D z = E at *
                      go_wp2
                      go_roundw
                      case rel => exact ⟨z + 1, by omega, by go_num, HP4.out, HP3.out, fun _ => ⟨by first | rfl | trivial, HS.out⟩, HBB.out⟩
                      case measure => simp [intOf]; omega
                    · have tD' : decide (z < nd D) = false := by simp; omega
                      have e0 := dig_high (n := D) (k := z) (by omega)
                      have P3 := rr.set1 z (.int .i64 (dig D z))
                      rw [ovF_set, e0] at P3
                      have HS : Hid (0 < nd D → AD = some ⟨G, 0, none⟩ ∧ ∀ i, i < nd D → (wr.setCell ⟨w.heap.size + 1, z, none⟩ (.int .i64 0)).cell? ⟨G, i, none⟩ = some (.int .i64 (dig D i))) := fun h0 => ⟨(hgd h0).1, fun i hi => by
                        rw [World.cell?_setCell_far _ _ _ _ (by exact fun h => hG h.symm)]; exact (hgd h0).2 i hi⟩
                      have HP3 := Lib.hid P3
                      have HP4 := Lib.hid P2
                      have HBB := Lib.hid b1
                      clear P1 P2 P3 b1 rq rr hgd e0
                      go_wp2
                      go_roundw
                      case rel => exact ⟨z + 1, by omega, by go_num, HP4.out, HP3.out, HS.out, HBB.out⟩
                      case measure => simp [intOf]; omega
                  · obtain rfl : z = nd m + 1 := by omega
                    have tz' : decide (nd m + 1 < nd m + 1) = false := by simp
                    rw [ovF_all] at rr
                    obtain ⟨Q, rfl⟩ := HV.out
                    have cq := (rq.cells j).trans (rowA_get (by omega))
                    have hfq := rq.marks j
                    have Rr := Lib.hid rr
                    have Rq := Lib.hid rq
                    clear rq rr hgd HV
                    have hst := bit_store Q j x hx
                    have HST := Lib.hid hst
                    have P := Rq.out.set1 j (.int .i64 (dig (Q * 2 ^ (16 * j + x + 1) + 2 ^ (16 * j + x)) j))
                    rw [rowA_set (g := dig (Q * 2 ^ (16 * j + x + 1) + 2 ^ (16 * j + x))) rfl (fun i _ hi => dig_bit_other Q j x i hx hi)] at P
                    have HP := Lib.hid P
                    have HP2 := Lib.hid (Rr.out.far1 j (.int .i64 (dig (Q * 2 ^ (16 * j + x + 1) + 2 ^ (16 * j + x)) j)) (by omega : w.heap.size + 1 ≠ w.heap.size))
                    clear hst P
                    go_wp2
                    go_roundw
                    case rel =>
                      rw [HST.out]
                      exact ⟨x, by omega, by go_num, by rw [LG'.out.2]; exact HP.out, by rw [LG'.out.1]; exact HP2.out, hnx.setCell (by exact Nat.le_refl _) _⟩
                    case measure => simp [intOf]
              · have hc : ¬ 0 ≤ cmpI (2 * R + y) m := by unfold cmpI; rw [if_pos (by omega)]; omega
                have SM' := Lib.hid (SM.out (by omega))
                clear SM LG HB1 HB3 hge
                go_wp2
                go_roundw
                case rel => exact ⟨x, by omega, by go_num, by rw [SM'.out.2]; exact q3.out, by rw [SM'.out.1]; exact r3.out, b3⟩
                case measure => simp [intOf]

theorem div_new (u v : Value) (n m : Nat) (w : World) (hu : Big w u n) (hv : Big w v m) (hn : nd n ≤ 1048576) (hm : nd m ≤ 1048575) (h0 : 0 < m) :
    Calls Try.prog 29 #[u, v] w fun e w' => TwoBigN (n / m) (n % m) w e w' := by
  by_cases h1 : nd m = 1
  · exact div_one u v n m w hu hv hn h1
  · have h2 : 2 ≤ nd m := by
      have : nd m ≠ 0 := fun h => by
        have := nd_lt m
        rw [h] at this
        omega
      omega
    obtain ⟨A, c, rfl, a1, a2, a3, a4⟩ := hu
    have hv' := hv
    obtain ⟨B, d, rfl, b1, b2, b3, b4⟩ := hv
    exact div_core A B n m c d w hn hm h2 a4 hv'
theorem div_any (u v : Value) (n m : Nat) (w : World) (hu : Big w u n) (hv : Big w v m) (hn : nd n ≤ 1048576) (hm : nd m ≤ 1048575) (h0 : 0 < m) :
    Calls Try.prog 29 #[u, v] w fun e w' => TwoBig (n / m) (n % m) w e w' :=
  (div_new u v n m w hu hv hn hm h0).mono fun _ _ ⟨x, y, h, hx, hy, hb, _, _⟩ => ⟨x, y, h, hx, hy, hb⟩
end Go.Proofs.Ytlaapbenpjopiaa

namespace Go.Proofs.Ytlaapbenpjopiaa
open Go.RowKit

/-- A number of one word. -/
theorem U_word (n : Nat) (hn : n < 18446744073709551616) : U n = .agg #[.int .u64 n, .int .u64 0, .int .u64 0, .int .u64 0] := by
  obtain ⟨y0, y1, y2, y3⟩ := limb_of (n := n) (x0 := n) (x1 := 0) (x2 := 0) (x3 := 0) (by omega) (by omega) (by omega) (by omega) (by omega) (by omega) (by omega) (by omega) (by omega)
  rw [U, ← y0, ← y1, ← y2, ← y3]


theorem rfrom64_new (n : Nat) (hn : n < 18446744073709551616) (w : World) :
    Calls Try.prog 31 #[.int .u64 n] w fun e w' => ∃ v, e = .returned v ∧ Big w' v n ∧ Fresh w v ∧ Below w.heap.size w w' := by
  have x3 := U_word n hn
  have C := Lib.hid (fun w => from_new n (Nat.lt_trans hn (by decide)) w)
  rw [x3] at C
  go_enter Try.func31, Try.ntmps31
  go_wp2_with fail
  refine (C.out _).mono ?_
  rintro e w1 ⟨v, rfl, hv, hf, h1⟩
  go_wp2
  go_ret
  exact ⟨v, rfl, hv, hf, h1⟩
theorem rfrom64_any (n : Nat) (hn : n < 18446744073709551616) (w : World) :
    Calls Try.prog 31 #[.int .u64 n] w fun e w' => ∃ v, e = .returned v ∧ Big w' v n ∧ Below w.heap.size w w' :=
  (rfrom64_new n hn w).mono fun _ _ ⟨v, h1, h2, _, h3⟩ => ⟨v, h1, h2, h3⟩
end Go.Proofs.Ytlaapbenpjopiaa

