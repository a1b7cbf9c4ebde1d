/- Plain arithmetic of digits in base 65536, and when a slice of ints reads as a number. No Go function in this text; no conditions. -/
import Derived.Test.YtkionnggdncncaaDoorNum
import Derived.Handy
import Derived.Laws.Bits64b
namespace Go.Proofs.YtkionnggdncncaaDoor
open Go.RowKit

/-- Digit i of n in base 65536. -/
def dig (n i : Nat) : Int := ((n / 65536 ^ i % 65536 : Nat) : Int)
/-- The number of digits of n in base 65536. -/
def nd (n : Nat) : Nat := (blen n + 15) / 16

theorem dig_nonneg (n i : Nat) : 0 ≤ dig n i := by unfold dig; omega
theorem dig_lt (n i : Nat) : dig n i < 65536 := by unfold dig; omega
theorem pow_16 (k : Nat) : 65536 ^ k = 2 ^ (16 * k) := by rw [show (65536 : Nat) = 2 ^ 16 from rfl, ← Nat.pow_mul]

theorem nd_le {n k : Nat} : nd n ≤ k ↔ n < 65536 ^ k := by
  rw [pow_16]
  constructor
  · intro h
    unfold nd at h
    exact Nat.lt_of_lt_of_le (blen_lt n) (Nat.pow_le_pow_right (by omega) (by omega))
  · intro h
    have := blen_le_of h
    unfold nd; omega
theorem nd_lt (n : Nat) : n < 65536 ^ nd n := nd_le.1 (Nat.le_refl _)
theorem nd_zero : nd 0 = 0 := rfl
/-- The top digit is not zero. -/
theorem nd_top {n k : Nat} (h : n < 65536 ^ (k + 1)) (hd : dig n k ≠ 0) : nd n = k + 1 := by
  have h1 := nd_le.2 h
  have h2 : ¬ nd n ≤ k := fun h3 => hd (by
    have h4 := nd_le.1 h3
    unfold dig; rw [Nat.div_eq_of_lt h4]; rfl)
  omega
theorem nd_drop {n k : Nat} (h : n < 65536 ^ (k + 1)) (hd : dig n k = 0) : n < 65536 ^ k := by
  unfold dig at hd
  rw [Nat.pow_succ] at h
  have h1 : n / 65536 ^ k < 65536 := Nat.div_lt_of_lt_mul h
  have h2 : n / 65536 ^ k = 0 := by generalize n / 65536 ^ k = q at *; omega
  rcases Nat.div_eq_zero_iff.1 h2 with h3 | h3
  · exact absurd h3 (Nat.ne_of_gt (Nat.pow_pos (by omega)))
  · exact h3
theorem nd_16 {n : Nat} : nd n ≤ 16 ↔ n < B256 := by rw [nd_le]; exact Iff.rfl

theorem lt_of_nd {a b : Nat} (h : nd a < nd b) : a < b := by
  have h1 := nd_lt a
  have h2 : ¬ b < 65536 ^ nd a := fun h3 => by have := nd_le.2 h3; omega
  omega
/-- Above place k the two are the same; the digits at k decide. -/
theorem div_step (a k : Nat) : (a / 65536 ^ k : Nat) = a / 65536 ^ (k + 1) * 65536 + (dig a k).toNat := by
  unfold dig
  rw [Nat.pow_succ, ← Nat.div_div_eq_div_mul]
  generalize a / 65536 ^ k = q
  omega
theorem lt_of_dig {a b k : Nat} (h : a / 65536 ^ (k + 1) = b / 65536 ^ (k + 1)) (hd : dig a k < dig b k) : a < b := by
  have h1 := div_step a k
  have h2 := div_step b k
  have h3 := dig_nonneg a k
  rw [h] at h1
  have h4 : a / 65536 ^ k < b / 65536 ^ k := by omega
  rcases Nat.lt_or_ge a b with h5 | h5
  · exact h5
  · have := Nat.div_le_div_right (c := 65536 ^ k) h5; omega
theorem eq_of_dig {a b k : Nat} (h : a / 65536 ^ (k + 1) = b / 65536 ^ (k + 1)) (hd : dig a k = dig b k) : a / 65536 ^ k = b / 65536 ^ k := by
  rw [div_step a k, div_step b k, h, hd]

/-! ### Digits of a number out of its words -/
theorem and16 (x : Int) (h0 : 0 ≤ x) (h1 : x < 18446744073709551616) : wrap64 (bits BinOp.and IntKind.u64 x 65535) = x % 65536 := by
  obtain ⟨n, rfl⟩ := Int.eq_ofNat_of_zero_le h0
  have h := bits_and_u64_nat n 65535 (by omega) (by omega)
  have e : n &&& 65535 = n % 65536 := Nat.and_two_pow_sub_one_eq_mod n 16
  rw [e] at h
  rw [show bits BinOp.and IntKind.u64 (n : Int) 65535 = ((n % 65536 : Nat) : Int) from h]
  simp only [wrap64]; omega
theorem word0 (a : Nat) : wrap64 (bits BinOp.and IntKind.u64 (limb a 0) 65535) = dig a 0 := by
  have h0 := limb_nonneg a 0
  have h1 := limb_lt a 0
  rw [and16 _ (by omega) (by omega)]
  rw [limb0, dig, show (65536 : Nat) ^ 0 = 1 from rfl]
  omega
theorem word1 (a : Nat) : wrap64 (bits BinOp.and IntKind.u64 (limb a 0 / 65536) 65535) = dig a 1 := by
  have h0 := limb_nonneg a 0
  have h1 := limb_lt a 0
  rw [and16 _ (by omega) (by omega)]
  rw [limb0, dig, show (65536 : Nat) ^ 1 = 65536 from rfl]
  omega
theorem word2 (a : Nat) : wrap64 (bits BinOp.and IntKind.u64 (limb a 0 / 4294967296) 65535) = dig a 2 := by
  have h0 := limb_nonneg a 0
  have h1 := limb_lt a 0
  rw [and16 _ (by omega) (by omega)]
  rw [limb0, dig, show (65536 : Nat) ^ 2 = 4294967296 from rfl]
  omega
theorem word3 (a : Nat) : wrap64 (bits BinOp.and IntKind.u64 (limb a 0 / 281474976710656) 65535) = dig a 3 := by
  have h0 := limb_nonneg a 0
  have h1 := limb_lt a 0
  rw [and16 _ (by omega) (by omega)]
  rw [limb0, dig, show (65536 : Nat) ^ 3 = 281474976710656 from rfl]
  omega
theorem word4 (a : Nat) : wrap64 (bits BinOp.and IntKind.u64 (limb a 1) 65535) = dig a 4 := by
  have h0 := limb_nonneg a 1
  have h1 := limb_lt a 1
  rw [and16 _ (by omega) (by omega)]
  rw [limb1, dig, show (65536 : Nat) ^ 4 = 18446744073709551616 from rfl]
  omega
theorem word5 (a : Nat) : wrap64 (bits BinOp.and IntKind.u64 (limb a 1 / 65536) 65535) = dig a 5 := by
  have h0 := limb_nonneg a 1
  have h1 := limb_lt a 1
  rw [and16 _ (by omega) (by omega)]
  rw [limb1, dig, show (65536 : Nat) ^ 5 = 1208925819614629174706176 from rfl]
  omega
theorem word6 (a : Nat) : wrap64 (bits BinOp.and IntKind.u64 (limb a 1 / 4294967296) 65535) = dig a 6 := by
  have h0 := limb_nonneg a 1
  have h1 := limb_lt a 1
  rw [and16 _ (by omega) (by omega)]
  rw [limb1, dig, show (65536 : Nat) ^ 6 = 79228162514264337593543950336 from rfl]
  omega
theorem word7 (a : Nat) : wrap64 (bits BinOp.and IntKind.u64 (limb a 1 / 281474976710656) 65535) = dig a 7 := by
  have h0 := limb_nonneg a 1
  have h1 := limb_lt a 1
  rw [and16 _ (by omega) (by omega)]
  rw [limb1, dig, show (65536 : Nat) ^ 7 = 5192296858534827628530496329220096 from rfl]
  omega
theorem word8 (a : Nat) : wrap64 (bits BinOp.and IntKind.u64 (limb a 2) 65535) = dig a 8 := by
  have h0 := limb_nonneg a 2
  have h1 := limb_lt a 2
  rw [and16 _ (by omega) (by omega)]
  rw [limb2, dig, show (65536 : Nat) ^ 8 = 340282366920938463463374607431768211456 from rfl]
  omega
theorem word9 (a : Nat) : wrap64 (bits BinOp.and IntKind.u64 (limb a 2 / 65536) 65535) = dig a 9 := by
  have h0 := limb_nonneg a 2
  have h1 := limb_lt a 2
  rw [and16 _ (by omega) (by omega)]
  rw [limb2, dig, show (65536 : Nat) ^ 9 = 22300745198530623141535718272648361505980416 from rfl]
  omega
theorem word10 (a : Nat) : wrap64 (bits BinOp.and IntKind.u64 (limb a 2 / 4294967296) 65535) = dig a 10 := by
  have h0 := limb_nonneg a 2
  have h1 := limb_lt a 2
  rw [and16 _ (by omega) (by omega)]
  rw [limb2, dig, show (65536 : Nat) ^ 10 = 1461501637330902918203684832716283019655932542976 from rfl]
  omega
theorem word11 (a : Nat) : wrap64 (bits BinOp.and IntKind.u64 (limb a 2 / 281474976710656) 65535) = dig a 11 := by
  have h0 := limb_nonneg a 2
  have h1 := limb_lt a 2
  rw [and16 _ (by omega) (by omega)]
  rw [limb2, dig, show (65536 : Nat) ^ 11 = 95780971304118053647396689196894323976171195136475136 from rfl]
  omega
theorem word12 (a : Nat) : wrap64 (bits BinOp.and IntKind.u64 (limb a 3) 65535) = dig a 12 := by
  have h0 := limb_nonneg a 3
  have h1 := limb_lt a 3
  rw [and16 _ (by omega) (by omega)]
  rw [limb3, dig, show (65536 : Nat) ^ 12 = 6277101735386680763835789423207666416102355444464034512896 from rfl]
  omega
theorem word13 (a : Nat) : wrap64 (bits BinOp.and IntKind.u64 (limb a 3 / 65536) 65535) = dig a 13 := by
  have h0 := limb_nonneg a 3
  have h1 := limb_lt a 3
  rw [and16 _ (by omega) (by omega)]
  rw [limb3, dig, show (65536 : Nat) ^ 13 = 411376139330301510538742295639337626245683966408394965837152256 from rfl]
  omega
theorem word14 (a : Nat) : wrap64 (bits BinOp.and IntKind.u64 (limb a 3 / 4294967296) 65535) = dig a 14 := by
  have h0 := limb_nonneg a 3
  have h1 := limb_lt a 3
  rw [and16 _ (by omega) (by omega)]
  rw [limb3, dig, show (65536 : Nat) ^ 14 = 26959946667150639794667015087019630673637144422540572481103610249216 from rfl]
  omega
theorem word15 (a : Nat) : wrap64 (bits BinOp.and IntKind.u64 (limb a 3 / 281474976710656) 65535) = dig a 15 := by
  have h0 := limb_nonneg a 3
  have h1 := limb_lt a 3
  rw [and16 _ (by omega) (by omega)]
  rw [limb3, dig, show (65536 : Nat) ^ 15 = 1766847064778384329583297500742918515827483896875618958121606201292619776 from rfl]
  omega

/-! ### Words of a number out of its digits -/
/-- The number that the lowest k digits make. -/
def lowp (n k : Nat) : Nat := n % 65536 ^ k
theorem lowp_zero (n : Nat) : lowp n 0 = 0 := Nat.mod_one n
theorem lowp_all {n k : Nat} (h : n < 65536 ^ k) : lowp n k = n := Nat.mod_eq_of_lt h
theorem put0 (n : Nat) : IntKind.u64.wrap (limb (lowp n 0) 0 + IntKind.u64.wrap (IntKind.u64.wrap (dig n 0))) = limb (lowp n 1) 0 := by
  simp only [IntKind.wrap_u64]
  rw [limb0, limb0, dig, lowp, lowp, show (65536 : Nat) ^ 0 = 1 from rfl, show (65536 : Nat) ^ 1 = 65536 from rfl]
  omega
theorem keep0 (n : Nat) : limb (lowp n 1) 1 = limb (lowp n 0) 1 ∧ limb (lowp n 1) 2 = limb (lowp n 0) 2 ∧ limb (lowp n 1) 3 = limb (lowp n 0) 3 := by
  rw [limb1, limb1, limb2, limb2, limb3, limb3, lowp, lowp, show (65536 : Nat) ^ 0 = 1 from rfl, show (65536 : Nat) ^ 1 = 65536 from rfl]
  omega
theorem put1 (n : Nat) : IntKind.u64.wrap (limb (lowp n 1) 0 + IntKind.u64.wrap (IntKind.u64.wrap (dig n 1) * 65536)) = limb (lowp n 2) 0 := by
  simp only [IntKind.wrap_u64]
  rw [limb0, limb0, dig, lowp, lowp, show (65536 : Nat) ^ 1 = 65536 from rfl, show (65536 : Nat) ^ 2 = 4294967296 from rfl]
  omega
theorem keep1 (n : Nat) : limb (lowp n 2) 1 = limb (lowp n 1) 1 ∧ limb (lowp n 2) 2 = limb (lowp n 1) 2 ∧ limb (lowp n 2) 3 = limb (lowp n 1) 3 := by
  rw [limb1, limb1, limb2, limb2, limb3, limb3, lowp, lowp, show (65536 : Nat) ^ 1 = 65536 from rfl, show (65536 : Nat) ^ 2 = 4294967296 from rfl]
  omega
theorem put2 (n : Nat) : IntKind.u64.wrap (limb (lowp n 2) 0 + IntKind.u64.wrap (IntKind.u64.wrap (dig n 2) * 4294967296)) = limb (lowp n 3) 0 := by
  simp only [IntKind.wrap_u64]
  rw [limb0, limb0, dig, lowp, lowp, show (65536 : Nat) ^ 2 = 4294967296 from rfl, show (65536 : Nat) ^ 3 = 281474976710656 from rfl]
  omega
theorem keep2 (n : Nat) : limb (lowp n 3) 1 = limb (lowp n 2) 1 ∧ limb (lowp n 3) 2 = limb (lowp n 2) 2 ∧ limb (lowp n 3) 3 = limb (lowp n 2) 3 := by
  rw [limb1, limb1, limb2, limb2, limb3, limb3, lowp, lowp, show (65536 : Nat) ^ 2 = 4294967296 from rfl, show (65536 : Nat) ^ 3 = 281474976710656 from rfl]
  omega
theorem put3 (n : Nat) : IntKind.u64.wrap (limb (lowp n 3) 0 + IntKind.u64.wrap (IntKind.u64.wrap (dig n 3) * 281474976710656)) = limb (lowp n 4) 0 := by
  simp only [IntKind.wrap_u64]
  rw [limb0, limb0, dig, lowp, lowp, show (65536 : Nat) ^ 3 = 281474976710656 from rfl, show (65536 : Nat) ^ 4 = 18446744073709551616 from rfl]
  omega
theorem keep3 (n : Nat) : limb (lowp n 4) 1 = limb (lowp n 3) 1 ∧ limb (lowp n 4) 2 = limb (lowp n 3) 2 ∧ limb (lowp n 4) 3 = limb (lowp n 3) 3 := by
  rw [limb1, limb1, limb2, limb2, limb3, limb3, lowp, lowp, show (65536 : Nat) ^ 3 = 281474976710656 from rfl, show (65536 : Nat) ^ 4 = 18446744073709551616 from rfl]
  omega
theorem put4 (n : Nat) : IntKind.u64.wrap (limb (lowp n 4) 1 + IntKind.u64.wrap (IntKind.u64.wrap (dig n 4))) = limb (lowp n 5) 1 := by
  simp only [IntKind.wrap_u64]
  rw [limb1, limb1, dig, lowp, lowp, show (65536 : Nat) ^ 4 = 18446744073709551616 from rfl, show (65536 : Nat) ^ 5 = 1208925819614629174706176 from rfl]
  omega
theorem keep4 (n : Nat) : limb (lowp n 5) 0 = limb (lowp n 4) 0 ∧ limb (lowp n 5) 2 = limb (lowp n 4) 2 ∧ limb (lowp n 5) 3 = limb (lowp n 4) 3 := by
  rw [limb0, limb0, limb2, limb2, limb3, limb3, lowp, lowp, show (65536 : Nat) ^ 4 = 18446744073709551616 from rfl, show (65536 : Nat) ^ 5 = 1208925819614629174706176 from rfl]
  omega
theorem put5 (n : Nat) : IntKind.u64.wrap (limb (lowp n 5) 1 + IntKind.u64.wrap (IntKind.u64.wrap (dig n 5) * 65536)) = limb (lowp n 6) 1 := by
  simp only [IntKind.wrap_u64]
  rw [limb1, limb1, dig, lowp, lowp, show (65536 : Nat) ^ 5 = 1208925819614629174706176 from rfl, show (65536 : Nat) ^ 6 = 79228162514264337593543950336 from rfl]
  omega
theorem keep5 (n : Nat) : limb (lowp n 6) 0 = limb (lowp n 5) 0 ∧ limb (lowp n 6) 2 = limb (lowp n 5) 2 ∧ limb (lowp n 6) 3 = limb (lowp n 5) 3 := by
  rw [limb0, limb0, limb2, limb2, limb3, limb3, lowp, lowp, show (65536 : Nat) ^ 5 = 1208925819614629174706176 from rfl, show (65536 : Nat) ^ 6 = 79228162514264337593543950336 from rfl]
  omega
theorem put6 (n : Nat) : IntKind.u64.wrap (limb (lowp n 6) 1 + IntKind.u64.wrap (IntKind.u64.wrap (dig n 6) * 4294967296)) = limb (lowp n 7) 1 := by
  simp only [IntKind.wrap_u64]
  rw [limb1, limb1, dig, lowp, lowp, show (65536 : Nat) ^ 6 = 79228162514264337593543950336 from rfl, show (65536 : Nat) ^ 7 = 5192296858534827628530496329220096 from rfl]
  omega
theorem keep6 (n : Nat) : limb (lowp n 7) 0 = limb (lowp n 6) 0 ∧ limb (lowp n 7) 2 = limb (lowp n 6) 2 ∧ limb (lowp n 7) 3 = limb (lowp n 6) 3 := by
  rw [limb0, limb0, limb2, limb2, limb3, limb3, lowp, lowp, show (65536 : Nat) ^ 6 = 79228162514264337593543950336 from rfl, show (65536 : Nat) ^ 7 = 5192296858534827628530496329220096 from rfl]
  omega
theorem put7 (n : Nat) : IntKind.u64.wrap (limb (lowp n 7) 1 + IntKind.u64.wrap (IntKind.u64.wrap (dig n 7) * 281474976710656)) = limb (lowp n 8) 1 := by
  simp only [IntKind.wrap_u64]
  rw [limb1, limb1, dig, lowp, lowp, show (65536 : Nat) ^ 7 = 5192296858534827628530496329220096 from rfl, show (65536 : Nat) ^ 8 = 340282366920938463463374607431768211456 from rfl]
  omega
theorem keep7 (n : Nat) : limb (lowp n 8) 0 = limb (lowp n 7) 0 ∧ limb (lowp n 8) 2 = limb (lowp n 7) 2 ∧ limb (lowp n 8) 3 = limb (lowp n 7) 3 := by
  rw [limb0, limb0, limb2, limb2, limb3, limb3, lowp, lowp, show (65536 : Nat) ^ 7 = 5192296858534827628530496329220096 from rfl, show (65536 : Nat) ^ 8 = 340282366920938463463374607431768211456 from rfl]
  omega
theorem put8 (n : Nat) : IntKind.u64.wrap (limb (lowp n 8) 2 + IntKind.u64.wrap (IntKind.u64.wrap (dig n 8))) = limb (lowp n 9) 2 := by
  simp only [IntKind.wrap_u64]
  rw [limb2, limb2, dig, lowp, lowp, show (65536 : Nat) ^ 8 = 340282366920938463463374607431768211456 from rfl, show (65536 : Nat) ^ 9 = 22300745198530623141535718272648361505980416 from rfl]
  omega
theorem keep8 (n : Nat) : limb (lowp n 9) 0 = limb (lowp n 8) 0 ∧ limb (lowp n 9) 1 = limb (lowp n 8) 1 ∧ limb (lowp n 9) 3 = limb (lowp n 8) 3 := by
  rw [limb0, limb0, limb1, limb1, limb3, limb3, lowp, lowp, show (65536 : Nat) ^ 8 = 340282366920938463463374607431768211456 from rfl, show (65536 : Nat) ^ 9 = 22300745198530623141535718272648361505980416 from rfl]
  omega
theorem put9 (n : Nat) : IntKind.u64.wrap (limb (lowp n 9) 2 + IntKind.u64.wrap (IntKind.u64.wrap (dig n 9) * 65536)) = limb (lowp n 10) 2 := by
  simp only [IntKind.wrap_u64]
  rw [limb2, limb2, dig, lowp, lowp, show (65536 : Nat) ^ 9 = 22300745198530623141535718272648361505980416 from rfl, show (65536 : Nat) ^ 10 = 1461501637330902918203684832716283019655932542976 from rfl]
  omega
theorem keep9 (n : Nat) : limb (lowp n 10) 0 = limb (lowp n 9) 0 ∧ limb (lowp n 10) 1 = limb (lowp n 9) 1 ∧ limb (lowp n 10) 3 = limb (lowp n 9) 3 := by
  rw [limb0, limb0, limb1, limb1, limb3, limb3, lowp, lowp, show (65536 : Nat) ^ 9 = 22300745198530623141535718272648361505980416 from rfl, show (65536 : Nat) ^ 10 = 1461501637330902918203684832716283019655932542976 from rfl]
  omega
theorem put10 (n : Nat) : IntKind.u64.wrap (limb (lowp n 10) 2 + IntKind.u64.wrap (IntKind.u64.wrap (dig n 10) * 4294967296)) = limb (lowp n 11) 2 := by
  simp only [IntKind.wrap_u64]
  rw [limb2, limb2, dig, lowp, lowp, show (65536 : Nat) ^ 10 = 1461501637330902918203684832716283019655932542976 from rfl, show (65536 : Nat) ^ 11 = 95780971304118053647396689196894323976171195136475136 from rfl]
  omega
theorem keep10 (n : Nat) : limb (lowp n 11) 0 = limb (lowp n 10) 0 ∧ limb (lowp n 11) 1 = limb (lowp n 10) 1 ∧ limb (lowp n 11) 3 = limb (lowp n 10) 3 := by
  rw [limb0, limb0, limb1, limb1, limb3, limb3, lowp, lowp, show (65536 : Nat) ^ 10 = 1461501637330902918203684832716283019655932542976 from rfl, show (65536 : Nat) ^ 11 = 95780971304118053647396689196894323976171195136475136 from rfl]
  omega
theorem put11 (n : Nat) : IntKind.u64.wrap (limb (lowp n 11) 2 + IntKind.u64.wrap (IntKind.u64.wrap (dig n 11) * 281474976710656)) = limb (lowp n 12) 2 := by
  simp only [IntKind.wrap_u64]
  rw [limb2, limb2, dig, lowp, lowp, show (65536 : Nat) ^ 11 = 95780971304118053647396689196894323976171195136475136 from rfl, show (65536 : Nat) ^ 12 = 6277101735386680763835789423207666416102355444464034512896 from rfl]
  omega
theorem keep11 (n : Nat) : limb (lowp n 12) 0 = limb (lowp n 11) 0 ∧ limb (lowp n 12) 1 = limb (lowp n 11) 1 ∧ limb (lowp n 12) 3 = limb (lowp n 11) 3 := by
  rw [limb0, limb0, limb1, limb1, limb3, limb3, lowp, lowp, show (65536 : Nat) ^ 11 = 95780971304118053647396689196894323976171195136475136 from rfl, show (65536 : Nat) ^ 12 = 6277101735386680763835789423207666416102355444464034512896 from rfl]
  omega
theorem put12 (n : Nat) : IntKind.u64.wrap (limb (lowp n 12) 3 + IntKind.u64.wrap (IntKind.u64.wrap (dig n 12))) = limb (lowp n 13) 3 := by
  simp only [IntKind.wrap_u64]
  rw [limb3, limb3, dig, lowp, lowp, show (65536 : Nat) ^ 12 = 6277101735386680763835789423207666416102355444464034512896 from rfl, show (65536 : Nat) ^ 13 = 411376139330301510538742295639337626245683966408394965837152256 from rfl]
  omega
theorem keep12 (n : Nat) : limb (lowp n 13) 0 = limb (lowp n 12) 0 ∧ limb (lowp n 13) 1 = limb (lowp n 12) 1 ∧ limb (lowp n 13) 2 = limb (lowp n 12) 2 := by
  rw [limb0, limb0, limb1, limb1, limb2, limb2, lowp, lowp, show (65536 : Nat) ^ 12 = 6277101735386680763835789423207666416102355444464034512896 from rfl, show (65536 : Nat) ^ 13 = 411376139330301510538742295639337626245683966408394965837152256 from rfl]
  omega
theorem put13 (n : Nat) : IntKind.u64.wrap (limb (lowp n 13) 3 + IntKind.u64.wrap (IntKind.u64.wrap (dig n 13) * 65536)) = limb (lowp n 14) 3 := by
  simp only [IntKind.wrap_u64]
  rw [limb3, limb3, dig, lowp, lowp, show (65536 : Nat) ^ 13 = 411376139330301510538742295639337626245683966408394965837152256 from rfl, show (65536 : Nat) ^ 14 = 26959946667150639794667015087019630673637144422540572481103610249216 from rfl]
  omega
theorem keep13 (n : Nat) : limb (lowp n 14) 0 = limb (lowp n 13) 0 ∧ limb (lowp n 14) 1 = limb (lowp n 13) 1 ∧ limb (lowp n 14) 2 = limb (lowp n 13) 2 := by
  rw [limb0, limb0, limb1, limb1, limb2, limb2, lowp, lowp, show (65536 : Nat) ^ 13 = 411376139330301510538742295639337626245683966408394965837152256 from rfl, show (65536 : Nat) ^ 14 = 26959946667150639794667015087019630673637144422540572481103610249216 from rfl]
  omega
theorem put14 (n : Nat) : IntKind.u64.wrap (limb (lowp n 14) 3 + IntKind.u64.wrap (IntKind.u64.wrap (dig n 14) * 4294967296)) = limb (lowp n 15) 3 := by
  simp only [IntKind.wrap_u64]
  rw [limb3, limb3, dig, lowp, lowp, show (65536 : Nat) ^ 14 = 26959946667150639794667015087019630673637144422540572481103610249216 from rfl, show (65536 : Nat) ^ 15 = 1766847064778384329583297500742918515827483896875618958121606201292619776 from rfl]
  omega
theorem keep14 (n : Nat) : limb (lowp n 15) 0 = limb (lowp n 14) 0 ∧ limb (lowp n 15) 1 = limb (lowp n 14) 1 ∧ limb (lowp n 15) 2 = limb (lowp n 14) 2 := by
  rw [limb0, limb0, limb1, limb1, limb2, limb2, lowp, lowp, show (65536 : Nat) ^ 14 = 26959946667150639794667015087019630673637144422540572481103610249216 from rfl, show (65536 : Nat) ^ 15 = 1766847064778384329583297500742918515827483896875618958121606201292619776 from rfl]
  omega
theorem put15 (n : Nat) : IntKind.u64.wrap (limb (lowp n 15) 3 + IntKind.u64.wrap (IntKind.u64.wrap (dig n 15) * 281474976710656)) = limb (lowp n 16) 3 := by
  simp only [IntKind.wrap_u64]
  rw [limb3, limb3, dig, lowp, lowp, show (65536 : Nat) ^ 15 = 1766847064778384329583297500742918515827483896875618958121606201292619776 from rfl, show (65536 : Nat) ^ 16 = 115792089237316195423570985008687907853269984665640564039457584007913129639936 from rfl]
  omega
theorem keep15 (n : Nat) : limb (lowp n 16) 0 = limb (lowp n 15) 0 ∧ limb (lowp n 16) 1 = limb (lowp n 15) 1 ∧ limb (lowp n 16) 2 = limb (lowp n 15) 2 := by
  rw [limb0, limb0, limb1, limb1, limb2, limb2, lowp, lowp, show (65536 : Nat) ^ 15 = 1766847064778384329583297500742918515827483896875618958121606201292619776 from rfl, show (65536 : Nat) ^ 16 = 115792089237316195423570985008687907853269984665640564039457584007913129639936 from rfl]
  omega

/-- The slice v reads as len digits of n, which fits them; it lies in one block from the start on. -/
def Raw (w : World) (v : Value) (n len : Nat) : Prop :=
  ∃ (A : Option Addr) (cap : Nat), v = .slice A len cap ∧ len ≤ cap ∧ len ≤ 4294967296 ∧ n < 65536 ^ len ∧
    (0 < len → ∃ b, A = some ⟨b, 0, none⟩ ∧ b < w.heap.size ∧ ∀ i, i < len → w.cell? ⟨b, i, none⟩ = some (.int .i64 (dig n i)))
/-- The slice v reads as the number n, without leading zeros. -/
def Big (w : World) (v : Value) (n : Nat) : Prop := Raw w v n (nd n)

theorem Raw.below {w w' : World} {v : Value} {n len : Nat} (h : Raw w v n len) (hb : Below w.heap.size w w') : Raw w' v n len := by
  obtain ⟨A, cap, hv, h1, h2, h3, h4⟩ := h
  refine ⟨A, cap, hv, h1, h2, h3, fun hl => ?_⟩
  obtain ⟨b, hA, hlt, hc⟩ := h4 hl
  exact ⟨b, hA, Nat.lt_of_lt_of_le hlt hb.size, fun i hi => (hb.cell (p := ⟨b, i, none⟩) hlt).trans (hc i hi)⟩
theorem Big.below {w w' : World} {v : Value} {n : Nat} (h : Big w v n) (hb : Below w.heap.size w w') : Big w' v n := Raw.below h hb
theorem Raw.belowLe {w w' : World} {v : Value} {n len B : Nat} (h : Raw w v n len) (hB : w.heap.size ≤ B) (hb : Below B w w') : Raw w' v n len := h.below (hb.mono hB)

end Go.Proofs.YtkionnggdncncaaDoor

