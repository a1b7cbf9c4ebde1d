/- Plain arithmetic: division by one digit and bit by bit, in base 65536. No Go function in this text; no conditions. -/
import Derived.Test.YtkionnggdncncaaDoorRow
namespace Go.Proofs.YtkionnggdncncaaDoor
open Go.RowKit
/-! ### Rows as arrays -/
def rowA (f : Nat → Int) (L : Nat) : Array Value := (rowOf f L).toArray
theorem rowA_get {f : Nat → Int} {L j : Nat} (h : j < L) : (rowA f L)[j]? = some (.int .i64 (f j)) := by
  unfold rowA; rw [List.getElem?_toArray]; exact rowOf_get h
theorem rowA_size (f : Nat → Int) (L : Nat) : (rowA f L).size = L := by simp [rowA, rowOf]
theorem rowA_set {f g : Nat → Int} {L j : Nat} {x : Int} (hj : g j = x) (hne : ∀ i, i < L → i ≠ j → g i = f i) : (rowA f L).setIfInBounds j (.int .i64 x) = rowA g L := by
  unfold rowA; rw [← rowOf_set (f := f) hj hne]; simp
theorem rowA_congr {f g : Nat → Int} {L : Nat} (h : ∀ j, j < L → f j = g j) : rowA f L = rowA g L := by unfold rowA; rw [rowOf_congr h]
theorem made_rowA (n : Nat) : madeCells #[.int .i64 0] n = rowA (fun _ => 0) n := by
  unfold rowA; rw [← made_row]

/-! ### Division by one digit -/
theorem div_digit (n d k : Nat) : n / d / 65536 ^ k = n / 65536 ^ k / d := by
  rw [Nat.div_div_eq_div_mul, Nat.mul_comm, ← Nat.div_div_eq_div_mul]
/-- What is left behind the digits from k on. -/
def lft (n d k : Nat) : Int := ((n / 65536 ^ k % d : Nat) : Int)
theorem short_tot (n d k : Nat) : (65536 * lft n d (k + 1) + dig n k) = ((65536 * (n / 65536 ^ (k + 1) % d) + n / 65536 ^ k % 65536 : Nat) : Int) := by unfold lft dig; omega
theorem short_nat (N d x y : Nat) (hd : 0 < d) (hy : y < 65536) (hN : N = 65536 * x + y) :
    N % d = (65536 * (x % d) + y) % d ∧ N / d % 65536 = (65536 * (x % d) + y) / d ∧ (65536 * (x % d) + y) / d < 65536 := by
  have h1 : N = (65536 * (x % d) + y) + d * (65536 * (x / d)) := by
    have := Nat.div_add_mod x d
    rw [hN, Nat.mul_left_comm]
    omega
  have hx := Nat.mod_lt x hd
  have h3 : (65536 * (x % d) + y) / d < 65536 := Nat.div_lt_of_lt_mul (by
    have : 65536 * (x % d + 1) ≤ 65536 * d := Nat.mul_le_mul_left _ hx
    rw [Nat.mul_comm d]; omega)
  refine ⟨?_, ?_, h3⟩
  · rw [h1, Nat.add_mul_mod_self_left]
  · rw [h1, Nat.add_mul_div_left _ _ hd]
    generalize (65536 * (x % d) + y) / d = u at *
    generalize x / d = v
    omega
theorem short_step (n d k : Nat) (hd : 0 < d) : (65536 * lft n d (k + 1) + dig n k) / (d : Int) = dig (n / d) k ∧ (65536 * lft n d (k + 1) + dig n k) % (d : Int) = lft n d k := by
  have e := div_step n k
  have e' : n / 65536 ^ k = 65536 * (n / 65536 ^ (k + 1)) + n / 65536 ^ k % 65536 := by
    unfold dig at e; rw [Int.toNat_natCast] at e; omega
  obtain ⟨a1, a2, a3⟩ := short_nat (n / 65536 ^ k) d (n / 65536 ^ (k + 1)) (n / 65536 ^ k % 65536) hd (Nat.mod_lt _ (by omega)) e'
  rw [short_tot, ← Int.natCast_ediv, ← Int.natCast_emod]
  unfold lft
  refine ⟨?_, ?_⟩
  · rw [← a2]; unfold dig; rw [div_digit]
  · rw [← a1]
theorem lft_bounds (n d k : Nat) (hd : 0 < d) : 0 ≤ lft n d k ∧ lft n d k < d := by
  unfold lft; have := Nat.mod_lt (n / 65536 ^ k) hd; omega
theorem lft_top {n d k : Nat} (h : n < 65536 ^ k) : lft n d k = 0 := by unfold lft; rw [Nat.div_eq_of_lt h, Nat.zero_mod]; rfl
theorem lft_zero (n d : Nat) : lft n d 0 = ((n % d : Nat) : Int) := by unfold lft; rw [Nat.pow_zero, Nat.div_one]
/-- The row of quotients down to place k. -/
def quoF (n d k : Nat) : Nat → Int := fun j => if j < k then 0 else dig (n / d) j
theorem quoF_top (n d L : Nat) : rowA (fun _ => 0) L = rowA (quoF n d L) L := rowA_congr fun j hj => by simp [quoF, hj]
theorem quoF_set (n d k L : Nat) : (rowA (quoF n d (k + 1)) L).setIfInBounds k (.int .i64 (dig (n / d) k)) = rowA (quoF n d k) L :=
  rowA_set (by simp [quoF]) fun i _ hi => by
    unfold quoF
    by_cases h : i < k
    · rw [if_pos h, if_pos (by omega)]
    · rw [if_neg h, if_neg (by omega)]
theorem quoF_zero (n d L : Nat) : rowA (quoF n d 0) L = rowA (dig (n / d)) L := rowA_congr fun j _ => by simp [quoF]

/-! ### Division bit by bit -/
def Rm (n m t : Nat) : Nat := n / 2 ^ t % m
def Vm (n m t : Nat) : Nat := n / 2 ^ t / m * 2 ^ t
theorem half (n t : Nat) : n / 2 ^ t = 2 * (n / 2 ^ (t + 1)) + n / 2 ^ t % 2 := by
  rw [Nat.pow_succ, ← Nat.div_div_eq_div_mul]; omega
theorem div_bit (m x y : Nat) (hm : 0 < m) (hy : y < 2) :
    (2 * (x % m) + y < m → (2 * x + y) % m = 2 * (x % m) + y ∧ (2 * x + y) / m = 2 * (x / m)) ∧
    (m ≤ 2 * (x % m) + y → (2 * x + y) % m = 2 * (x % m) + y - m ∧ (2 * x + y) / m = 2 * (x / m) + 1) := by
  have h := Nat.div_add_mod x m
  have hx := Nat.mod_lt x hm
  have e : 2 * x + y = (2 * (x % m) + y) + m * (2 * (x / m)) := by rw [Nat.mul_left_comm]; omega
  constructor
  · intro hl
    refine ⟨?_, ?_⟩
    · rw [e, Nat.add_mul_mod_self_left, Nat.mod_eq_of_lt hl]
    · rw [e, Nat.add_mul_div_left _ _ hm, Nat.div_eq_of_lt hl]; omega
  · intro hg
    have e2 : 2 * x + y = (2 * (x % m) + y - m) + m * (2 * (x / m) + 1) := by rw [Nat.mul_add, Nat.mul_one]; omega
    have hl : 2 * (x % m) + y - m < m := by omega
    refine ⟨?_, ?_⟩
    · rw [e2, Nat.add_mul_mod_self_left, Nat.mod_eq_of_lt hl]
    · rw [e2, Nat.add_mul_div_left _ _ hm, Nat.div_eq_of_lt hl]; omega
theorem rm_small (n m t : Nat) (hm : 0 < m) (h : 2 * Rm n m (t + 1) + n / 2 ^ t % 2 < m) : Rm n m t = 2 * Rm n m (t + 1) + n / 2 ^ t % 2 ∧ Vm n m t = Vm n m (t + 1) := by
  obtain ⟨a, b⟩ := (div_bit m (n / 2 ^ (t + 1)) (n / 2 ^ t % 2) hm (Nat.mod_lt _ (by omega))).1 h
  rw [← half] at a b
  refine ⟨a, ?_⟩
  unfold Vm; rw [b, Nat.pow_succ, Nat.mul_comm (2 ^ t) 2, ← Nat.mul_assoc, Nat.mul_comm 2]
theorem rm_large (n m t : Nat) (hm : 0 < m) (h : m ≤ 2 * Rm n m (t + 1) + n / 2 ^ t % 2) : Rm n m t = 2 * Rm n m (t + 1) + n / 2 ^ t % 2 - m ∧ Vm n m t = Vm n m (t + 1) + 2 ^ t := by
  obtain ⟨a, b⟩ := (div_bit m (n / 2 ^ (t + 1)) (n / 2 ^ t % 2) hm (Nat.mod_lt _ (by omega))).2 h
  rw [← half] at a b
  refine ⟨a, ?_⟩
  unfold Vm; rw [b, Nat.add_mul, Nat.one_mul, Nat.pow_succ, Nat.mul_comm (2 ^ t) 2, ← Nat.mul_assoc, Nat.mul_comm 2]
theorem rm_lt (n m t : Nat) (hm : 0 < m) : Rm n m t < m := Nat.mod_lt _ hm
theorem rm_top {n m t : Nat} (h : n < 2 ^ t) : Rm n m t = 0 ∧ Vm n m t = 0 := by
  unfold Rm Vm; rw [Nat.div_eq_of_lt h]; simp
theorem rm_end (n m : Nat) : Rm n m 0 = n % m ∧ Vm n m 0 = n / m := by unfold Rm Vm; simp
/-- One bit more sets one bit of one digit. -/
theorem dig_bit_other (Q i b j : Nat) (hb : b < 16) (hj : j ≠ i) : dig (Q * 2 ^ (16 * i + b + 1) + 2 ^ (16 * i + b)) j = dig (Q * 2 ^ (16 * i + b + 1)) j := by
  unfold dig
  rw [pow_16]
  rcases Nat.lt_or_ge j i with h | h
  · have e1 : (2 : Nat) ^ (16 * i + b) = 2 ^ (16 * j) * (65536 * 2 ^ (16 * (i - j - 1) + b)) := by
      rw [show (65536 : Nat) = 2 ^ 16 from rfl, ← Nat.pow_add, ← Nat.pow_add]; congr 1; omega
    rw [Nat.pow_succ, e1, show Q * (2 ^ (16 * j) * (65536 * 2 ^ (16 * (i - j - 1) + b)) * 2) = 2 ^ (16 * j) * (65536 * (Q * 2 ^ (16 * (i - j - 1) + b) * 2)) from by grind]
    rw [← Nat.mul_add, Nat.mul_div_cancel_left _ (Nat.two_pow_pos _), Nat.mul_div_cancel_left _ (Nat.two_pow_pos _)]
    omega
  · have hj' : i < j := by omega
    have e1 : (2 : Nat) ^ (16 * j) = 2 ^ (16 * i + b + 1) * 2 ^ (16 * j - (16 * i + b + 1)) := by rw [← Nat.pow_add]; congr 1; omega
    have e2 : (Q * 2 ^ (16 * i + b + 1) + 2 ^ (16 * i + b)) / 2 ^ (16 * i + b + 1) = Q := by
      rw [Nat.add_comm, Nat.add_mul_div_right _ _ (Nat.two_pow_pos _), Nat.div_eq_of_lt (Nat.pow_lt_pow_right (by omega) (by omega))]; omega
    rw [e1, ← Nat.div_div_eq_div_mul, ← Nat.div_div_eq_div_mul, e2, Nat.mul_div_cancel _ (Nat.two_pow_pos _)]
theorem dig_bit_at (Q i b : Nat) (hb : b < 16) : dig (Q * 2 ^ (16 * i + b + 1) + 2 ^ (16 * i + b)) i = dig (Q * 2 ^ (16 * i + b + 1)) i + ((2 ^ b : Nat) : Int) := by
  unfold dig
  rw [pow_16, show (2 : Nat) ^ (16 * i + b) = 2 ^ (16 * i) * 2 ^ b from Nat.pow_add _ _ _, show (2 : Nat) ^ (16 * i + b + 1) = 2 ^ (16 * i) * 2 ^ (b + 1) from by rw [← Nat.pow_add]; rfl]
  rw [show Q * (2 ^ (16 * i) * 2 ^ (b + 1)) = 2 ^ (16 * i) * (Q * 2 ^ (b + 1)) from Nat.mul_left_comm _ _ _, ← Nat.mul_add, Nat.mul_div_cancel_left _ (Nat.two_pow_pos _), Nat.mul_div_cancel_left _ (Nat.two_pow_pos _)]
  rcases (by omega : b = 0 ∨ b = 1 ∨ b = 2 ∨ b = 3 ∨ b = 4 ∨ b = 5 ∨ b = 6 ∨ b = 7 ∨ b = 8 ∨ b = 9 ∨ b = 10 ∨ b = 11 ∨ b = 12 ∨ b = 13 ∨ b = 14 ∨ b = 15) with rfl | rfl | rfl | rfl | rfl | rfl | rfl | rfl | rfl | rfl | rfl | rfl | rfl | rfl | rfl | rfl <;> omega

/-! ### Twice a number and a bit, digit by digit -/
def dbl (R y k : Nat) : Int := (((2 * lowp R k + y) / 65536 ^ k : Nat) : Int)
theorem dbl_zero (R y : Nat) : dbl R y 0 = (y : Int) := by unfold dbl; rw [lowp_zero]; simp
theorem dbl_bounds (R y k : Nat) (hy : y ≤ 1) : 0 ≤ dbl R y k ∧ dbl R y k ≤ 1 := by
  have h1 := lowp_lt R k
  have : (2 * lowp R k + y) / 65536 ^ k < 2 := Nat.div_lt_of_lt_mul (by omega)
  unfold dbl; exact ⟨Int.natCast_nonneg _, by omega⟩
theorem dbl_succ (R y k : Nat) : (dbl R y k + 2 * dig R k) / 65536 = dbl R y (k + 1) := by
  unfold dbl dig
  rw [lowp_succ, Nat.pow_succ, ← Nat.div_div_eq_div_mul, show 2 * (lowp R k + 65536 ^ k * (R / 65536 ^ k % 65536)) + y = (2 * lowp R k + y) + 65536 ^ k * (2 * (R / 65536 ^ k % 65536)) from by rw [Nat.mul_add, Nat.mul_left_comm]; omega, Nat.add_mul_div_left _ _ (pow_pos16 k)]
  generalize (2 * lowp R k + y) / 65536 ^ k = z; generalize R / 65536 ^ k % 65536 = x
  omega
theorem dbl_dig (R y k : Nat) : (dbl R y k + 2 * dig R k) % 65536 = dig (2 * R + y) k := by
  unfold dbl dig
  have h : (2 * R + y) / 65536 ^ k = (2 * lowp R k + y) / 65536 ^ k + 2 * (R / 65536 ^ k) := by
    have e : 2 * R + y = (2 * lowp R k + y) + 65536 ^ k * (2 * (R / 65536 ^ k)) := by rw [Nat.mul_left_comm]; have := lowp_div R k; omega
    have e2 : (2 * R + y) / 65536 ^ k = ((2 * lowp R k + y) + 65536 ^ k * (2 * (R / 65536 ^ k))) / 65536 ^ k := congrArg (· / 65536 ^ k) e
    rw [e2, Nat.add_mul_div_left _ _ (pow_pos16 k)]
  rw [h]
  generalize (2 * lowp R k + y) / 65536 ^ k = z; generalize R / 65536 ^ k = x
  omega
def dblF (R y k : Nat) : Nat → Int := fun j => if j < k then dig (2 * R + y) j else dig R j
theorem dblF_zero (R y L : Nat) : rowA (dig R) L = rowA (dblF R y 0) L := rowA_congr fun j _ => by simp [dblF]
theorem dblF_at (R y k : Nat) : dblF R y k k = dig R k := by simp [dblF]
theorem dblF_set (R y k L : Nat) : (rowA (dblF R y k) L).setIfInBounds k (.int .i64 (dig (2 * R + y) k)) = rowA (dblF R y (k + 1)) L :=
  rowA_set (by simp [dblF]) fun i _ hi => by
    unfold dblF
    by_cases h : i < k
    · rw [if_pos h, if_pos (by omega)]
    · rw [if_neg h, if_neg (by omega)]
theorem dblF_all (R y L : Nat) : rowA (dblF R y L) L = rowA (dig (2 * R + y)) L := rowA_congr fun j hj => by simp [dblF, hj]
/-- One row written over another. -/
def ovF (D R k : Nat) : Nat → Int := fun j => if j < k then dig D j else dig R j
theorem ovF_zero (D R L : Nat) : rowA (dig R) L = rowA (ovF D R 0) L := rowA_congr fun j _ => by simp [ovF]
theorem ovF_at (D R k : Nat) : ovF D R k k = dig R k := by simp [ovF]
theorem ovF_set (D R k L : Nat) : (rowA (ovF D R k) L).setIfInBounds k (.int .i64 (dig D k)) = rowA (ovF D R (k + 1)) L :=
  rowA_set (by simp [ovF]) fun i _ hi => by
    unfold ovF
    by_cases h : i < k
    · rw [if_pos h, if_pos (by omega)]
    · rw [if_neg h, if_neg (by omega)]
theorem ovF_all (D R L : Nat) : rowA (ovF D R L) L = rowA (dig D) L := rowA_congr fun j hj => by simp [ovF, hj]

/-! ### Parts of a number -/
theorem dig_shift (n o i : Nat) : dig (n / 65536 ^ o) i = dig n (o + i) := by
  unfold dig; rw [Nat.div_div_eq_div_mul, ← Nat.pow_add]
theorem nd_32 (a b : Nat) (ha : a < B256) (hb : b < B256) : nd (a * b) ≤ 32 :=
  nd_le.2 (Nat.lt_of_lt_of_le (Nat.mul_lt_mul'' ha hb) (Nat.le_of_eq rfl))
end Go.Proofs.YtkionnggdncncaaDoor

