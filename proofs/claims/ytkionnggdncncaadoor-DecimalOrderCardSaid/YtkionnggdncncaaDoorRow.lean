/- Plain arithmetic: differences and products of numbers digit by digit in base 65536. No Go function in this text; no conditions. -/
import Derived.Test.YtkionnggdncncaaDoorCar
import Derived.Laws.OwnMore
namespace Go.Proofs.YtkionnggdncncaaDoor
open Go.RowKit
/-! ### Rows as functions -/
def rowOf (f : Nat → Int) (L : Nat) : List Value := (List.range L).map fun j => .int .i64 (f j)
theorem rowOf_len (f : Nat → Int) (L : Nat) : (rowOf f L).length = L := by simp [rowOf]
theorem rowOf_get {f : Nat → Int} {L j : Nat} (h : j < L) : (rowOf f L)[j]? = some (.int .i64 (f j)) := by simp [rowOf, h]
theorem rowOf_congr {f g : Nat → Int} {L : Nat} (h : ∀ j, j < L → f j = g j) : rowOf f L = rowOf g L := by
  unfold rowOf; exact List.map_congr_left fun j hj => by rw [h j (List.mem_range.1 hj)]
theorem rowOf_set {f g : Nat → Int} {L j : Nat} {x : Int} (hj : g j = x) (hne : ∀ i, i < L → i ≠ j → g i = f i) : (rowOf f L).set j (.int .i64 x) = rowOf g L := by
  apply List.ext_getElem?
  intro i
  rw [List.getElem?_set]
  by_cases h : i < L
  · by_cases hij : j = i
    · subst hij; rw [if_pos rfl, if_pos (by rw [rowOf_len]; exact h), rowOf_get h, hj]
    · rw [if_neg hij, rowOf_get h, rowOf_get h, hne i h (fun e => hij e.symm)]
  · have h1 : (rowOf f L)[i]? = none := List.getElem?_eq_none (by rw [rowOf_len]; omega)
    have h2 : (rowOf g L)[i]? = none := List.getElem?_eq_none (by rw [rowOf_len]; omega)
    rw [h1, h2]
    by_cases hij : j = i
    · subst hij; rw [if_pos rfl, if_neg (by rw [rowOf_len]; exact h)]
    · rw [if_neg hij]
theorem digs_row (n k : Nat) : digs n k = rowOf (dig n) k := rfl
theorem made_row (n : Nat) : (madeCells #[.int .i64 0] n).toList = rowOf (fun _ => 0) n := by
  rw [toList_madeCells_one]; apply List.ext_getElem?; intro i
  by_cases h : i < n
  · rw [rowOf_get h, List.getElem?_replicate, if_pos h]
  · rw [List.getElem?_eq_none (by simp; omega), List.getElem?_eq_none (by rw [rowOf_len]; omega)]

/-! ### Differences digit by digit -/
def bo (a b k : Nat) : Int := -(((lowp a k : Int) - (lowp b k : Int)) / ((65536 ^ k : Nat) : Int))
theorem bo_zero (a b : Nat) : bo a b 0 = 0 := by unfold bo; rw [lowp_zero, lowp_zero]; rfl
theorem bo_bounds (a b k : Nat) : 0 ≤ bo a b k ∧ bo a b k ≤ 1 := by
  have h1 := lowp_lt a k; have h2 := lowp_lt b k
  have hP := pow_pos16 k
  unfold bo
  generalize 65536 ^ k = P at *
  have a1 : ((lowp a k : Int) - (lowp b k : Int)) / (P : Int) < 1 := Int.ediv_lt_of_lt_mul (by omega) (by omega)
  have a2 : -1 ≤ ((lowp a k : Int) - (lowp b k : Int)) / (P : Int) := Int.le_ediv_of_mul_le (by omega) (by omega)
  omega
theorem digN (n k : Nat) : dig n k = ((n / 65536 ^ k : Nat) : Int) % 65536 := by unfold dig; omega
theorem bo_succ (a b k : Nat) : (dig a k - bo a b k - dig b k) / 65536 = - bo a b (k + 1) := by
  have hP := pow_pos16 k
  unfold bo dig
  rw [lowp_succ, lowp_succ, Nat.pow_succ]
  generalize 65536 ^ k = P at *
  generalize a / P % 65536 = da; generalize b / P % 65536 = db; generalize lowp a k = la; generalize lowp b k = lb
  have e : ((la + P * da : Nat) : Int) - ((lb + P * db : Nat) : Int) = ((la : Int) - lb) + (P : Int) * ((da : Int) - db) := by
    rw [Int.natCast_add, Int.natCast_add, Int.natCast_mul, Int.natCast_mul, Int.mul_sub]; omega
  rw [e, Int.natCast_mul, ← Int.ediv_ediv_of_nonneg (by omega), Int.add_mul_ediv_left _ _ (by omega)]
  generalize ((la : Int) - lb) / P = q
  omega
theorem dig_sub (a b k : Nat) (h : b ≤ a) : (dig a k - bo a b k - dig b k) % 65536 = dig (a - b) k := by
  have hP := pow_pos16 k
  have h1 := lowp_div a k; have h2 := lowp_div b k
  rw [digN a, digN b, digN (a - b)]
  unfold bo
  have e3 : ((a - b : Nat) : Int) / ((65536 ^ k : Nat) : Int) = ((lowp a k : Int) - (lowp b k : Int)) / ((65536 ^ k : Nat) : Int) + (((a / 65536 ^ k : Nat) : Int) - ((b / 65536 ^ k : Nat) : Int)) := by
    rw [← Int.add_mul_ediv_left _ _ (by omega : ((65536 ^ k : Nat) : Int) ≠ 0)]
    congr 1
    rw [Int.mul_sub, ← Int.natCast_mul, ← Int.natCast_mul]
    omega
  rw [Int.natCast_ediv (a - b), e3]
  generalize ((lowp a k : Int) - (lowp b k : Int)) / ((65536 ^ k : Nat) : Int) = q
  generalize ((a / 65536 ^ k : Nat) : Int) = x; generalize ((b / 65536 ^ k : Nat) : Int) = y
  omega
def subF (r k : Nat) : Nat → Int := fun j => if j < k then dig r j else 0
theorem subF_set (r k L : Nat) : (rowOf (subF r k) L).set k (.int .i64 (dig r k)) = rowOf (subF r (k + 1)) L :=
  rowOf_set (by simp [subF]) fun i _ hi => by
    unfold subF
    by_cases h : i < k
    · rw [if_pos h, if_pos (by omega)]
    · rw [if_neg h, if_neg (by omega)]
theorem subF_zero (r L : Nat) : rowOf (fun _ => 0) L = rowOf (subF r 0) L := rowOf_congr fun j _ => by simp [subF]
theorem subF_all (r L : Nat) : rowOf (subF r L) L = digs r L := rowOf_congr fun j hj => by simp [subF, hj]
theorem subF_get {r k L : Nat} (h : k < L) : (rowOf (subF r k) L)[k]? = some (.int .i64 0) := by rw [rowOf_get h]; simp [subF]
/-! ### Products digit by digit -/
theorem dig_low {x y j m : Nat} (h : j < m) : dig (x + 65536 ^ m * y) j = dig x j := by
  unfold dig
  obtain ⟨t, rfl⟩ := Nat.exists_eq_add_of_lt h
  rw [show j + t + 1 = j + (t + 1) from rfl, Nat.pow_add, Nat.mul_assoc, Nat.add_mul_div_left _ _ (pow_pos16 j), Nat.pow_succ, Nat.mul_right_comm, Nat.add_mul_mod_self_right]
def mulP (a b i : Nat) : Nat := lowp a i * b
def mulX (a b i k : Nat) : Nat := lowp (mulP a b i) (i + k) + 65536 ^ i * ((a / 65536 ^ i % 65536) * lowp b k)
def ovr (a b i k : Nat) : Int := ((mulX a b i k / 65536 ^ (i + k) : Nat) : Int)
theorem mulX_zero (a b i : Nat) : mulX a b i 0 = lowp (mulP a b i) i := by unfold mulX; rw [lowp_zero]; simp
theorem ovr_zero (a b i : Nat) : ovr a b i 0 = 0 := by
  unfold ovr; rw [mulX_zero, Nat.add_zero, Nat.div_eq_of_lt (lowp_lt _ _)]; rfl
theorem mulX_succ (a b i k : Nat) : mulX a b i (k + 1) = mulX a b i k + 65536 ^ (i + k) * (mulP a b i / 65536 ^ (i + k) % 65536 + (a / 65536 ^ i % 65536) * (b / 65536 ^ k % 65536)) := by
  unfold mulX
  rw [← Nat.add_assoc, lowp_succ (mulP a b i), lowp_succ b, Nat.mul_add, Nat.mul_add, Nat.mul_add]
  have e : 65536 ^ i * (a / 65536 ^ i % 65536 * (65536 ^ k * (b / 65536 ^ k % 65536))) = 65536 ^ (i + k) * (a / 65536 ^ i % 65536 * (b / 65536 ^ k % 65536)) := by
    rw [Nat.pow_add]
    generalize 65536 ^ i = p; generalize 65536 ^ k = q; generalize a / p % 65536 = x; generalize b / q % 65536 = y
    rw [Nat.mul_left_comm x q y, Nat.mul_assoc]
  rw [e]
  omega
theorem mulX_div (a b i k : Nat) : mulX a b i (k + 1) / 65536 ^ (i + k) = mulX a b i k / 65536 ^ (i + k) + (mulP a b i / 65536 ^ (i + k) % 65536 + (a / 65536 ^ i % 65536) * (b / 65536 ^ k % 65536)) := by
  rw [mulX_succ, Nat.add_mul_div_left _ _ (pow_pos16 _)]
theorem mul_tot (a b i k : Nat) : ovr a b i k + dig (mulP a b i) (i + k) + dig a i * dig b k = ((mulX a b i (k + 1) / 65536 ^ (i + k) : Nat) : Int) := by
  rw [mulX_div]; unfold ovr dig
  rw [← Int.natCast_mul, ← Int.natCast_add, ← Int.natCast_add, Nat.add_assoc]
theorem mul_dig (a b i k : Nat) : (ovr a b i k + dig (mulP a b i) (i + k) + dig a i * dig b k) % 65536 = dig (mulX a b i (k + 1)) (i + k) := by
  rw [mul_tot, digN]
theorem mul_ovr (a b i k : Nat) : (ovr a b i k + dig (mulP a b i) (i + k) + dig a i * dig b k) / 65536 = ovr a b i (k + 1) := by
  rw [mul_tot]; unfold ovr
  rw [← Nat.add_assoc, Nat.pow_succ, ← Nat.div_div_eq_div_mul]
  generalize mulX a b i (k + 1) / 65536 ^ (i + k) = z
  omega
theorem ovr_bounds (a b i k : Nat) : 0 ≤ ovr a b i k ∧ ovr a b i k ≤ 65535 := by
  refine ⟨Int.natCast_nonneg _, ?_⟩
  have h : mulX a b i k / 65536 ^ (i + k) < 65536 := by
    refine Nat.div_lt_of_lt_mul ?_
    unfold mulX
    have h1 := lowp_lt (mulP a b i) (i + k)
    have h2 : 65536 ^ i * ((a / 65536 ^ i % 65536) * lowp b k) ≤ 65536 ^ (i + k) * 65535 := by
      have h3 : (a / 65536 ^ i % 65536) * lowp b k ≤ 65535 * 65536 ^ k := Nat.mul_le_mul (by omega) (Nat.le_of_lt (lowp_lt b k))
      have h4 := Nat.mul_le_mul_left (65536 ^ i) h3
      rw [Nat.pow_add, Nat.mul_assoc, Nat.mul_comm (65536 ^ k) 65535]; exact h4
    omega
  unfold ovr; generalize mulX a b i k / 65536 ^ (i + k) = z at *; omega
theorem prod_bounds (a b i k : Nat) : 0 ≤ dig a i * dig b k ∧ dig a i * dig b k ≤ 4294836225 := by
  have h1 := dig_nonneg a i; have h2 := dig_lt a i; have h3 := dig_nonneg b k; have h4 := dig_lt b k
  refine ⟨Int.mul_nonneg h1 h3, ?_⟩
  have : dig a i * dig b k ≤ 65535 * 65535 := Int.mul_le_mul (by omega) (by omega) h3 (by omega)
  omega
/-- The row inside a round. -/
def mulF (a b i k : Nat) : Nat → Int := fun j => if j < i + k then dig (mulX a b i k) j else dig (mulP a b i) j
theorem mulF_zero (a b i L : Nat) : rowOf (dig (mulP a b i)) L = rowOf (mulF a b i 0) L := rowOf_congr fun j _ => by
  unfold mulF
  by_cases h : j < i
  · rw [if_pos (by omega), mulX_zero]
    have := dig_low (x := lowp (mulP a b i) i) (y := mulP a b i / 65536 ^ i) h
    rw [← this, ← lowp_div]
  · rw [if_neg (by omega)]
theorem mulF_at (a b i k : Nat) : mulF a b i k (i + k) = dig (mulP a b i) (i + k) := by unfold mulF; rw [if_neg (by omega)]
theorem mulF_set (a b i k L : Nat) : (rowOf (mulF a b i k) L).set (i + k) (.int .i64 (dig (mulX a b i (k + 1)) (i + k))) = rowOf (mulF a b i (k + 1)) L :=
  rowOf_set (by unfold mulF; rw [if_pos (by omega)]) fun j _ hj => by
    unfold mulF
    by_cases h : j < i + k
    · rw [if_pos h, if_pos (by omega), mulX_succ, dig_low h]
    · rw [if_neg h, if_neg (by omega)]
theorem mulP_lt (a b i : Nat) : mulP a b i < 65536 ^ (i + nd b) := by
  unfold mulP; rw [Nat.pow_add]; exact Nat.mul_lt_mul'' (lowp_lt a i) (nd_lt b)
theorem mulX_end (a b i : Nat) : mulX a b i (nd b) = mulP a b (i + 1) := by
  unfold mulX
  rw [lowp_all (mulP_lt a b i), lowp_all (nd_lt b)]
  unfold mulP
  rw [lowp_succ, Nat.add_mul, Nat.mul_assoc]
theorem ovr_end (a b i : Nat) : ovr a b i (nd b) = dig (mulP a b (i + 1)) (i + nd b) := by
  unfold ovr dig; rw [mulX_end]
  have h := mulP_lt a b (i + 1)
  rw [show i + 1 + nd b = (i + nd b) + 1 from by omega, Nat.pow_succ] at h
  have h2 : mulP a b (i + 1) / 65536 ^ (i + nd b) < 65536 := Nat.div_lt_of_lt_mul h
  rw [Nat.mod_eq_of_lt h2]
theorem mulF_end (a b i L : Nat) : (rowOf (mulF a b i (nd b)) L).set (i + nd b) (.int .i64 (ovr a b i (nd b))) = rowOf (dig (mulP a b (i + 1))) L :=
  rowOf_set (ovr_end a b i).symm fun j _ hj => by
    unfold mulF
    by_cases h : j < i + nd b
    · rw [if_pos h, mulX_end]
    · rw [if_neg h, dig_high (n := mulP a b (i + 1)) (nd_le.2 (Nat.lt_of_lt_of_le (mulP_lt a b (i + 1)) (Nat.pow_le_pow_right (by omega) (by omega)))), dig_high (n := mulP a b i) (nd_le.2 (Nat.lt_of_lt_of_le (mulP_lt a b i) (Nat.pow_le_pow_right (by omega) (by omega))))]
theorem mulP_zero (a b L : Nat) : rowOf (fun _ => 0) L = rowOf (dig (mulP a b 0)) L := rowOf_congr fun j _ => by
  unfold mulP; rw [lowp_zero, Nat.zero_mul]; simp [dig]
theorem mulP_all (a b : Nat) : mulP a b (nd a) = a * b := by unfold mulP; rw [lowp_all (nd_lt a)]
theorem mul_fits (a b : Nat) : a * b < 65536 ^ (nd a + nd b) := by rw [Nat.pow_add]; exact Nat.mul_lt_mul'' (nd_lt a) (nd_lt b)
end Go.Proofs.YtkionnggdncncaaDoor

