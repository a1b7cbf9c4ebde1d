/- Plain arithmetic: two numbers added digit by digit in base 65536; rows of digits. No Go function in this text; no conditions. -/
import Derived.Test.YtkionnggdncncaaDoorDig
import Derived.Laws.AppendOwn
import Derived.Laws.Rows
namespace Go.Proofs.YtkionnggdncncaaDoor
open Go.RowKit

/-! ### Sums digit by digit -/
theorem pow_pos16 (k : Nat) : 0 < 65536 ^ k := Nat.pow_pos (by omega)
theorem lowp_succ (n k : Nat) : lowp n (k + 1) = lowp n k + 65536 ^ k * (n / 65536 ^ k % 65536) := by
  unfold lowp; rw [Nat.pow_succ, Nat.mod_mul]
theorem lowp_lt (n k : Nat) : lowp n k < 65536 ^ k := Nat.mod_lt _ (pow_pos16 k)
theorem lowp_div (n k : Nat) : n = lowp n k + 65536 ^ k * (n / 65536 ^ k) := by
  unfold lowp; have := Nat.div_add_mod n (65536 ^ k); omega
/-- The carry into place k. -/
def car (a b k : Nat) : Int := (((lowp a k + lowp b k) / 65536 ^ k : Nat) : Int)
theorem car_zero (a b : Nat) : car a b 0 = 0 := by unfold car; rw [lowp_zero, lowp_zero]; rfl
theorem car_nonneg (a b k : Nat) : 0 ≤ car a b k := by unfold car; exact Int.natCast_nonneg _
theorem car_le (a b k : Nat) : car a b k ≤ 1 := by
  have h1 := lowp_lt a k; have h2 := lowp_lt b k
  have : (lowp a k + lowp b k) / 65536 ^ k < 2 := Nat.div_lt_of_lt_mul (by omega)
  unfold car; omega
theorem car_nat (P la lb da db : Nat) (hP : 0 < P) :
    (la + P * da + (lb + P * db)) / (P * 65536) = ((la + lb) / P + da + db) / 65536 := by
  rw [← Nat.div_div_eq_div_mul, show la + P * da + (lb + P * db) = (la + lb) + P * (da + db) from by rw [Nat.mul_add]; omega, Nat.add_mul_div_left _ _ hP, Nat.add_assoc]
theorem car_succ (a b k : Nat) : (car a b k + dig a k + dig b k) / 65536 = car a b (k + 1) := by
  have h := car_nat (65536 ^ k) (lowp a k) (lowp b k) (a / 65536 ^ k % 65536) (b / 65536 ^ k % 65536) (pow_pos16 k)
  unfold car dig
  rw [lowp_succ, lowp_succ, Nat.pow_succ, h]
  omega
theorem dig_add (a b k : Nat) : (car a b k + dig a k + dig b k) % 65536 = dig (a + b) k := by
  unfold car dig
  have h : (a + b) / 65536 ^ k = (lowp a k + lowp b k) / 65536 ^ k + a / 65536 ^ k + b / 65536 ^ k := by
    have e : a + b = (lowp a k + lowp b k) + 65536 ^ k * (a / 65536 ^ k + b / 65536 ^ k) := by
      rw [Nat.mul_add]; have h1 := lowp_div a k; have h2 := lowp_div b k; omega
    have e2 : (a + b) / 65536 ^ k = ((lowp a k + lowp b k) + 65536 ^ k * (a / 65536 ^ k + b / 65536 ^ k)) / 65536 ^ k := congrArg (· / 65536 ^ k) e
    rw [e2, Nat.add_mul_div_left _ _ (pow_pos16 k), Nat.add_assoc]
  rw [h]
  generalize a / 65536 ^ k = x; generalize b / 65536 ^ k = y; generalize (lowp a k + lowp b k) / 65536 ^ k = z
  omega
theorem dig_high {n k : Nat} (h : nd n ≤ k) : dig n k = 0 := by
  unfold dig; rw [Nat.div_eq_of_lt (nd_le.1 h)]; rfl
theorem nd_mono {a b : Nat} (h : a ≤ b) : nd a ≤ nd b := by unfold nd; have := blen_mono h; omega
/-- There is a digit at k as long as a summand or the carry reaches it. -/
theorem add_more {a b k : Nat} (h : k < nd a ∨ k < nd b ∨ 0 < car a b k) : k < nd (a + b) := by
  rcases h with h | h | h
  · exact Nat.lt_of_lt_of_le h (nd_mono (by omega))
  · exact Nat.lt_of_lt_of_le h (nd_mono (by omega))
  · have h1 : ¬ a + b < 65536 ^ k := fun h2 => by
      have ha : lowp a k ≤ a := Nat.mod_le _ _
      have hb : lowp b k ≤ b := Nat.mod_le _ _
      unfold car at h
      rw [Nat.div_eq_of_lt (by omega)] at h
      simp at h
    have := mt nd_le.1 h1
    omega
theorem add_end {a b k : Nat} (ha : nd a ≤ k) (hb : nd b ≤ k) (hc : car a b k = 0) (hk : k ≤ nd (a + b)) : k = nd (a + b) := by
  have h1 := nd_le.1 ha; have h2 := nd_le.1 hb
  have : a + b < 65536 ^ k := by
    unfold car at hc
    rw [lowp_all h1, lowp_all h2] at hc
    have h3 : (a + b) / 65536 ^ k = 0 := by omega
    rcases Nat.div_eq_zero_iff.1 h3 with h4 | h4
    · have := pow_pos16 k; omega
    · exact h4
  have := nd_le.2 this
  omega
theorem and16i (x : Int) (h0 : 0 ≤ x) (h1 : x < 9223372036854775808) : bits BinOp.and IntKind.i64 x 65535 = x % 65536 := by
  obtain ⟨n, rfl⟩ := Int.eq_ofNat_of_zero_le h0
  have a1 : (BitVec.ofInt 64 (n : Int)).toNat = n := by
    rw [BitVec.ofInt_natCast, BitVec.toNat_ofNat]; exact Nat.mod_eq_of_lt (by omega)
  have a2 : (BitVec.ofInt 64 65535).toNat = 65535 := rfl
  have e : n &&& 65535 = n % 65536 := Nat.and_two_pow_sub_one_eq_mod n 16
  show IntKind.i64.wrap ((BitVec.ofInt 64 (n : Int) &&& BitVec.ofInt 64 65535).toNat : Int) = _
  rw [BitVec.toNat_and, a1, a2, e, IntKind.wrap_i64]
  omega

/-! ### Rows of digits that a call has made itself -/
/-- The lowest k digits of n. -/
def digs (n k : Nat) : List Value := (List.range k).map fun i => .int .i64 (dig n i)
theorem digs_len (n k : Nat) : (digs n k).length = k := by simp [digs]
theorem digs_succ (n k : Nat) : digs n (k + 1) = digs n k ++ [.int .i64 (dig n k)] := by simp [digs, List.range_succ]
theorem digs_get {n k i : Nat} (h : i < k) : (digs n k)[i]? = some (.int .i64 (dig n i)) := by simp [digs, h]
theorem raw_of_own {w : World} {base n k : Nat} {e : TypeId} {v : Value} (h : w.ownsRow base e 1 v k (digs n k)) (hn : n < 65536 ^ k) (hk : k ≤ 4294967296) : Raw w v n k := by
  rcases h.2 with ⟨rfl, rfl⟩ | ⟨g, cap, cur, rfl, _, hh, hc, _, hz, ht⟩
  · exact ⟨none, 0, rfl, by omega, by omega, hn, fun h0 => absurd h0 (by omega)⟩
  · refine ⟨_, cap, rfl, hc, hk, hn, fun h0 => ⟨g, rfl, ?_, fun i hi => ?_⟩⟩
    · rcases Nat.lt_or_ge g w.heap.size with h1 | h1
      · exact h1
      · rw [Array.getElem?_eq_none h1] at hh; cases hh
    · rw [cell_of_row w g i cur e (0, 0) hh]
      have h2 := digs_get (n := n) hi
      rw [← ht, Nat.mul_one, List.getElem?_take, if_pos hi] at h2
      rw [← h2, Array.getElem?_toList]
/-- Behind an append of the next digit. -/
theorem grow_rel {B k n : Nat} {w wr w1 : World} {v v' : Value} {o : Obj} {e : TypeId} (hown : wr.ownsRow B e 1 v k (digs n k)) (hnx : Below B w wr) (hB : B ≤ wr.heap.size)
    (hown' : w1.ownsRow B e 1 v' (k + 1) (digs n k ++ [.int .i64 (dig n k)])) (hgrow : (wr.alloc o).grownBy w1 v.ownBlock) :
    w1.ownsRow B e 1 v' (k + 1) (digs n (k + 1)) ∧ Below B w w1 := by
  refine ⟨by rw [digs_succ]; exact hown', (hnx.alloc hB o).grown hgrow (by simp; omega) (fun j hj => (hown.lt j hj).1)⟩
theorem nd_add (a b m : Nat) (ha : nd a ≤ m) (hb : nd b ≤ m) : nd (a + b) ≤ m + 1 := by
  have h1 := nd_le.1 ha; have h2 := nd_le.1 hb
  refine nd_le.2 ?_
  rw [Nat.pow_succ]; omega

end Go.Proofs.YtkionnggdncncaaDoor

