/- Contracts of package int256 for valid numbers, told by the integers that they stand for. -/
import Derived.Test.YtbhffhipbdakgaaDoorI3f
namespace Go.Proofs.YtbhffhipbdakgaaDoor
open Go.RowKit Sx

abbrev Iz (z : Int) : Value := Ic (decide (z < 0)) z.natAbs
def iR (z : Int) : Int := if z.natAbs < B256 then z else 0
def iE (z : Int) : Int := if z.natAbs < B256 then 0 else 4
theorem sgn_Iz (z : Int) : sgn (decide (z < 0)) z.natAbs = z := by
  by_cases h : z < 0
  · rw [decide_eq_true h, sgn_true]; omega
  · rw [decide_eq_false h, sgn_false]; omega
theorem val_Iz (z : Int) : val (decide (z < 0)) z.natAbs = true := by
  by_cases h : z < 0
  · rw [decide_eq_true h, val_true]; simp; omega
  · rw [decide_eq_false h]; rfl
theorem Iz_of {s : Bool} {n : Nat} (h : val s n = true) : Ic s n = Iz (sgn s n) := by rw [Iz, sgn_lt h, sgn_abs]
theorem iR_small {z : Int} (h : z.natAbs < B256) : iR z = z := if_pos h
theorem iE_small {z : Int} (h : z.natAbs < B256) : iE z = 0 := if_pos h
theorem iE_big {z : Int} (h : ¬ z.natAbs < B256) : iE z = 4 := if_neg h
theorem iR_lt (z : Int) : (iR z).natAbs < B256 := by unfold iR; split; assumption; exact B256_pos
theorem resV_Iz (z : Int) : resV true z = .tuple #[Iz (iR z), .int .i64 (iE z)] := by
  by_cases h : z.natAbs < B256
  · rw [resV_small h, iR_small h, iE_small h]
  · rw [resV, show resN true z = 0 by simp [resN, chkR, h], show resS true z = false by simp [resS, ckS, h], show resE true z = 4 by simp [resE, chkE, h], show iR z = 0 from if_neg h, iE_big h]; rfl
theorem validZ (a : Int) (ha : a.natAbs < B256) : Det Tryd.prog 25 [Iz a] (.bool true) := by have := valid_any (decide (a < 0)) a.natAbs ha; rwa [val_Iz] at this
theorem addZ (a b : Int) (ha : a.natAbs < B256) (hb : b.natAbs < B256) : Det Tryd.prog 10 [Iz a, Iz b] (.tuple #[Iz (iR (a + b)), .int .i64 (iE (a + b))]) := by
  have := iadd_any (decide (a < 0)) (decide (b < 0)) _ _ ha hb
  rwa [val_Iz, val_Iz, sgn_Iz, sgn_Iz, Bool.true_and, resV_Iz] at this
theorem subZ (a b : Int) (ha : a.natAbs < B256) (hb : b.natAbs < B256) : Det Tryd.prog 12 [Iz a, Iz b] (.tuple #[Iz (iR (a - b)), .int .i64 (iE (a - b))]) := by
  have := isub_any (decide (a < 0)) (decide (b < 0)) _ _ ha hb
  rwa [val_Iz, val_Iz, sgn_Iz, sgn_Iz, Bool.true_and, resV_Iz] at this
theorem mulZ (a b : Int) (ha : a.natAbs < B256) (hb : b.natAbs < B256) : Det Tryd.prog 13 [Iz a, Iz b] (.tuple #[Iz (iR (a * b)), .int .i64 (iE (a * b))]) := by
  have := imul_any (decide (a < 0)) (decide (b < 0)) _ _ ha hb
  rwa [val_Iz, val_Iz, sgn_Iz, sgn_Iz, Bool.true_and, resV_Iz] at this
theorem cmpZ' (a b : Int) (ha : a.natAbs < B256) (hb : b.natAbs < B256) : Det Tryd.prog 26 [Iz a, Iz b] (.int .i64 (cmpZ3 true (a - b))) := by
  have := icmp_any (decide (a < 0)) (decide (b < 0)) _ _ ha hb
  rwa [val_Iz, val_Iz, sgn_Iz, sgn_Iz, Bool.true_and] at this
theorem negZ (a : Int) (ha : a.natAbs < B256) : Det Tryd.prog 23 [Iz a] (.tuple #[Iz (-a), .int .i64 0]) := by
  have := neg_any (decide (a < 0)) _ ha
  have e : (!decide (a < 0) && decide (a.natAbs ≠ 0)) = decide (-a < 0) := by
    by_cases h : a < 0
    · rw [decide_eq_true h, decide_eq_false (show ¬ -a < 0 by omega)]; rfl
    · by_cases h0 : a = 0
      · subst h0; rfl
      · rw [decide_eq_false h, decide_eq_true (show a.natAbs ≠ 0 by omega), decide_eq_true (show -a < 0 by omega)]; rfl
  have e2 : Ic (decide (-a < 0)) a.natAbs = Iz (-a) := by rw [Iz, Int.natAbs_neg]
  rwa [negV, e, e2, show negE (decide (a < 0)) a.natAbs = 0 from if_pos (val_Iz a)] at this
theorem newZ (k : Nat) (hk : k < 18446744073709551616) : Det Tryd.prog 15 [.bool false, .agg #[.int .u64 k, .int .u64 0, .int .u64 0, .int .u64 0]] (Iz k) := by
  have := new_any false k (Nat.lt_trans hk (by decide))
  rw [U_word k hk] at this
  have e : Iz k = Ic (false && decide (k ≠ 0)) k := by rw [Iz, decide_eq_false (by omega)]; rfl
  rwa [e]
theorem fl_div (a : Int) (k : Nat) (hk : k ≠ 0) : sgn (decide (a < 0)) (flN (decide (a < 0)) a.natAbs k) = a / (k : Int) := by
  have hk' : (0 : Int) < (k : Int) := by omega
  by_cases h : a < 0
  · rw [decide_eq_true h, sgn_true]
    obtain ⟨n, rfl⟩ : ∃ n : Nat, a = -(n : Int) := ⟨a.natAbs, by omega⟩
    rw [show (-(n : Int)).natAbs = n by omega]
    have hd := Nat.div_add_mod n k
    have hm := Nat.mod_lt n (by omega : k > 0)
    have hdz : (n : Int) = (k : Int) * ((n / k : Nat) : Int) + ((n % k : Nat) : Int) := by rw [← Int.natCast_mul, ← Int.natCast_add, hd]
    symm
    unfold flN
    split
    · rename_i hc
      apply (Int.ediv_eq_iff_of_pos hk').2
      rw [hdz, Int.natCast_add, Int.neg_mul, Int.add_mul, Int.mul_comm ((n / k : Nat) : Int)]
      have : 0 < n % k := Nat.pos_of_ne_zero hc.2
      constructor <;> simp <;> omega
    · rename_i hc
      have h0 : n % k = 0 := by
        rcases Nat.eq_zero_or_pos (n % k) with h | h
        · exact h
        · exact absurd ⟨rfl, by omega⟩ hc
      apply (Int.ediv_eq_iff_of_pos hk').2
      rw [hdz, h0, Int.neg_mul, Int.mul_comm ((n / k : Nat) : Int)]
      constructor <;> simp <;> omega
  · rw [decide_eq_false h, sgn_false]
    have : flN false a.natAbs k = a.natAbs / k := by simp [flN]
    rw [this, Int.natCast_ediv, show (a.natAbs : Int) = a by omega]
theorem divZ (a : Int) (k : Nat) (ha : a.natAbs < B256) (hk : k < 18446744073709551616) (h0 : k ≠ 0) : DetL 19 [Iz a, .agg #[.int .u64 k, .int .u64 0, .int .u64 0, .int .u64 0]] (.tuple #[Iz (a / k), .int .i64 0]) := by
  have := idiv_any (decide (a < 0)) a.natAbs k ha (Nat.lt_trans hk (by decide))
  rw [U_word k hk, dvV_yes (val_Iz a) h0, ← flN_pos, fl_div a k h0] at this
  have e : flN (decide (a < 0)) a.natAbs k = (a / (k : Int)).natAbs := by rw [← fl_div a k h0, sgn_abs]
  rwa [e] at this
theorem div_abs (a : Int) (k : Nat) (ha : a.natAbs < B256) (h0 : k ≠ 0) : (a / (k : Int)).natAbs < B256 := by
  have e : flN (decide (a < 0)) a.natAbs k = (a / (k : Int)).natAbs := by rw [← fl_div a k h0, sgn_abs]
  rw [← e]; exact Nat.lt_of_le_of_lt (flN_le h0) ha
end Go.Proofs.YtbhffhipbdakgaaDoor

