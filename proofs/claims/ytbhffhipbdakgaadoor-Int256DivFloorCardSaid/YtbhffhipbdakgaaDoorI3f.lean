/- Contracts of DivFloor and of the reference's functions of layer 3 over this translation: the same results as the package's. DivFloor's holds where the package's variable for the largest number holds the largest number. -/
import Derived.Test.YtbhffhipbdakgaaDoorI3v
namespace Go.Proofs.YtbhffhipbdakgaaDoor
open Go.RowKit Sx

def dvS (v s : Bool) (n d : Nat) : Bool := v && decide (d ≠ 0) && decide (sgn s (flN s n d) < 0)
def dvN (v s : Bool) (n d : Nat) : Nat := if v ∧ d ≠ 0 then flN s n d else 0
def dvE (v : Bool) (d : Nat) : Int := if v then (if d = 0 then 5 else 0) else 2
abbrev dvV (s : Bool) (n d : Nat) : Value := .tuple #[Ic (dvS (val s n) s n d) (dvN (val s n) s n d), .int .i64 (dvE (val s n) d)]
theorem flN_le {s : Bool} {n d : Nat} (hd : d ≠ 0) : flN s n d ≤ n := by
  unfold flN
  split
  · rename_i h
    have h1 : 2 ≤ d := by
      rcases Nat.lt_or_ge d 2 with h2 | h2
      · have : d = 1 := by omega
        subst this
        exact absurd (Nat.mod_one n) h.2
      · exact h2
    have h3 := Nat.div_add_mod n d
    have h4 : 2 * (n / d) ≤ d * (n / d) := Nat.mul_le_mul_right _ h1
    omega
  · exact Nat.div_le_self n d
theorem flN_pos {s : Bool} {k : Nat} : decide (sgn s k < 0) = (s && decide (k ≠ 0)) := by
  cases s
  · simp [sgn]
  · rw [sgn_true, Bool.true_and, decide_eq_decide]; omega
theorem dvV_no {s : Bool} {n d : Nat} (h : val s n = false) : dvV s n d = .tuple #[.agg #[.bool false, .int .u64 0, .int .u64 0, .int .u64 0, .int .u64 0], .int .i64 2] := by
  rw [dvV, h, ← Ic_zero, show dvN false s n d = 0 from if_neg (by simp)]; rfl
theorem dvV_zero {s : Bool} {n : Nat} (h : val s n = true) : dvV s n 0 = .tuple #[.agg #[.bool false, .int .u64 0, .int .u64 0, .int .u64 0, .int .u64 0], .int .i64 5] := by
  rw [dvV, h, ← Ic_zero, show dvN true s n 0 = 0 from if_neg (by simp)]; rfl
theorem dvV_yes {s : Bool} {n d : Nat} (h : val s n = true) (hd : d ≠ 0) : dvV s n d = .tuple #[Ic (s && decide (flN s n d ≠ 0)) (flN s n d), .int .i64 0] := by
  rw [dvV, h, ← flN_pos, show dvN true s n d = flN s n d from if_pos ⟨rfl, hd⟩, show dvS true s n d = decide (sgn s (flN s n d) < 0) from by simp [dvS, hd], show dvE true d = 0 from by simp [dvE, hd]]

theorem idiv_any (s : Bool) (n d : Nat) (hn : n < B256) (hd : d < B256) : DetL 19 [Ic s n, U d] (dvV s n d) := by
  have hv := valid_any s n hn
  cases h : val s n with
  | false => rw [h] at hv; rw [dvV_no h]; exact (idiv_no s n d hv).L
  | true =>
    rw [h] at hv
    have hm := d_divmod n d hn hd
    by_cases h0 : d = 0
    · subst h0
      rw [dvV_zero h]
      rw [show quoE 0 (n / 0) = 5 from rfl] at hm
      exact (idiv_code s n 0 _ _ 5 rfl hv hm).L
    · have hq : n / d < B256 := Nat.lt_of_le_of_lt (Nat.div_le_self n d) hn
      have hr : n % d < B256 := Nat.lt_of_le_of_lt (Nat.mod_le n d) hn
      rw [show quoE d (n / d) = 0 by simp [quoE, h0, chkE, hq], show quoR d (n / d) = n / d by simp [quoR, h0, chkR, hq], show remR d (n / d) (n % d) = n % d by simp [remR, h0, hq]] at hm
      rw [dvV_yes h h0]
      have hk : flN s n d < B256 := Nat.lt_of_le_of_lt (flN_le h0) hn
      cases s with
      | false =>
        rw [show flN false n d = n / d by simp [flN]]
        exact (idiv_f n d _ _ _ _ hv hm (new_any false _ hq)).L
      | true =>
        by_cases hz : n % d = 0
        · rw [show flN true n d = n / d by simp [flN, hz]]
          exact (idiv_z n d _ _ _ _ (by rw [isz_eq hr]; simp [hz]) hv hm (new_any true _ hq)).L
        · have e : flN true n d = n / d + 1 := by simp [flN, hz]
          rw [e] at hk ⊢
          have hs := dl_satadd (n / d) 1 hq (by decide)
          rw [show satA (n / d) 1 = n / d + 1 by simp [satA, hk]] at hs
          exact idiv_t n d _ _ _ _ 1 _ (by rw [isz_eq hr]; simp [hz]) hv hm (d_u64 1 (by decide)) hs (new_any true _ hk)

theorem sgn_dec (s : Bool) (n : Nat) : sgn (decide (sgn s n < 0)) n = sgn s n := by
  cases s
  · rw [sgn_false, decide_eq_false (by omega)]; rfl
  · by_cases h : n = 0
    · subst h; simp [sgn]
    · rw [sgn_true, decide_eq_true (by omega)]; rfl
theorem sgn_not (t : Bool) (m : Nat) : sgn (decide (sgn (!t) m < 0)) m = - sgn t m := by rw [sgn_dec, sgn_neg]

theorem rcmp_any3 (s t : Bool) (n m : Nat) (hn : n < B256) (hm : m < B256) : Det Tryd.prog 27 [Ic s n, Ic t m] (.int .i64 (cmpZ3 (val s n && val t m) (sgn s n - sgn t m))) := by
  have hv := rvalid_any s n hn
  have hw := rvalid_any t m hm
  cases h1 : val s n with
  | false => rw [h1] at hv; exact rcmp3_a s t n m hv
  | true =>
    rw [h1] at hv
    cases h2 : val t m with
    | false => rw [h2] at hw; exact rcmp3_b s t n m hv hw
    | true =>
      rw [h2] at hw
      have hz : sgn s n + sgn (decide (sgn (!t) m < 0)) m = sgn s n - sgn t m := by rw [sgn_not]; omega
      show Det _ _ _ (.int .i64 (cmpZ3 true (sgn s n - sgn t m)))
      by_cases l : sgn s n - sgn t m < 0
      · rw [show cmpZ3 true (sgn s n - sgn t m) = -1 by simp [cmpZ3, l]]
        exact rcmp3_lt s t n m hn hm (sgn_lt h1) (sgn_lt h2) true _ _ rfl rfl (by rw [hz]; simp [l]) rfl hv hw
      · by_cases g : 0 < sgn s n - sgn t m
        · rw [show cmpZ3 true (sgn s n - sgn t m) = 1 by simp only [cmpZ3, if_true]; rw [if_neg l, if_pos g]]
          exact rcmp3_gt s t n m hn hm (sgn_lt h1) (sgn_lt h2) false _ _ rfl rfl (by rw [hz]; simp only [decide_eq_false_iff_not]; exact l) rfl (by rw [nd_pos, hz]; simp only [decide_eq_true_eq]; omega) hv hw
        · rw [show cmpZ3 true (sgn s n - sgn t m) = 0 by simp only [cmpZ3, if_true]; rw [if_neg l, if_neg g]]
          exact rcmp3_eq s t n m hn hm (sgn_lt h1) (sgn_lt h2) false _ _ rfl rfl (by rw [hz]; simp only [decide_eq_false_iff_not]; exact l) rfl (by rw [nd_pos, hz]; simp only [decide_eq_false_iff_not]; omega) hv hw

theorem rdiff_any3 (n m : Nat) (hn : n < B256) (hm : m < B256) : Det Tryd.prog 22 [U n, U m] (Ic (decide ((n : Int) - m < 0)) ((n : Int) - m).natAbs) := by
  have hz : sgn false n + sgn (decide (sgn (!false) m < 0)) m = (n : Int) - m := by rw [sgn_not]; simp [sgn]; omega
  have := rdiff3 n m hn hm (decide ((n : Int) - m < 0)) _ ((n : Int) - m).natAbs rfl (by rw [← hz]; rfl) (by rw [← hz]; rfl)
  have hk : ((n : Int) - m).natAbs < B256 := by omega
  rw [show ckS (decide ((n : Int) - m < 0)) ((n : Int) - m).natAbs = decide ((n : Int) - m < 0) from if_pos hk, show chkR ((n : Int) - m).natAbs = ((n : Int) - m).natAbs from if_pos hk] at this
  exact this

theorem rclamp_any3 (a : Nat) (s : Bool) (n : Nat) (ha : a < B256) (hn : n < B256) : Det Tryd.prog 18 [U a, Ic s n] (clV (val s n) (a + sgn s n)) := by
  have hv := rvalid_any s n hn
  cases h : val s n with
  | false =>
    rw [h] at hv
    rw [clV, show clN false (a + sgn s n) = 0 from rfl, show clE false (a + sgn s n) = 2 from rfl, U_zero]
    exact rclamp3_no s n a hv
  | true =>
    rw [h] at hv
    by_cases l : (a : Int) + sgn s n < 0
    · rw [clV, show clN true (a + sgn s n) = 0 by simp [clN, l], show clE true (a + sgn s n) = 0 by simp [clE, l], U_zero]
      exact rclamp3_neg s n a hn ha (sgn_lt h) true _ rfl (by rw [sgn_false]; simp [l]) rfl hv
    · rw [clV, show clN true (a + sgn s n) = chkR ((a : Int) + sgn s n).natAbs by simp [clN, l], show clE true (a + sgn s n) = chkE ((a : Int) + sgn s n).natAbs by simp [clE, l]]
      exact rclamp3_pos s n a hn ha (sgn_lt h) false _ rfl (by rw [sgn_false]; simp only [decide_eq_false_iff_not]; exact l) rfl hv

theorem rbin_any1 (s t : Bool) (n m : Nat) (hn : n < B256) (hm : m < B256) : Det Tryd.prog 11 [.int .i64 1, Ic s n, Ic t m] (resV (val s n && val t m) (sgn s n + sgn t m)) := by
  have hv := rvalid_any s n hn
  have hw := rvalid_any t m hm
  cases h1 : val s n with
  | false => rw [h1] at hv; rw [Bool.false_and, resV_no]; exact rbin1_a s t n m hv
  | true =>
    rw [h1] at hv
    cases h2 : val t m with
    | false => rw [h2] at hw; rw [Bool.and_false, resV_no]; exact rbin1_b s t n m hv hw
    | true => rw [h2] at hw; exact rbin1 s t n m hn hm (sgn_lt h1) (sgn_lt h2) _ _ rfl rfl hv hw
theorem rbin_any2 (s t : Bool) (n m : Nat) (hn : n < B256) (hm : m < B256) : Det Tryd.prog 11 [.int .i64 2, Ic s n, Ic t m] (resV (val s n && val t m) (sgn s n - sgn t m)) := by
  have hv := rvalid_any s n hn
  have hw := rvalid_any t m hm
  cases h1 : val s n with
  | false => rw [h1] at hv; rw [Bool.false_and, resV_no]; exact rbin2_a s t n m hv
  | true =>
    rw [h1] at hv
    cases h2 : val t m with
    | false => rw [h2] at hw; rw [Bool.and_false, resV_no]; exact rbin2_b s t n m hv hw
    | true =>
      rw [h2] at hw
      have hz : sgn s n + sgn (decide (sgn (!t) m < 0)) m = sgn s n - sgn t m := by rw [sgn_not]; omega
      exact rbin2 s t n m hn hm (sgn_lt h1) (sgn_lt h2) (decide (sgn s n - sgn t m < 0)) _ (sgn s n - sgn t m).natAbs rfl (by rw [hz]) (by rw [hz]) hv hw
theorem rbin_any3 (s t : Bool) (n m : Nat) (hn : n < B256) (hm : m < B256) : Det Tryd.prog 11 [.int .i64 3, Ic s n, Ic t m] (resV (val s n && val t m) (sgn s n * sgn t m)) := by
  have hv := rvalid_any s n hn
  have hw := rvalid_any t m hm
  cases h1 : val s n with
  | false => rw [h1] at hv; rw [Bool.false_and, resV_no]; exact rbin3_a s t n m hv
  | true =>
    rw [h1] at hv
    cases h2 : val t m with
    | false => rw [h2] at hw; rw [Bool.and_false, resV_no]; exact rbin3_b s t n m hv hw
    | true =>
      rw [h2] at hw
      have := rbin3 s t n m hn hm (sgn_lt h1) (sgn_lt h2) (decide (sgn s n * sgn t m < 0)) rfl hv hw
      have e : (sgn s n * sgn t m).natAbs = n * m := by rw [Int.natAbs_mul, sgn_abs, sgn_abs]
      rw [← e] at this
      exact this

theorem rdiv_any3 (s : Bool) (n d : Nat) (hn : n < B256) (hd : d < B256) : Det Tryd.prog 20 [Ic s n, U d] (dvV s n d) := by
  have hv := rvalid_any s n hn
  have h0 := d_zero d hd
  cases h : val s n with
  | false => rw [h] at hv; rw [dvV_no h]; exact rdiv3_no s n d hv
  | true =>
    rw [h] at hv
    by_cases hz : d = 0
    · subst hz; rw [dvV_zero h]; exact rdiv3_zero s n 0 hv h0
    · rw [decide_eq_false hz] at h0
      rw [dvV_yes h hz]
      have hk : flN s n d < B256 := Nat.lt_of_le_of_lt (flN_le hz) hn
      have := rdiv3_yes s _ n d _ hn hd (by omega) (sgn_lt h) rfl flN_pos hv h0
      rw [show ckS (s && decide (flN s n d ≠ 0)) (flN s n d) = (s && decide (flN s n d ≠ 0)) from if_pos hk, show chkR (flN s n d) = flN s n d from if_pos hk, show chkE (flN s n d) = 0 from if_pos hk] at this
      exact this
end Go.Proofs.YtbhffhipbdakgaaDoor

