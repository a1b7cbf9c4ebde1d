/- Contracts of the reference's signed numbers over this translation: sign, FromInt256, Checked, Negate, Add, Mul, DivFloor. -/
import Derived.Test.YtbhffhipbdakgaaDoorI3r
import Derived.Test.YtbhffhipbdakgaaDoorI3n
namespace Go.Proofs.YtbhffhipbdakgaaDoor
open Go.RowKit Sx

theorem rsign_any {n : Nat} (s b : Bool) (hb : decide (sgn s n < 0) = b) (x : BigX n) (A : Facts) (hx : Sub x.L A) : Gives Tryd.prog 40 [.bool s, x.v] A (BigX n) (fun y => .agg #[.bool b, y.v]) BigX.L := by
  cases s with
  | false =>
    have : b = false := by rw [← hb]; simp [sgn]
    subst this; exact rsign_f x A hx
  | true =>
    have : b = decide ((nd n : Int) > 0) := by rw [← hb, nd_pos, decide_eq_decide, sgn_true]; omega
    subst this; exact rsign_t x A hx

theorem rfromI (s b : Bool) (n : Nat) (hn : n < B256) (hb : decide (sgn s n < 0) = b) (A : Facts) : Gives Tryd.prog 32 [Ic s n] A (BigX n) (fun y => .agg #[.bool b, y.v]) BigX.L :=
  rfrom_any s b n hn (fun x A hx => rsign_any s b hb x A hx) A

theorem rchk_any {n : Nat} (s : Bool) (x : BigX n) (A : Facts) (hx : Sub x.L A) : Gives Tryd.prog 33 [.agg #[.bool s, x.v]] A Unit (fun _ => .tuple #[Ic (ckS s n) (chkR n), .int .i64 (chkE n)]) (fun _ => []) := by
  by_cases h : n < B256
  · have := rchk_yes s x (by simp [chkE, h]) A hx
    rw [show ckS s n = s from if_pos h, show chkE n = 0 from if_pos h]
    exact this
  · have := rchk_no s x (by simp [chkE, h]) A hx
    rw [show ckS s n = false from if_neg h, show chkR n = 0 from if_neg h, Ic_zero]
    exact this

theorem rneg_any {n : Nat} (s b : Bool) (hb : decide (sgn (!s) n < 0) = b) (x : BigX n) (A : Facts) (hx : Sub x.L A) : Gives Tryd.prog 35 [.agg #[.bool s, x.v]] A (BigX n) (fun y => .agg #[.bool b, y.v]) BigX.L := by
  cases s with
  | false => exact rneg_f b x (fun x A hx => rsign_any true b hb x A hx) A hx
  | true => exact rneg_t b x (fun x A hx => rsign_any false b hb x A hx) A hx

theorem radd_any3 {n m : Nat} (s t : Bool) (k : Nat) (b : Bool) (hk : (sgn s n + sgn t m).natAbs = k) (hb : decide (sgn s n + sgn t m < 0) = b) (x : BigX n) (y : BigX m) (hn : nd n ≤ 1048576) (hm : nd m ≤ 1048576) (A : Facts) (hx : Sub x.L A) (hy : Sub y.L A) :
    Gives Tryd.prog 36 [.agg #[.bool s, x.v], .agg #[.bool t, y.v]] A (BigX k) (fun y => .agg #[.bool b, y.v]) BigX.L := by
  cases s <;> cases t
  · obtain rfl : k = n + m := by simp [sgn] at hk; omega
    exact radd_ff b x y hn hm (fun x A hx => rsign_any false b (by rw [← hb]; simp [sgn]) x A hx) A hx hy
  · simp only [sgn] at hk hb
    by_cases h : m ≤ n
    · obtain rfl : k = n - m := by simp at hk; omega
      exact radd_ftg b x y hn h (by unfold cmpI; simp; split; omega; split <;> omega) (fun x A hx => rsign_any false b (by rw [← hb]; simp [sgn]; omega) x A hx) A hx hy
    · obtain rfl : k = m - n := by simp at hk; omega
      exact radd_ftl b x y hm (by omega) (by unfold cmpI; rw [if_pos (by omega)]; decide) (fun x A hx => rsign_any true b (by rw [← hb]; simp [sgn]; omega) x A hx) A hx hy
  · simp only [sgn] at hk hb
    by_cases h : m ≤ n
    · obtain rfl : k = n - m := by simp at hk; omega
      exact radd_tfg b x y hn h (by unfold cmpI; simp; split; omega; split <;> omega) (fun x A hx => rsign_any true b (by rw [← hb]; simp [sgn]; omega) x A hx) A hx hy
    · obtain rfl : k = m - n := by simp at hk; omega
      exact radd_tfl b x y hm (by omega) (by unfold cmpI; rw [if_pos (by omega)]; decide) (fun x A hx => rsign_any false b (by rw [← hb]; simp [sgn]; omega) x A hx) A hx hy
  · obtain rfl : k = n + m := by simp [sgn] at hk; omega
    exact radd_tt b x y hn hm (fun x A hx => rsign_any true b (by rw [← hb]; simp [sgn]; omega) x A hx) A hx hy

theorem rmul_any3 {n m : Nat} (s t b : Bool) (hb : decide (sgn s n * sgn t m < 0) = b) (x : BigX n) (y : BigX m) (hn : nd n ≤ 1048576) (hm : nd m ≤ 1048576) (A : Facts) (hx : Sub x.L A) (hy : Sub y.L A) :
    Gives Tryd.prog 34 [.agg #[.bool s, x.v], .agg #[.bool t, y.v]] A (BigX (n * m)) (fun y => .agg #[.bool b, y.v]) BigX.L := by
  cases s <;> cases t
  · exact rmul_ff b x y hn hm (fun x A hx => rsign_any false b (by rw [← hb]; simp [sgn]) x A hx) A hx hy
  · exact rmul_ft b x y hn hm (fun x A hx => rsign_any true b (by rw [← hb]; simp [sgn, Int.mul_neg]) x A hx) A hx hy
  · exact rmul_tf b x y hn hm (fun x A hx => rsign_any true b (by rw [← hb]; simp [sgn, Int.neg_mul]) x A hx) A hx hy
  · exact rmul_tt b x y hn hm (fun x A hx => rsign_any false b (by rw [← hb, sgn_true, sgn_true, Int.neg_mul_neg]; simp [sgn]) x A hx) A hx hy

/-- The magnitude of the floor. -/
def flN (s : Bool) (n m : Nat) : Nat := if s ∧ n % m ≠ 0 then n / m + 1 else n / m
theorem rdivf_any {n m : Nat} (s b : Bool) (k : Nat) (hk : flN s n m = k) (hb : decide (sgn s k < 0) = b) (x : BigX n) (y : BigX m) (hn : nd n ≤ 1048575) (hm : nd m ≤ 1048575) (h0 : 0 < m) (A : Facts) (hx : Sub x.L A) (hy : Sub y.L A) :
    Gives Tryd.prog 47 [.agg #[.bool s, x.v], y.v] A (BigX k) (fun y => .agg #[.bool b, y.v]) BigX.L := by
  have hq : nd (n / m) ≤ 1048576 := Nat.le_trans (nd_mono (Nat.div_le_self n m)) (by omega)
  cases s with
  | false =>
    obtain rfl : k = n / m := by rw [← hk]; simp [flN]
    exact rdivf_f b x y (by omega) hm h0 (fun x A hx => rsign_any false b hb x A hx) A hx hy
  | true =>
    by_cases h : n % m = 0
    · obtain rfl : k = n / m := by rw [← hk]; simp [flN, h]
      exact rdivf_z b x y (by omega) hm h0 (by rw [nd_pos]; simp [h]) (fun x A hx => rsign_any true b hb x A hx) A hx hy
    · obtain rfl : k = n / m + 1 := by rw [← hk]; simp [flN, h]
      exact rdivf_t b x y (by omega) hm h0 hq (by rw [nd_pos]; simp [h]) (fun x A hx => rsign_any true b hb x A hx) A hx hy
theorem rvalid_any (s : Bool) (n : Nat) (hn : n < B256) : Det Tryd.prog 24 [Ic s n] (.bool (val s n)) := by
  cases s with
  | false => exact rvalid_f n
  | true =>
    rw [show val true n = !decide (n = 0) by simp [val]]
    exact rvalid_t n _ (d_zero n hn)
end Go.Proofs.YtbhffhipbdakgaaDoor

