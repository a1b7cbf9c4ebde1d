/- The laws of layer 14 over this translation: each returns true. No conditions. -/
import Derived.Test.YtlaapbenpjopiaaF4v
import Derived.Test.YtlaapbenpjopiaaB5l
import Derived.Test.YtlaapbenpjopiaaV2l
namespace Go.Proofs.Ytlaapbenpjopiaa
open Go.RowKit Sx
set_option maxRecDepth 100000

inductive Q14 where
  | a | b | c | d
def Q14.n : Q14 → Nat
  | .a => 0 | .b => 1 | .c => 2 | .d => 3
theorem fee_v (n : Nat) (hn : n < 18446744073709551616) (p : Par) (hp : PWf p) (hf : fi p = 0) : Det Try.prog 22 [wd n, PV p] (.tuple #[U (feN n p), .int .i64 0]) := by
  have := p_f14 n hn p hp
  rwa [feR_ok hf, (xpR_ok (n := n) hf).2] at this
theorem exp_v (n : Nat) (hn : n < 18446744073709551616) (p : Par) (hp : PWf p) (hf : fi p = 0) : Det Try.prog 25 [wd n, PV p] (.tuple #[wd (xpN n p), .int .i64 0]) := by
  have := p_x14 n hn p hp
  rwa [(xpR_ok (n := n) hf).1, (xpR_ok (n := n) hf).2] at this
theorem sc_v (n x : Nat) (hn : n < 18446744073709551616) (hx : x ≤ 200000) : Det Try.prog 40 [U n, wd (expN x 10)] (.tuple #[U (scN n (expN x 10)), .int .i64 0]) := by
  have hb : expN x 10 < 10000000000000 := exp_lt hx (by decide)
  have := scale_raw n (expN x 10) (lt_B hn) (Nat.lt_trans hb (by decide))
  have c := chk_lt (sc_lt hn hb)
  rwa [c.1, c.2] at this
theorem fi_t {p : Par} (h : fi p = 0) : (((fi p : Nat) : Int) == 0) = true := by rw [h]; rfl
theorem eqU14 {m n : Nat} (h : m = n) : cellsEq [.int .u64 (limb m 0), .int .u64 (limb m 1), .int .u64 (limb m 2), .int .u64 (limb m 3)] [.int .u64 (limb n 0), .int .u64 (limb n 1), .int .u64 (limb n 2), .int .u64 (limb n 3)] = true := by subst h; simp [cellsEq, cellEq]
theorem eq_14 {m n : Nat} (h : m = n) : ((m : Int) == (n : Int)) = true := by subst h; simp
theorem eq_z {m : Nat} (h : m = 0) : ((m : Int) == 0) = true := by subst h; rfl
theorem Cal.w120 {p : Par} (c : Cal p) : p 1 * p 2 < 18446744073709551616 := Nat.lt_of_succ_lt c.w12
theorem md_tol (b m : Nat) : b % (m + 1) ≤ m := Nat.le_of_lt_succ (Nat.mod_lt _ (Nat.succ_pos _))
theorem tol_w {p : Par} (c : Cal p) (b : Nat) : b % (p 1 * p 2 + 1) < 18446744073709551616 := Nat.lt_of_le_of_lt (md_tol _ _) c.w120
theorem k26 (n : Int) : modI n 26 < 26 := modI_lt n (by decide)
theorem k26w (n : Int) : modI n 26 < 18446744073709551616 := Nat.lt_trans (k26 n) (by decide)
theorem k26t (n : Int) : modI n 26 * 10000 < 18446744073709551616 := by have := k26 n; omega
theorem Cal.wkw {p : Par} (c : Cal p) (n : Int) : modI n 26 * p 3 < 18446744073709551616 := Nat.lt_of_le_of_lt (c.wk (k26 n)) (by decide)
theorem Cal.wiw {p : Par} (c : Cal p) (n : Int) : modI n 26 * p 3 * p 1 < 18446744073709551616 := Nat.lt_of_le_of_lt (c.wi (k26 n)) (by decide)
theorem fe_whole {p : Par} (k : POk p) (i : Nat) : feN (p 1 * p 2 + i * p 3 * p 1) p = scN (p 4) (expN (min (i * 10000) 200000) 10) := by
  unfold feN
  rw [xp_whole k i]
theorem ad_l4 {n x m : Nat} (hn : n < 18446744073709551616) (h : n + x % m < 18446744073709551616) : IntKind.u64.wrap (limb n 0 + (x : Int).tmod (m : Int)) = ((n + x % m : Nat) : Int) := by
  rw [limb_self hn]
  exact ad_md h
theorem Cal.t2 {p : Par} (c : Cal p) (x : Nat) : p 2 + x % 1000 < 18446744073709551616 := by have := c.b2; omega
theorem Cal.t3 {p : Par} (c : Cal p) (x : Nat) : p 3 + x % 1000 < 18446744073709551616 := by have := c.b3; omega
theorem Cal.t4 {p : Par} (c : Cal p) (x : Nat) : p 4 + x % 1152921504606846976 < 18446744073709551616 := by have := c.b4; omega
abbrev PV4 (p : Par) (x : Nat) : Value := .agg #[wd (p 1), wd (p 2), wd (p 3), wd x, .int .u64 0, .int .u64 0, .int .u64 0, wd (p 5), .int .u64 (limb (p 6) 0), .int .u64 (limb (p 6) 1), .int .u64 (limb (p 6) 2), .int .u64 (limb (p 6) 3), wd (p 7), .int .u64 (limb (p 8) 0), .int .u64 (limb (p 8) 1), .int .u64 (limb (p 8) 2), .int .u64 (limb (p 8) 3), wd (p 9), wd (p 10), wd (p 11), wd (p 12)]
theorem PV4_eq {p : Par} {x : Nat} (h : x < 18446744073709551616) : PV (updP p 4 x) = PV4 p x := by
  have e := w0_limb h
  show Value.agg #[wd (p 1), wd (p 2), wd (p 3), .int .u64 (limb x 0), .int .u64 (limb x 1), .int .u64 (limb x 2), .int .u64 (limb x 3), wd (p 5), .int .u64 (limb (p 6) 0), .int .u64 (limb (p 6) 1), .int .u64 (limb (p 6) 2), .int .u64 (limb (p 6) 3), wd (p 7), .int .u64 (limb (p 8) 0), .int .u64 (limb (p 8) 1), .int .u64 (limb (p 8) 2), .int .u64 (limb (p 8) 3), wd (p 9), wd (p 10), wd (p 11), wd (p 12)] = _
  rw [← e.1, e.2.1, e.2.2.1, e.2.2.2]
theorem fee_2 (n : Nat) (hn : n < 18446744073709551616) {p : Par} (c : Cal p) (x : Nat) : Det Try.prog 22 [wd n, PV (updP p 2 (p 2 + x % 1000))] (.tuple #[U (feN n (updP p 2 (p 2 + x % 1000))), .int .i64 0]) :=
  fee_v n hn _ (up_wf c.wf (c.up2 x) (by decide) (by decide)) (c.up2 x)
theorem fee_3 (n : Nat) (hn : n < 18446744073709551616) {p : Par} (c : Cal p) (x : Nat) : Det Try.prog 22 [wd n, PV (updP p 3 (p 3 + x % 1000))] (.tuple #[U (feN n (updP p 3 (p 3 + x % 1000))), .int .i64 0]) :=
  fee_v n hn _ (up_wf c.wf (c.up3 x) (by decide) (by decide)) (c.up3 x)
theorem fee_4 (n : Nat) (hn : n < 18446744073709551616) {p : Par} (c : Cal p) (x : Nat) : Det Try.prog 22 [wd n, PV4 p (p 4 + x % 1152921504606846976)] (.tuple #[U (feN n (updP p 4 (p 4 + x % 1152921504606846976))), .int .i64 0]) := by
  rw [← PV4_eq (c.t4 x)]
  exact fee_v n hn _ (up_wf c.wf (c.up4 x) (by decide) (by decide)) (c.up4 x)
theorem m_40 {b : Nat} (h : b < 18446744073709551616) (k : Nat) : b % k < 18446744073709551616 := Nat.lt_of_le_of_lt (Nat.mod_le _ _) h
end Go.Proofs.Ytlaapbenpjopiaa

