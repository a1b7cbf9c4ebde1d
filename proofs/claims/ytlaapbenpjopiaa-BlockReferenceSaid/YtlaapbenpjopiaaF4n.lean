/- Layer 14 over natural numbers: the exponent of the base fee, the fee, how both change with the backlog and the parameters, the parameters that eight words determine. No Go function in this text; no conditions. -/
import Derived.Test.YtlaapbenpjopiaaG3p
import Derived.Test.YtlaapbenpjopiaaV2l
import Derived.Test.YtlaapbenpjopiaaB5l
import Derived.Test.YtlaapbenpjopiaaSxs
namespace Go.Proofs.Ytlaapbenpjopiaa
open Go.RowKit Sx
set_option maxRecDepth 100000

/-- A part of a whole in basis points, or the greatest exponent where that has more than 64 bits. -/
def bpN (x y : Nat) : Nat := if y ≤ x * 10000 / 18446744073709551616 then 200000 else x * 10000 / y
def xpN (n : Nat) (p : Par) : Nat := min (resS n (p 1) (p 2) * 10000 / (p 3 * p 1)) 200000
def xpR (n : Nat) (p : Par) : Nat := if fi p = 0 then xpN n p else 0
def okE (p : Par) : Int := if fi p = 0 then 0 else 15
def feN (n : Nat) (p : Par) : Nat := scN (p 4) (expN (xpN n p) 10)
def feR (n : Nat) (p : Par) : Nat := if fi p = 0 then feN n p else 0
/-- The bounds that valid parameters keep. -/
structure POk (p : Par) : Prop where
  a1 : 1 ≤ p 1
  b1 : p 1 ≤ 1099511627776
  b2 : p 2 ≤ 1048576
  a3 : 1 ≤ p 3
  b3 : p 3 ≤ 1048576
  a4 : 1 ≤ p 4
  b4 : p 4 < 18446744073709551616
theorem pok_of {p : Par} (h : fi p = 0) : POk p := by
  have h1 := (fi_0 p).1 h 1 (by decide) (by decide)
  have h2 := (fi_0 p).1 h 2 (by decide) (by decide)
  have h3 := (fi_0 p).1 h 3 (by decide) (by decide)
  have h4 := (fi_0 p).1 h 4 (by decide) (by decide)
  simp [okK, inR, loK, hiK] at h1 h2 h3 h4
  exact ⟨by omega, by omega, by omega, by omega, by omega, by omega, by omega⟩
theorem POk.w1 {p : Par} (k : POk p) : p 1 < 18446744073709551616 := by have := k.b1; omega
theorem POk.w2 {p : Par} (k : POk p) : p 2 < 18446744073709551616 := by have := k.b2; omega
theorem POk.w3 {p : Par} (k : POk p) : p 3 < 18446744073709551616 := by have := k.b3; omega
theorem POk.w31 {p : Par} (k : POk p) : p 3 * p 1 < 18446744073709551616 := Nat.lt_of_le_of_lt (Nat.mul_le_mul k.b3 k.b1) (by decide)
theorem POk.p31 {p : Par} (k : POk p) : 0 < p 3 * p 1 := Nat.mul_pos k.a3 k.a1
theorem xpN_le (n : Nat) (p : Par) : xpN n p ≤ 200000 := Nat.min_le_right _ _
theorem xpR_ok {n : Nat} {p : Par} (h : fi p = 0) : xpR n p = xpN n p ∧ okE p = 0 := ⟨if_pos h, if_pos h⟩
theorem xpR_no {n : Nat} {p : Par} (h : ¬ fi p = 0) : xpR n p = 0 ∧ okE p = 15 := ⟨if_neg h, if_neg h⟩
theorem feR_ok {n : Nat} {p : Par} (h : fi p = 0) : feR n p = feN n p := if_pos h
theorem feR_no {n : Nat} {p : Par} (h : ¬ fi p = 0) : feR n p = 0 := if_neg h
theorem bp_hi {x y : Nat} (h : y ≤ x * 10000 / 18446744073709551616) : bpN x y = 200000 := if_pos h
theorem bp_lo {x y : Nat} (h : ¬ y ≤ x * 10000 / 18446744073709551616) : bpN x y = x * 10000 / y := if_neg h
theorem bp_lt {x y : Nat} (hy : 0 < y) : bpN x y < 18446744073709551616 := by
  by_cases h : y ≤ x * 10000 / 18446744073709551616
  · rw [bp_hi h]; decide
  · rw [bp_lo h, Nat.div_lt_iff_lt_mul hy]
    omega
theorem bp_min {x y : Nat} (hy : 0 < y) : min (bpN x y) 200000 = min (x * 10000 / y) 200000 := by
  by_cases h : y ≤ x * 10000 / 18446744073709551616
  · rw [bp_hi h]
    have h1 : y * 18446744073709551616 ≤ x * 10000 := (Nat.le_div_iff_mul_le (by decide)).1 h
    have h2 : 18446744073709551616 ≤ x * 10000 / y := (Nat.le_div_iff_mul_le hy).2 (by rw [Nat.mul_comm]; exact h1)
    omega
  · rw [bp_lo h]
theorem sc_lt {n b : Nat} (hn : n < 18446744073709551616) (hb : b < 10000000000000) : scN n b < B256 :=
  Nat.lt_of_le_of_lt (Nat.div_le_self _ _) (Nat.lt_trans (Nat.mul_lt_mul'' hn hb) (by decide))
theorem ex_lt (n : Nat) (p : Par) : expN (xpN n p) 10 < 10000000000000 := exp_lt (xpN_le n p) (by decide)
theorem fe_lt {n : Nat} {p : Par} (k : POk p) : feN n p < B256 := sc_lt k.b4 (ex_lt n p)
theorem most_lt {p : Par} (k : POk p) : scN (p 4) (expN 200000 10) < B256 := sc_lt k.b4 (exp_lt (Nat.le_refl _) (by decide))
theorem sc_mono {n m b c : Nat} (h : n ≤ m) (g : b ≤ c) : scN n b ≤ scN m c := Nat.div_le_div_right (Nat.mul_le_mul h g)
theorem se_val {n x : Nat} (hn : n < 18446744073709551616) (hx : x ≤ 200000) : seR n x 10 = scN n (expN x 10) ∧ seE n x 10 = 0 := by
  have hv : expV x 10 := ⟨hx, by decide, by decide⟩
  have e : expR x 10 = expN x 10 := (expR_ok (t := 10) hx (by decide) (by decide)).1
  have c := chk_lt (sc_lt hn (exp_lt (x := x) (t := 10) hx (by decide)))
  exact ⟨by rw [seR, if_pos hv, e, c.1], by rw [seE, if_pos hv, e, c.2]⟩
/-- How the exponent and the fee change. -/
theorem res_mono {a b : Nat} (x y : Nat) (h : a ≤ b) : resS a x y ≤ resS b x y := Nat.sub_le_sub_right h _
theorem xp_le {a b : Nat} {p q : Par} (h : resS a (p 1) (p 2) * 10000 / (p 3 * p 1) ≤ resS b (q 1) (q 2) * 10000 / (q 3 * q 1)) : xpN a p ≤ xpN b q := by unfold xpN; omega
theorem xp_mono {a b : Nat} (p : Par) (h : a ≤ b) : xpN a p ≤ xpN b p := xp_le (Nat.div_le_div_right (Nat.mul_le_mul_right _ (res_mono _ _ h)))
theorem fe_mono {a b : Nat} {p q : Par} (h : xpN a p ≤ xpN b q) (g : p 4 ≤ q 4) : feN a p ≤ feN b q := sc_mono g (exp_mono h 10)
theorem fe_least (n : Nat) (p : Par) : p 4 ≤ feN n p := by
  have h := sc_mono (Nat.le_refl (p 4)) (Nat.le_trans (Nat.le_add_right 10000 _) (exp_ge (xpN n p) (t := 10) (by decide)))
  rwa [scN_all] at h
theorem fe_most (n : Nat) (p : Par) : feN n p ≤ scN (p 4) (expN 200000 10) := sc_mono (Nat.le_refl _) (exp_mono (xpN_le n p) 10)
theorem upd_xp {p : Par} {k m : Nat} (h1 : k ≠ 1) (h2 : k ≠ 2) (h3 : k ≠ 3) (n : Nat) : xpN n (updP p k m) = xpN n p := by
  unfold xpN
  rw [updP_ne _ _ (Ne.symm h1), updP_ne _ _ (Ne.symm h2), updP_ne _ _ (Ne.symm h3)]
theorem fe_tol (n : Nat) (p : Par) {m : Nat} (h : p 2 ≤ m) : feN n (updP p 2 m) ≤ feN n p := by
  refine fe_mono (xp_le ?_) (Nat.le_refl _)
  show resS n (p 1) m * 10000 / (p 3 * p 1) ≤ _
  exact Nat.div_le_div_right (Nat.mul_le_mul_right _ (Nat.sub_le_sub_left (Nat.mul_le_mul_left _ h) _))
theorem fe_ine (n : Nat) {p : Par} (k : POk p) {m : Nat} (h : p 3 ≤ m) : feN n (updP p 3 m) ≤ feN n p := by
  refine fe_mono (xp_le ?_) (Nat.le_refl _)
  show resS n (p 1) (p 2) * 10000 / (m * p 1) ≤ _
  exact Nat.div_le_div_left (Nat.mul_le_mul_right _ h) k.p31
theorem fe_min (n : Nat) (p : Par) {m : Nat} (h : p 4 ≤ m) : feN n p ≤ feN n (updP p 4 m) := fe_mono (xp_le (Nat.le_refl _)) h
theorem xp_tol {n : Nat} {p : Par} (h : n ≤ p 1 * p 2) : xpN n p = 0 := by
  unfold xpN resS
  rw [Nat.sub_eq_zero_of_le h, Nat.zero_mul, Nat.zero_div]
  rfl
theorem fe_tolerated {n : Nat} {p : Par} (h : n ≤ p 1 * p 2) : feN n p = p 4 := by
  unfold feN
  rw [xp_tol h, exp_zero, scN_all]
theorem xp_whole {p : Par} (k : POk p) (i : Nat) : xpN (p 1 * p 2 + i * p 3 * p 1) p = min (i * 10000) 200000 := by
  unfold xpN resS
  rw [Nat.add_sub_cancel_left, Nat.mul_assoc i, Nat.mul_right_comm, Nat.mul_div_cancel _ k.p31]
/-- The parameters that eight words determine. -/
def valP (v : Nat → Nat) : Par
  | 1 => 1 + v 0 % 2 ^ (1 + v 0 % 40)
  | 2 => v 1 % 40
  | 3 => 1 + v 2 % 300
  | 4 => 1 + v 3 % 2 ^ (1 + v 3 % 60)
  | 5 => 1 + v 4 % 2 ^ (10 + v 4 % 30)
  | 6 => v 5 % 2 ^ (1 + v 5 % 60)
  | 7 => v 6 % 10001
  | 8 => v 6 % 5000
  | 9 => 1 + v 7 % 2 ^ (1 + v 7 % 40)
  | 10 => 1 + v 7 / 7 % 100
  | 11 => 16
  | 12 => 65536
  | _ => 0
theorem md_le {x s n : Nat} (h : s ≤ n) : x % 2 ^ s < 2 ^ n := Nat.lt_of_lt_of_le (Nat.mod_lt _ (Nat.two_pow_pos _)) (Nat.pow_le_pow_right (by decide) h)
theorem vp_1 (v : Nat → Nat) : 1 ≤ valP v 1 ∧ valP v 1 ≤ 1099511627776 := by
  have h := md_le (x := v 0) (s := 1 + v 0 % 40) (n := 40) (by omega)
  show 1 ≤ 1 + v 0 % 2 ^ (1 + v 0 % 40) ∧ 1 + v 0 % 2 ^ (1 + v 0 % 40) ≤ 1099511627776
  omega
theorem vp_2 (v : Nat → Nat) : valP v 2 < 40 := Nat.mod_lt _ (by decide)
theorem vp_3 (v : Nat → Nat) : 1 ≤ valP v 3 ∧ valP v 3 ≤ 300 := by
  show 1 ≤ 1 + v 2 % 300 ∧ 1 + v 2 % 300 ≤ 300
  omega
theorem vp_4 (v : Nat → Nat) : 1 ≤ valP v 4 ∧ valP v 4 ≤ 1152921504606846976 := by
  have h := md_le (x := v 3) (s := 1 + v 3 % 60) (n := 60) (by omega)
  show 1 ≤ 1 + v 3 % 2 ^ (1 + v 3 % 60) ∧ 1 + v 3 % 2 ^ (1 + v 3 % 60) ≤ 1152921504606846976
  omega
theorem vp_5 (v : Nat → Nat) : 1 ≤ valP v 5 ∧ valP v 5 ≤ 1099511627776 := by
  have h := md_le (x := v 4) (s := 10 + v 4 % 30) (n := 39) (by omega)
  show 1 ≤ 1 + v 4 % 2 ^ (10 + v 4 % 30) ∧ 1 + v 4 % 2 ^ (10 + v 4 % 30) ≤ 1099511627776
  omega
theorem vp_6 (v : Nat → Nat) : valP v 6 < 1152921504606846976 := md_le (x := v 5) (s := 1 + v 5 % 60) (n := 60) (by omega)
theorem vp_7 (v : Nat → Nat) : valP v 7 ≤ 10000 := Nat.le_of_lt_succ (Nat.mod_lt _ (by decide))
theorem vp_8 (v : Nat → Nat) : valP v 8 < 5000 := Nat.mod_lt _ (by decide)
theorem vp_9 (v : Nat → Nat) : 1 ≤ valP v 9 ∧ valP v 9 ≤ 1099511627776 := by
  have h := md_le (x := v 7) (s := 1 + v 7 % 40) (n := 40) (by omega)
  show 1 ≤ 1 + v 7 % 2 ^ (1 + v 7 % 40) ∧ 1 + v 7 % 2 ^ (1 + v 7 % 40) ≤ 1099511627776
  omega
theorem vp_10 (v : Nat → Nat) : 1 ≤ valP v 10 ∧ valP v 10 ≤ 100 := by
  show 1 ≤ 1 + v 7 / 7 % 100 ∧ 1 + v 7 / 7 % 100 ≤ 100
  omega
theorem inR_of {n lo hi : Nat} (h1 : lo ≤ n) (h2 : n ≤ hi) (h3 : hi < 18446744073709551616) : inR n lo hi = true := by
  unfold inR
  rw [decide_eq_true (Nat.lt_of_le_of_lt h2 h3), decide_eq_true h1, decide_eq_true h2]
  rfl
theorem vp_fi (v : Nat → Nat) : fi (valP v) = 0 := by
  refine (fi_0 _).2 fun k h1 h2 => ?_
  have e : k = 1 ∨ k = 2 ∨ k = 3 ∨ k = 4 ∨ k = 5 ∨ k = 6 ∨ k = 7 ∨ k = 8 ∨ k = 9 ∨ k = 10 ∨ k = 11 ∨ k = 12 := by omega
  rcases e with rfl | rfl | rfl | rfl | rfl | rfl | rfl | rfl | rfl | rfl | rfl | rfl
  · exact inR_of (vp_1 v).1 (vp_1 v).2 (by decide)
  · exact inR_of (Nat.zero_le _) (Nat.le_trans (Nat.le_of_lt (vp_2 v)) (by decide)) (by decide : 1048576 < 18446744073709551616)
  · exact inR_of (vp_3 v).1 (Nat.le_trans (vp_3 v).2 (by decide)) (by decide : 1048576 < 18446744073709551616)
  · exact inR_of (vp_4 v).1 (Nat.le_trans (vp_4 v).2 (by decide)) (by decide : 18446744073709551615 < 18446744073709551616)
  · exact inR_of (vp_5 v).1 (vp_5 v).2 (by decide)
  · exact inR_of (Nat.zero_le _) (Nat.le_trans (Nat.le_of_lt (vp_6 v)) (by decide)) (by decide : 18446744073709551615 < 18446744073709551616)
  · exact inR_of (Nat.zero_le _) (vp_7 v) (by decide)
  · exact inR_of (Nat.zero_le _) (Nat.le_trans (Nat.le_of_lt (vp_8 v)) (by decide)) (by decide : 18446744073709551615 < 18446744073709551616)
  · exact inR_of (vp_9 v).1 (vp_9 v).2 (by decide)
  · exact inR_of (vp_10 v).1 (Nat.le_trans (vp_10 v).2 (by decide)) (by decide : 1048576 < 18446744073709551616)
  · exact inR_of (Nat.zero_le _) (by decide : (16 : Nat) ≤ 1048576) (by decide)
  · exact inR_of (by decide : w64 16 ≤ 65536) (by decide : (65536 : Nat) ≤ 16777216) (by decide)
theorem wf_of {p : Par} (h : fi p = 0) (hz : p 0 = 0) (hb : ∀ k, 12 < k → p k = 0) : PWf p := by
  have hw : ∀ k, p k < 18446744073709551616 := fun k => by
    rcases Nat.eq_zero_or_pos k with e | e
    · rw [e, hz]; decide
    · by_cases g : k ≤ 12
      · exact okK_w ((fi_0 p).1 h k e g)
      · rw [hb k (Nat.not_le.1 g)]; decide
  exact ⟨fun k => lt_B (hw k), fun k _ _ _ => hw k, hz⟩
theorem vp_12 (v : Nat → Nat) : ∀ k, 12 < k → valP v k = 0 := by
  intro k h
  unfold valP
  split <;> first | omega | rfl
theorem vp_wf (v : Nat → Nat) : PWf (valP v) := wf_of (vp_fi v) rfl (vp_12 v)
/-- What the laws ask of parameters: valid ones, and no product that wraps. -/
structure Cal (p : Par) : Prop where
  wf : PWf p
  v : fi p = 0
  b2 : p 2 < 40
  b3 : p 3 ≤ 300
  b4 : p 4 ≤ 1152921504606846976
theorem vp_cal (v : Nat → Nat) : Cal (valP v) := ⟨vp_wf v, vp_fi v, vp_2 v, (vp_3 v).2, (vp_4 v).2⟩
theorem Cal.ok {p : Par} (c : Cal p) : POk p := pok_of c.v
theorem Cal.w12 {p : Par} (c : Cal p) : p 1 * p 2 + 1 < 18446744073709551616 := by
  have h := Nat.mul_le_mul c.ok.b1 (Nat.le_of_lt c.b2)
  omega
theorem Cal.wk {p : Par} (c : Cal p) {i : Nat} (h : i < 26) : i * p 3 ≤ 7800 := Nat.mul_le_mul (Nat.le_of_lt h) c.b3
theorem Cal.wi {p : Par} (c : Cal p) {i : Nat} (h : i < 26) : i * p 3 * p 1 ≤ 8576190696652800 := Nat.mul_le_mul (c.wk h) c.ok.b1
theorem Cal.ws {p : Par} (c : Cal p) {i : Nat} (h : i < 26) : p 1 * p 2 + i * p 3 * p 1 < 18446744073709551616 := by
  have h1 := Nat.mul_le_mul c.ok.b1 (Nat.le_of_lt c.b2)
  have h2 := c.wi h
  omega
theorem okK_up {p : Par} {k m j : Nat} (hk : k ≠ 11) : okK (updP p k m) j = inR (updP p k m j) (loK (w64 (p 11)) j) (hiK j) := by
  unfold okK
  rw [updP_ne _ _ (Ne.symm hk)]
theorem up_fi {p : Par} (h : fi p = 0) {k m : Nat} (hk : k ≠ 11) (hm : inR m (loK (w64 (p 11)) k) (hiK k) = true) : fi (updP p k m) = 0 := by
  refine (fi_0 _).2 fun j h1 h2 => ?_
  rw [okK_up hk]
  by_cases e : j = k
  · subst e; rw [updP_at]; exact hm
  · rw [updP_ne _ _ e]; exact (fi_0 p).1 h j h1 h2
theorem Cal.up2 {p : Par} (c : Cal p) (x : Nat) : fi (updP p 2 (p 2 + x % 1000)) = 0 :=
  up_fi c.v (by decide) (inR_of (Nat.zero_le _) (by have := c.b2; show p 2 + x % 1000 ≤ 1048576; omega) (by decide : 1048576 < 18446744073709551616))
theorem Cal.up3 {p : Par} (c : Cal p) (x : Nat) : fi (updP p 3 (p 3 + x % 1000)) = 0 :=
  up_fi c.v (by decide) (inR_of (by have := c.ok.a3; show 1 ≤ p 3 + x % 1000; omega) (by have := c.b3; show p 3 + x % 1000 ≤ 1048576; omega) (by decide : 1048576 < 18446744073709551616))
theorem Cal.up4 {p : Par} (c : Cal p) (x : Nat) : fi (updP p 4 (p 4 + x % 1152921504606846976)) = 0 :=
  up_fi c.v (by decide) (inR_of (by have := c.ok.a4; show 1 ≤ p 4 + x % 1152921504606846976; omega) (by have := c.b4; show p 4 + x % 1152921504606846976 ≤ 18446744073709551615; omega) (by decide : 18446744073709551615 < 18446744073709551616))
theorem up_wf {p : Par} (h : PWf p) {k m : Nat} (hf : fi (updP p k m) = 0) (h1 : 1 ≤ k) (h2 : k ≤ 12) : PWf (updP p k m) := updP_wf h h1 hf h2
/-- The number that is no greater, of two that read alike. -/
def BigX.cst {a b : Nat} (e : a = b) (x : BigX a) : BigX b := e ▸ x
theorem BigX.cst_v {a b : Nat} (e : a = b) (x : BigX a) : x.v = (x.cst e).v := by subst e; rfl
theorem BigX.cst_L {a b : Nat} (e : a = b) (x : BigX a) : (x.cst e).L = x.L := by subst e; rfl
theorem cmp_gt {a b : Nat} (h : decide (cmpI a b > 0) = true) : b = min a b := by
  have g := of_decide_eq_true h
  unfold cmpI at g
  split at g
  · omega
  · split at g <;> omega
theorem cmp_ng {a b : Nat} (h : decide (cmpI a b > 0) = false) : a = min a b := by
  have g := of_decide_eq_false h
  unfold cmpI at g
  split at g
  · omega
  · split at g <;> omega
end Go.Proofs.Ytlaapbenpjopiaa

