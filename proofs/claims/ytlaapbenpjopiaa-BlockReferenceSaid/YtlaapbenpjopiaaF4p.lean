/- Package basefee over this translation and its reference: the exponent of the base fee and the fee, for every backlog and all parameters; the same results for both; the example of layer 14. No conditions. -/
import Derived.Test.YtlaapbenpjopiaaF4d
import Derived.Test.YtlaapbenpjopiaaF4n
import Derived.Test.YtlaapbenpjopiaaSxr
import Derived.Test.YtlaapbenpjopiaaV2p
import Derived.Test.YtlaapbenpjopiaaV2r
import Derived.Test.YtlaapbenpjopiaaB5p
namespace Go.Proofs.Ytlaapbenpjopiaa
open Go.RowKit Sx
set_option maxRecDepth 100000

section
variable {x y n : Nat} {p : Par}
theorem bp_f1 (h : decide (((x * 10000 / 18446744073709551616 : Nat) : Int) ≥ (y : Int)) = true) : Value.int .u64 200000 = wd (bpN x y) := by rw [bp_hi (ge_i h)]; rfl
theorem bp_f2 (h : decide (((x * 10000 / 18446744073709551616 : Nat) : Int) ≥ (y : Int)) = false) : wd ((x * 10000 / 18446744073709551616 * 18446744073709551616 + x * 10000 % 18446744073709551616) / y) = wd (bpN x y) := by
  rw [bp_lo (nge_i h), show x * 10000 / 18446744073709551616 * 18446744073709551616 + x * 10000 % 18446744073709551616 = x * 10000 by omega]
theorem bp_l (h : decide (((x * 10000 / 18446744073709551616 : Nat) : Int) ≥ (y : Int)) = false) : x * 10000 / 18446744073709551616 < y := Nat.not_le.1 (nge_i h)
theorem lo_64 (z : Nat) : z % 18446744073709551616 < 18446744073709551616 := Nat.mod_lt _ (by decide)
theorem v_n (h : (!(((fi p : Nat) : Int) == 0)) = true) : ¬ fi p = 0 := by simpa using h
theorem v_y (h : (!(((fi p : Nat) : Int) == 0)) = false) : fi p = 0 := by simpa using h
theorem x_no (h : ¬ fi p = 0) : Value.tuple #[.int .u64 0, .int .i64 15] = .tuple #[wd (xpR n p), .int .i64 (okE p)] := by rw [(xpR_no (n := n) h).1, (xpR_no (n := n) h).2]; rfl
theorem x_ok (h : fi p = 0) : Value.tuple #[wd (min (bpN (resS n (p 1) (p 2)) (p 3 * p 1)) 200000), .int .i64 0] = .tuple #[wd (xpR n p), .int .i64 (okE p)] := by
  rw [(xpR_ok (n := n) h).1, (xpR_ok (n := n) h).2, bp_min (pok_of h).p31]
  rfl
theorem x_rf (h : fi p = 0) : Value.tuple #[.int .u64 (limb (min (resS n (p 1) (p 2) * 10000 / (p 3 * p 1)) 200000) 0), .int .i64 0] = .tuple #[wd (xpR n p), .int .i64 (okE p)] := by
  rw [(xpR_ok (n := n) h).1, (xpR_ok (n := n) h).2, limb_self (by have := Nat.min_le_right (resS n (p 1) (p 2) * 10000 / (p 3 * p 1)) 200000; omega)]
  rfl
theorem xpR_le (n : Nat) (p : Par) : xpR n p ≤ 200000 := by
  unfold xpR
  split
  · exact xpN_le n p
  · omega
theorem ok_n (h : (okE p != 0) = true) : ¬ fi p = 0 := fun e => by rw [(xpR_ok (n := 0) e).2] at h; exact absurd h (by decide)
theorem ok_y (h : (okE p != 0) = false) : fi p = 0 := Decidable.byContradiction fun e => by rw [(xpR_no (n := 0) e).2] at h; exact absurd h (by decide)
theorem f_no (h : ¬ fi p = 0) : Value.tuple #[.agg #[.int .u64 0, .int .u64 0, .int .u64 0, .int .u64 0], .int .i64 (okE p)] = .tuple #[U (feR n p), .int .i64 (okE p)] := by rw [feR_no h]; rfl
theorem f_ok (h : fi p = 0) : Value.tuple #[U (scN (p 4) (expN (xpR n p) 10)), .int .i64 0] = .tuple #[U (feR n p), .int .i64 (okE p)] := by rw [feR_ok h, (xpR_ok (n := n) h).1, (xpR_ok (n := n) h).2]; rfl
theorem m_lt {z : Nat} (hz : z < 18446744073709551616) : z * 10000 < B256 := by unfold B256; omega
theorem mn_lt (z : Nat) : min z 200000 < B256 := lt_B (by have := Nat.min_le_right z 200000; omega)
end
theorem aw_f : cellsEq [.int .u64 (limb (feR 0 gen) 0), .int .u64 (limb (feR 0 gen) 1), .int .u64 (limb (feR 0 gen) 2), .int .u64 (limb (feR 0 gen) 3)] [.int .u64 100000000, .int .u64 0, .int .u64 0, .int .u64 0] = true := by decide +kernel
theorem aw_o : (okE gen == 0) = true := by decide +kernel
theorem aw_x : (((xpR 784000000 gen : Nat) : Int) == 10000) = true := by decide +kernel
theorem se_10 (n x : Nat) (hn : n < 18446744073709551616) (hx : x ≤ 200000) : Det Try.prog 26 [U n, wd x, .int .i64 10] (.tuple #[U (scN n (expN x 10)), .int .i64 0]) := by
  have := se_any n x 10 (lt_B hn)
  rwa [(se_val hn hx).1, (se_val hn hx).2] at this
theorem rse_10 (n x : Nat) (hn : n < 18446744073709551616) (hx : x ≤ 200000) : Det Try.prog 24 [U n, wd x, .int .i64 10] (.tuple #[U (scN n (expN x 10)), .int .i64 0]) := by
  have := rse_any n x 10 (lt_B hn)
  rwa [(se_val hn hx).1, (se_val hn hx).2] at this
theorem good_basefee_basisPointsOf : Good Try.prog 38 Try.f38 2 := ⟨Try.func38, by kernel_rfl, by kernel_rfl⟩
theorem good_basefee_Exponent : Good Try.prog 25 Try.f25 2 := ⟨Try.func25, by kernel_rfl, by kernel_rfl⟩
theorem good_basefee_Fee : Good Try.prog 22 Try.f22 2 := ⟨Try.func22, by kernel_rfl, by kernel_rfl⟩
theorem good_pontageref14_Exponent : Good Try.prog 23 Try.f23 2 := ⟨Try.func23, by kernel_rfl, by kernel_rfl⟩
theorem good_pontageref14_Fee : Good Try.prog 16 Try.f16 2 := ⟨Try.func16, by kernel_rfl, by kernel_rfl⟩
theorem good_pontageref1_Min : Good Try.prog 33 Try.f33 2 := ⟨Try.func33, by kernel_rfl, by kernel_rfl⟩
theorem p_bp (x y : Nat) (hx : x < 18446744073709551616) (hy : y < 18446744073709551616) : Det Try.prog 38 [wd x, wd y] (wd (bpN x y)) :=
  det_of_vc Try.mixed good_basefee_basisPointsOf (O := [.reg [(1, det (.tuple #[wd (x * 10000 / 18446744073709551616), wd (x * 10000 % 18446744073709551616)]))], .both [] [.reg [(3, det (.tuple #[wd ((x * 10000 / 18446744073709551616 * 18446744073709551616 + x * 10000 % 18446744073709551616) / y), wd ((x * 10000 / 18446744073709551616 * 18446744073709551616 + x * 10000 % 18446744073709551616) % y)]))]]]) fun _ => ⟨w_mul64 x 10000 hx (by decide) _, fun _ => ⟨fun h => ⟨(), bp_f1 h, nofun⟩, fun h => ⟨w_div64 (x * 10000 / 18446744073709551616) (x * 10000 % 18446744073709551616) y (bp_l h) hy (lo_64 _) _, fun _ => ⟨(), bp_f2 h, nofun⟩⟩⟩⟩
theorem p_x14 (n : Nat) (hn : n < 18446744073709551616) (p : Par) (hp : PWf p) : Det Try.prog 25 [wd n, PV p] (.tuple #[wd (xpR n p), .int .i64 (okE p)]) :=
  det_of_vc Try.mixed good_basefee_Exponent (O := [.reg [(1, det (.bool (((fi p : Nat) : Int) == 0)))], .both [] [.reg [(5, det (wd (resS n (p 1) (p 2))))], .reg [(5, .ld (wd (p 3 * p 1))), (6, det (wd (bpN (resS n (p 1) (p 2)) (p 3 * p 1)))), (7, .ld (wd (min (bpN (resS n (p 1) (p 2)) (p 3 * p 1)) 200000)))]]]) fun _ => ⟨p_valid p hp _, fun _ => ⟨fun h => ⟨(), x_no (v_n h), nofun⟩, fun h => ⟨p_exc13 n (p 1) (p 2) hn (hp.w 1 (by decide) (by decide) (by decide)) (hp.w 2 (by decide) (by decide) (by decide)) _, fun _ => ⟨wu_mul (wn_mul (pok_of (v_y h)).w31) _, ⟨p_bp _ _ (resS_lt hn _ _) (pok_of (v_y h)).w31 _, fun _ => ⟨wu_min _ _ _, ⟨(), x_ok (v_y h), nofun⟩⟩⟩⟩⟩⟩⟩
theorem p_f14 (n : Nat) (hn : n < 18446744073709551616) (p : Par) (hp : PWf p) : Det Try.prog 22 [wd n, PV p] (.tuple #[U (feR n p), .int .i64 (okE p)]) :=
  det_of_vc Try.mixed good_basefee_Fee (O := [.reg [(2, det (.tuple #[wd (xpR n p), .int .i64 (okE p)]))], .both [] [.reg [(3, det (.tuple #[U (scN (p 4) (expN (xpR n p) 10)), .int .i64 0]))]]]) fun _ => ⟨p_x14 n hn p hp _, fun _ => ⟨fun h => ⟨(), f_no (ok_n h), nofun⟩, fun h => ⟨se_10 (p 4) (xpR n p) (pok_of (ok_y h)).b4 (xpR_le n p) _, fun _ => ⟨(), f_ok (ok_y h), nofun⟩⟩⟩⟩
theorem r_min {a b : Nat} (x : BigX a) (y : BigX b) (A : Facts) (hx : Sub x.L A) (hy : Sub y.L A) : Gives Try.prog 33 [x.v, y.v] A (BigX (min a b)) (BigX.v) (BigX.L) :=
  gives_of_vcF Try.mixed good_pontageref1_Min (args := [(x.v, x.L), (y.v, y.L)]) (B := []) (O := [.reg [(2, det (.int .i64 (cmpI a b)))], .both [] []]) (.app (.nil _) (.app (hx) (.app (hy) (.nil _)))) (⟨c_cmp x y _ (by intro q h; simp [h]) (by intro q h; simp [h]), fun _ => ⟨fun g => ⟨y.cst (cmp_gt g), BigX.cst_v _ _, fun q h => by have h : q ∈ (y.cst (cmp_gt g)).L := h; rw [BigX.cst_L] at h; simp [h]⟩, fun g => ⟨x.cst (cmp_ng g), BigX.cst_v _ _, fun q h => by have h : q ∈ (x.cst (cmp_ng g)).L := h; rw [BigX.cst_L] at h; simp [h]⟩⟩⟩)
theorem r_x14 (n : Nat) (hn : n < 18446744073709551616) (p : Par) (hp : PWf p) : Det Try.prog 23 [wd n, PV p] (.tuple #[wd (xpR n p), .int .i64 (okE p)]) :=
  det_of_vc Try.mixed good_pontageref14_Exponent (O := [.reg [(1, det (.bool (((fi p : Nat) : Int) == 0)))], .both [] [.reg [(5, det (wd (resS n (p 1) (p 2))))], .reg [(1, big (resS n (p 1) (p 2))), (2, big (10000)), (3, big (resS n (p 1) (p 2) * 10000)), (6, big (p 3)), (9, big (p 1)), (10, big (p 3 * p 1)), (11, big2 (resS n (p 1) (p 2) * 10000 / (p 3 * p 1)) (resS n (p 1) (p 2) * 10000 % (p 3 * p 1)))], .reg [(1, big (200000)), (2, big (min (resS n (p 1) (p 2) * 10000 / (p 3 * p 1)) 200000)), (3, det (U (min (resS n (p 1) (p 2) * 10000 / (p 3 * p 1)) 200000)))]]]) fun _ => ⟨r_valid p hp _, fun _ => ⟨fun h => ⟨(), x_no (v_n h), nofun⟩, fun h => ⟨r_exc13 n (p 1) (p 2) hn (hp.w 1 (by decide) (by decide) (by decide)) (hp.w 2 (by decide) (by decide) (by decide)) _, fun _ => ⟨c_from64 (resS n (p 1) (p 2)) (resS_lt hn _ _) _, fun xa => ⟨c_from64 (10000) (by decide) _, fun xb => ⟨c_mul xa xb (Nat.le_succ_of_le (nd_256 (lt_B (resS_lt hn _ _)))) (Nat.le_succ_of_le (nd_256 (by decide))) _ (by intro q h; simp [h]) (by intro q h; simp [h]), fun xm => ⟨c_from64 (p 3) (hp.w 3 (by decide) (by decide) (by decide)) _, fun xi => ⟨c_from64 (p 1) (hp.w 1 (by decide) (by decide) (by decide)) _, fun xs => ⟨c_mul xi xs (Nat.le_succ_of_le (nd_256 (lt_B (hp.w 3 (by decide) (by decide) (by decide))))) (Nat.le_succ_of_le (nd_256 (lt_B (hp.w 1 (by decide) (by decide) (by decide))))) _ (by intro q h; simp [h]) (by intro q h; simp [h]), fun xw => ⟨c_div xm xw (Nat.le_succ_of_le (nd_256 (m_lt (resS_lt hn _ _)))) (nd_256 (lt_B (pok_of (v_y h)).w31)) (pok_of (v_y h)).p31 _ (by intro q h; simp [h]) (by intro q h; simp [h]), fun u => ⟨c_from64 (200000) (by decide) _, fun xl => ⟨r_min u.1 xl _ (by intro q h; simp [h]) (by intro q h; simp [h]), fun z => ⟨c_to z (mn_lt _) _ (by intro q h; simp [h]), fun _ => ⟨⟨by decide, by decide⟩, ⟨(), x_rf (v_y h), nofun⟩⟩⟩⟩⟩⟩⟩⟩⟩⟩⟩⟩⟩⟩⟩
theorem r_f14 (n : Nat) (hn : n < 18446744073709551616) (p : Par) (hp : PWf p) : Det Try.prog 16 [wd n, PV p] (.tuple #[U (feR n p), .int .i64 (okE p)]) :=
  det_of_vc Try.mixed good_pontageref14_Fee (O := [.reg [(2, det (.tuple #[wd (xpR n p), .int .i64 (okE p)]))], .both [] [.reg [(3, det (.tuple #[U (scN (p 4) (expN (xpR n p) 10)), .int .i64 0]))]]]) fun _ => ⟨r_x14 n hn p hp _, fun _ => ⟨fun h => ⟨(), f_no (ok_n h), nofun⟩, fun h => ⟨rse_10 (p 4) (xpR n p) (pok_of (ok_y h)).b4 (xpR_le n p) _, fun _ => ⟨(), f_ok (ok_y h), nofun⟩⟩⟩⟩
end Go.Proofs.Ytlaapbenpjopiaa

