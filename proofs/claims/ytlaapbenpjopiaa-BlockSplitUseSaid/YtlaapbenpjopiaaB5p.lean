/- Contracts of package bips and of the reference of layer 5 over this translation: shares and the Horner scheme over whole numbers, the same results for both. No conditions besides. -/
import Derived.Test.YtlaapbenpjopiaaB5n
namespace Go.Proofs.Ytlaapbenpjopiaa
open Go.RowKit Sx
set_option maxRecDepth 100000

theorem gt_x {x : Nat} (h : 200000 < x) : decide ((x : Int) > 200000) = true := by apply decide_eq_true; omega
theorem le_x {x : Nat} (h : x ≤ 200000) : decide ((x : Int) > 200000) = false := by apply decide_eq_false; omega
theorem ge_1 {t : Int} (h : 1 ≤ t) : decide (t < 1) = false := by apply decide_eq_false; omega
theorem le_20 {t : Nat} (h : t ≤ 20) : decide ((t : Int) > 20) = false := by apply decide_eq_false; omega
theorem no_tup {x : Nat} {t : Int} (h : ¬ expV x t) : Value.tuple #[.int .u64 0, .int .i64 2] = .tuple #[.int .u64 (expR x t), .int .i64 (expE x t)] := by rw [(expR_no h).1, (expR_no h).2]; rfl
theorem no_x {x : Nat} {t : Int} (h : 200000 < x) : Value.tuple #[.int .u64 0, .int .i64 2] = .tuple #[.int .u64 (expR x t), .int .i64 (expE x t)] := no_tup fun k => by have := k.1; omega
theorem no_lo {x : Nat} {t : Int} (h : t < 1) : Value.tuple #[.int .u64 0, .int .i64 2] = .tuple #[.int .u64 (expR x t), .int .i64 (expE x t)] := no_tup fun k => by have := k.2.1; omega
theorem no_hi {x : Nat} {t : Int} (h : 20 < t) : Value.tuple #[.int .u64 0, .int .i64 2] = .tuple #[.int .u64 (expR x t), .int .i64 (expE x t)] := no_tup fun k => by have := k.2.2; omega
theorem no_e {x : Nat} {t : Int} (h : ¬ expV x t) : expE x t ≠ 0 := by rw [(expR_no h).2]; decide
theorem yes_e {x : Nat} {t : Int} (h : expV x t) : expE x t = 0 := if_pos h
theorem i_64 {x t : Nat} (e : ExX x t) (ht : t ≤ 20) : e.i < 18446744073709551616 := by have := e.i_le ht; omega
theorem i_10 {x t : Nat} (e : ExX x t) (ht : t ≤ 20) : e.i * 10000 < 18446744073709551616 := by have := e.i_le ht; omega
theorem q_64 {x t : Nat} (e : ExX x t) (hx : x ≤ 200000) (ht : t ≤ 20) : e.h * x / (e.i * 10000) < 18446744073709551616 := Nat.lt_of_le_of_lt (Nat.div_le_self _ _) (e.prod hx ht)

theorem good_bips_Scale : Good Try.prog 40 Try.f40 2 := ⟨Try.func40, by kernel_rfl, by kernel_rfl⟩
theorem good_bips_Exp : Good Try.prog 39 Try.f39 2 := ⟨Try.func39, by kernel_rfl, by kernel_rfl⟩
theorem good_bips_ScaleExp : Good Try.prog 26 Try.f26 3 := ⟨Try.func26, by kernel_rfl, by kernel_rfl⟩
theorem good_pontageref5_Scale : Good Try.prog 35 Try.f35 2 := ⟨Try.func35, by kernel_rfl, by kernel_rfl⟩
theorem good_pontageref5_Exp : Good Try.prog 34 Try.f34 2 := ⟨Try.func34, by kernel_rfl, by kernel_rfl⟩
theorem good_pontageref5_ScaleExp : Good Try.prog 24 Try.f24 3 := ⟨Try.func24, by kernel_rfl, by kernel_rfl⟩
theorem scale_raw (n b : Nat) (hn : n < B256) (hb : b < 18446744073709551616) : Det Try.prog 40 [U n, .int .u64 b] (.tuple #[U (chkR (scN n b)), .int .i64 (chkE (scN n b))]) :=
  det_of_vc Try.mixed good_bips_Scale (O := [.reg [(2, det (U b)), (3, det (U 10000)), (4, det (.tuple #[U (chkR (scN n b)), .int .i64 (chkE (scN n b))]))]]) fun _ => ⟨d_u64 b hb _, fun _ => ⟨d_u64 10000 (by decide) _, fun _ => ⟨d_floor n b 10000 hn (lt_B hb) (by decide) _, fun _ => ⟨(), rfl, nofun⟩⟩⟩⟩
theorem rscale_raw (n b : Nat) (hn : n < B256) (hb : b < 18446744073709551616) : Det Try.prog 35 [U n, .int .u64 b] (.tuple #[U (chkR (scN n b)), .int .i64 (chkE (scN n b))]) :=
  det_of_vc Try.mixed good_pontageref5_Scale (O := [.reg [(1, big n), (3, big b), (4, big (n * b)), (5, big 10000), (6, big2 (n * b / 10000) (n * b % 10000))], .reg [(1, det (.tuple #[U (chkR (scN n b)), .int .i64 (chkE (scN n b))]))]]) fun _ => ⟨c_from n hn _, fun y => ⟨c_from64 b hb _, fun z => ⟨c_mul y z (Nat.le_succ_of_le (nd_256 hn)) (Nat.le_succ_of_le (nd_256 (lt_B hb))) _ (by intro q h; simp [h]) (by intro q h; simp [h]), fun p => ⟨c_from64 10000 (by decide) _, fun q => ⟨c_div p q (Nat.le_succ_of_le (nd_512 (Nat.mul_lt_mul'' hn (lt_B hb)))) (nd_256 (by decide)) (by decide) _ (by intro q h; simp [h]) (by intro q h; simp [h]), fun u => ⟨c_checked u.1 _ (by intro q h; simp [h]), fun _ => ⟨(), rfl, nofun⟩⟩⟩⟩⟩⟩⟩
theorem scale_ok (n b : Nat) (hn : n < B256) (hb : b ≤ 10000) : Det Try.prog 40 [U n, .int .u64 b] (.tuple #[U (scN n b), .int .i64 0]) := by
  have := scale_raw n b hn (by omega)
  rwa [(chk_lt (scN_lt hn hb)).1, (chk_lt (scN_lt hn hb)).2] at this
theorem scale_at {v : Int} (n b : Nat) (e : v = b) (hn : n < B256) (hb : b ≤ 10000) : Det Try.prog 40 [U n, .int .u64 v] (.tuple #[U (scN n b), .int .i64 0]) := by
  subst e; exact scale_ok n b hn hb
theorem exp_a (x : Nat) (t : Int) (h : 200000 < x) : Det Try.prog 39 [.int .u64 x, .int .i64 t] (.tuple #[.int .u64 (expR x t), .int .i64 (expE x t)]) :=
  det_of_vc Try.mixed good_bips_Exp (O := [.reg [(3, .no), (4, .no), (5, .yes), (7, .no), (8, .no), (9, .yes)], .yes]) fun _ => ⟨gft (gt_x h), ⟨gft (gt_x h), ⟨(gt_x h), ⟨gft rfl, ⟨gft rfl, ⟨rfl, ⟨rfl, ⟨(), no_x h, nofun⟩⟩⟩⟩⟩⟩⟩⟩
theorem exp_b (x : Nat) (t : Int) (h : x ≤ 200000) (h1 : t < 1) : Det Try.prog 39 [.int .u64 x, .int .i64 t] (.tuple #[.int .u64 (expR x t), .int .i64 (expE x t)]) :=
  det_of_vc Try.mixed good_bips_Exp (O := [.reg [(3, .yes), (4, .yes), (5, .no), (7, .no), (8, .no), (9, .yes)], .yes]) fun _ => ⟨gff (le_x h), ⟨gff (le_x h), ⟨(le_x h), ⟨gft (decide_eq_true h1), ⟨gft (decide_eq_true h1), ⟨(decide_eq_true h1), ⟨rfl, ⟨(), no_lo h1, nofun⟩⟩⟩⟩⟩⟩⟩⟩
theorem exp_c (x : Nat) (t : Int) (h : x ≤ 200000) (h1 : 1 ≤ t) (h2 : 20 < t) : Det Try.prog 39 [.int .u64 x, .int .i64 t] (.tuple #[.int .u64 (expR x t), .int .i64 (expE x t)]) :=
  det_of_vc Try.mixed good_bips_Exp (O := [.reg [(3, .yes), (4, .yes), (5, .no), (7, .yes), (8, .yes), (9, .no)], .yes]) fun _ => ⟨gff (le_x h), ⟨gff (le_x h), ⟨(le_x h), ⟨gff (ge_1 h1), ⟨gff (ge_1 h1), ⟨(ge_1 h1), ⟨(decide_eq_true h2), ⟨(), no_hi h2, nofun⟩⟩⟩⟩⟩⟩⟩⟩
theorem rexp_a (x : Nat) (t : Int) (h : 200000 < x) : Det Try.prog 34 [.int .u64 x, .int .i64 t] (.tuple #[.int .u64 (expR x t), .int .i64 (expE x t)]) :=
  det_of_vc Try.mixed good_pontageref5_Exp (O := [.reg [(3, .no), (4, .no), (5, .yes), (7, .no), (8, .no), (9, .yes)], .yes]) fun _ => ⟨gft (gt_x h), ⟨gft (gt_x h), ⟨(gt_x h), ⟨gft rfl, ⟨gft rfl, ⟨rfl, ⟨rfl, ⟨(), no_x h, nofun⟩⟩⟩⟩⟩⟩⟩⟩
theorem rexp_b (x : Nat) (t : Int) (h : x ≤ 200000) (h1 : t < 1) : Det Try.prog 34 [.int .u64 x, .int .i64 t] (.tuple #[.int .u64 (expR x t), .int .i64 (expE x t)]) :=
  det_of_vc Try.mixed good_pontageref5_Exp (O := [.reg [(3, .yes), (4, .yes), (5, .no), (7, .no), (8, .no), (9, .yes)], .yes]) fun _ => ⟨gff (le_x h), ⟨gff (le_x h), ⟨(le_x h), ⟨gft (decide_eq_true h1), ⟨gft (decide_eq_true h1), ⟨(decide_eq_true h1), ⟨rfl, ⟨(), no_lo h1, nofun⟩⟩⟩⟩⟩⟩⟩⟩
theorem rexp_c (x : Nat) (t : Int) (h : x ≤ 200000) (h1 : 1 ≤ t) (h2 : 20 < t) : Det Try.prog 34 [.int .u64 x, .int .i64 t] (.tuple #[.int .u64 (expR x t), .int .i64 (expE x t)]) :=
  det_of_vc Try.mixed good_pontageref5_Exp (O := [.reg [(3, .yes), (4, .yes), (5, .no), (7, .yes), (8, .yes), (9, .no)], .yes]) fun _ => ⟨gff (le_x h), ⟨gff (le_x h), ⟨(le_x h), ⟨gff (ge_1 h1), ⟨gff (ge_1 h1), ⟨(ge_1 h1), ⟨(decide_eq_true h2), ⟨(), no_hi h2, nofun⟩⟩⟩⟩⟩⟩⟩⟩
theorem exp_ok (x t : Nat) (hx : x ≤ 200000) (h1 : 1 ≤ t) (h2 : t ≤ 20) : Det Try.prog 39 [.int .u64 x, .int .i64 t] (.tuple #[.int .u64 (expN x t), .int .i64 0]) :=
  det_of_vc Try.mixed good_bips_Exp (O := [.reg [(3, .yes), (4, .yes), (5, .no), (7, .yes), (8, .yes), (9, .no)], .no, .inv (ExX x t) (fun e : ExX x t => ⟨32, [(0, .v (.int .u64 x) []), (6, .v (.int .u64 e.h) []), (7, .v (.int .u64 e.i) [])], [], 0⟩) (fun e => e.i) (fun e => [.both [] []])]) fun _ => ⟨gff (le_x hx), ⟨gff (le_x hx), ⟨(le_x hx), ⟨gff (ge_1 (by omega)), ⟨gff (ge_1 (by omega)), ⟨(ge_1 (by omega)), ⟨(le_20 h2), ⟨⟨ExX.first x h2, rfl, ⟨⟨rfl, nofun⟩, ⟨rfl, nofun⟩, ⟨u64_val h2, nofun⟩, trivial⟩, trivial⟩, fun e => ⟨fun h => ⟨⟨e.nz h2 (pos_of h), rfl⟩, ⟨e.next hx h2 (pos_of h), e.next_lt hx h2 (pos_of h), rfl, ⟨⟨rfl, nofun⟩, ⟨e.next_h hx h2 (pos_of h), nofun⟩, ⟨e.next_i hx h2 (pos_of h), nofun⟩, trivial⟩, trivial⟩⟩, fun h => ⟨(), e.done (zero_of h), nofun⟩⟩⟩⟩⟩⟩⟩⟩⟩⟩
theorem rexp_ok (x t : Nat) (hx : x ≤ 200000) (h1 : 1 ≤ t) (h2 : t ≤ 20) : Det Try.prog 34 [.int .u64 x, .int .i64 t] (.tuple #[.int .u64 (expN x t), .int .i64 0]) :=
  det_of_vc Try.mixed good_pontageref5_Exp (O := [.reg [(3, .yes), (4, .yes), (5, .no), (7, .yes), (8, .yes), (9, .no)], .no, .reg [(0, big 10000)], .inv (ErX x t) (fun e : ErX x t => ⟨45, [(0, .v (.int .u64 x) []), (6, .v e.v.v e.v.L), (7, .v (.int .i64 e.e.i) [])], [], 0⟩) (fun e => e.e.i) (fun e => [.both [.reg [(2, big x), (3, big (e.e.h * x)), (6, big e.e.i), (7, big 10000), (8, big (e.e.i * 10000)), (9, big2 (e.e.h * x / (e.e.i * 10000)) (e.e.h * x % (e.e.i * 10000)))], .reg [(0, big 10000), (2, big (10000 + e.e.h * x / (e.e.i * 10000)))]] [.reg [(1, det (U e.e.h))]]])]) fun _ => ⟨gff (le_x hx), ⟨gff (le_x hx), ⟨(le_x hx), ⟨gff (ge_1 (by omega)), ⟨gff (ge_1 (by omega)), ⟨(ge_1 (by omega)), ⟨(le_20 h2), ⟨c_from64 10000 (by decide) _, fun y => ⟨⟨⟨ExX.first x h2, y⟩, rfl, ⟨⟨rfl, nofun⟩, ⟨rfl, fun _ h => h⟩, ⟨rfl, nofun⟩, trivial⟩, trivial⟩, fun e => ⟨fun h => ⟨c_from64 x (by omega) _, fun a => ⟨c_mul e.v a (Nat.le_succ_of_le (nd_256 (lt_B (e.e.h_lt h2)))) (Nat.le_succ_of_le (nd_256 (lt_B (show x < 18446744073709551616 by omega)))) _ (by intro q h; simp [h]) (by intro q h; simp [h]), fun b => ⟨c_from64_at e.e.i (u64_wrap_nat (i_64 e.e h2)) (i_64 e.e h2) _, fun c => ⟨c_from64 10000 (by decide) _, fun k => ⟨c_mul c k (Nat.le_succ_of_le (nd_256 (lt_B (i_64 e.e h2)))) (Nat.le_succ_of_le (nd_256 (by decide))) _ (by intro q h; simp [h]) (by intro q h; simp [h]), fun g => ⟨c_div b g (Nat.le_succ_of_le (nd_256 (lt_B (e.e.prod hx h2)))) (nd_256 (lt_B (i_10 e.e h2))) (Nat.mul_pos (pos_of h) (by decide)) _ (by intro q h; simp [h]) (by intro q h; simp [h]), fun u => ⟨c_from64 10000 (by decide) _, fun m => ⟨c_add m u.1 (Nat.le_succ_of_le (nd_256 (by decide))) (Nat.le_succ_of_le (nd_256 (lt_B (q_64 e.e hx h2)))) _ (by intro q h; simp [h]) (by intro q h; simp [h]), fun v => ⟨⟨e.e.next hx h2 (pos_of h), v⟩, e.e.next_lt hx h2 (pos_of h), rfl, ⟨⟨rfl, nofun⟩, ⟨rfl, fun _ h => h⟩, ⟨e.e.next_j hx h2 (pos_of h), nofun⟩, trivial⟩, trivial⟩⟩⟩⟩⟩⟩⟩⟩⟩, fun h => ⟨c_to e.v (lt_B (e.e.h_lt h2)) _ (by intro q h; simp [h]), fun _ => ⟨⟨by decide, by decide⟩, ⟨(), e.e.doneL h2 (zero_of h), nofun⟩⟩⟩⟩⟩⟩⟩⟩⟩⟩⟩⟩⟩
theorem exp_any (x : Nat) (t : Int) : Det Try.prog 39 [.int .u64 x, .int .i64 t] (.tuple #[.int .u64 (expR x t), .int .i64 (expE x t)]) := by
  by_cases h : x ≤ 200000
  · by_cases h1 : 1 ≤ t
    · by_cases h2 : t ≤ 20
      · obtain ⟨k, rfl⟩ := Int.eq_ofNat_of_zero_le (show 0 ≤ t by omega)
        have h0 := exp_ok x k h (by omega) (by omega)
        rwa [← (expR_ok h (show 1 ≤ k by omega) (show k ≤ 20 by omega)).1, ← (expR_ok h (show 1 ≤ k by omega) (show k ≤ 20 by omega)).2] at h0
      · exact exp_c x t h h1 (by omega)
    · exact exp_b x t h (by omega)
  · exact exp_a x t (by omega)
theorem rexp_any (x : Nat) (t : Int) : Det Try.prog 34 [.int .u64 x, .int .i64 t] (.tuple #[.int .u64 (expR x t), .int .i64 (expE x t)]) := by
  by_cases h : x ≤ 200000
  · by_cases h1 : 1 ≤ t
    · by_cases h2 : t ≤ 20
      · obtain ⟨k, rfl⟩ := Int.eq_ofNat_of_zero_le (show 0 ≤ t by omega)
        have h0 := rexp_ok x k h (by omega) (by omega)
        rwa [← (expR_ok h (show 1 ≤ k by omega) (show k ≤ 20 by omega)).1, ← (expR_ok h (show 1 ≤ k by omega) (show k ≤ 20 by omega)).2] at h0
      · exact rexp_c x t h h1 (by omega)
    · exact rexp_b x t h (by omega)
  · exact rexp_a x t (by omega)
theorem se_no (n x : Nat) (t : Int) (hv : ¬ expV x t) : Det Try.prog 26 [U n, .int .u64 x, .int .i64 t] (.tuple #[U (seR n x t), .int .i64 (seE n x t)]) :=
  det_of_vc Try.mixed good_bips_ScaleExp (O := [.reg [(2, det (.tuple #[.int .u64 (expR x t), .int .i64 (expE x t)]))], .yes]) fun _ => ⟨exp_any x t _, fun _ => ⟨(bne_t (no_e hv)), ⟨(), seR_no hv, nofun⟩⟩⟩
theorem se_ok (n x : Nat) (t : Int) (hn : n < B256) (hv : expV x t) : Det Try.prog 26 [U n, .int .u64 x, .int .i64 t] (.tuple #[U (seR n x t), .int .i64 (seE n x t)]) :=
  det_of_vc Try.mixed good_bips_ScaleExp (O := [.reg [(2, det (.tuple #[.int .u64 (expR x t), .int .i64 (expE x t)]))], .no, .reg [(2, det (.tuple #[U (chkR (scN n (expR x t))), .int .i64 (chkE (scN n (expR x t)))]))]]) fun _ => ⟨exp_any x t _, fun _ => ⟨(bne_f (yes_e hv)), ⟨scale_raw n (expR x t) hn (expR_lt x t) _, fun _ => ⟨(), seR_ok hv, nofun⟩⟩⟩⟩
theorem se_any (n x : Nat) (t : Int) (hn : n < B256) : Det Try.prog 26 [U n, .int .u64 x, .int .i64 t] (.tuple #[U (seR n x t), .int .i64 (seE n x t)]) := by
  by_cases hv : expV x t
  · exact se_ok n x t hn hv
  · exact se_no n x t hv
theorem se_w (k x : Nat) (t : Int) (hk : k < 18446744073709551616) : Det Try.prog 26 [.agg #[.int .u64 k, .int .u64 0, .int .u64 0, .int .u64 0], .int .u64 x, .int .i64 t] (.tuple #[U (seR k x t), .int .i64 (seE k x t)]) := by
  have := se_any k x t (lt_B hk)
  rwa [U_word k hk] at this
theorem rse_no (n x : Nat) (t : Int) (hv : ¬ expV x t) : Det Try.prog 24 [U n, .int .u64 x, .int .i64 t] (.tuple #[U (seR n x t), .int .i64 (seE n x t)]) :=
  det_of_vc Try.mixed good_pontageref5_ScaleExp (O := [.reg [(2, det (.tuple #[.int .u64 (expR x t), .int .i64 (expE x t)]))], .yes]) fun _ => ⟨rexp_any x t _, fun _ => ⟨(bne_t (no_e hv)), ⟨(), seR_no hv, nofun⟩⟩⟩
theorem rse_ok (n x : Nat) (t : Int) (hn : n < B256) (hv : expV x t) : Det Try.prog 24 [U n, .int .u64 x, .int .i64 t] (.tuple #[U (seR n x t), .int .i64 (seE n x t)]) :=
  det_of_vc Try.mixed good_pontageref5_ScaleExp (O := [.reg [(2, det (.tuple #[.int .u64 (expR x t), .int .i64 (expE x t)]))], .no, .reg [(2, det (.tuple #[U (chkR (scN n (expR x t))), .int .i64 (chkE (scN n (expR x t)))]))]]) fun _ => ⟨rexp_any x t _, fun _ => ⟨(bne_f (yes_e hv)), ⟨rscale_raw n (expR x t) hn (expR_lt x t) _, fun _ => ⟨(), seR_ok hv, nofun⟩⟩⟩⟩
theorem rse_any (n x : Nat) (t : Int) (hn : n < B256) : Det Try.prog 24 [U n, .int .u64 x, .int .i64 t] (.tuple #[U (seR n x t), .int .i64 (seE n x t)]) := by
  by_cases hv : expV x t
  · exact rse_ok n x t hn hv
  · exact rse_no n x t hv
theorem rse_w (k x : Nat) (t : Int) (hk : k < 18446744073709551616) : Det Try.prog 24 [.agg #[.int .u64 k, .int .u64 0, .int .u64 0, .int .u64 0], .int .u64 x, .int .i64 t] (.tuple #[U (seR k x t), .int .i64 (seE k x t)]) := by
  have := rse_any k x t (lt_B hk)
  rwa [U_word k hk] at this
end Go.Proofs.Ytlaapbenpjopiaa

