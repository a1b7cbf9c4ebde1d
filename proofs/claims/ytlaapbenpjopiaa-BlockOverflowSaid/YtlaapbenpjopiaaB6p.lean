/- Package block over this translation and its reference: the first block, the block after another, the gas that remains, the use of gas; the same results for both; the example of layer 15. No conditions. -/
import Derived.Test.YtlaapbenpjopiaaF4p
namespace Go.Proofs.Ytlaapbenpjopiaa
open Go.RowKit Sx
set_option maxRecDepth 100000

/-- A block, flat: its number, its time, the gas that it has used, its base fee. -/
abbrev cB (n t g f : Nat) : List Value := [.int .u64 (n : Int), .int .u64 (t : Int), .int .u64 (g : Int), .int .u64 (limb f 0), .int .u64 (limb f 1), .int .u64 (limb f 2), .int .u64 (limb f 3)]
abbrev BK (n t g f : Nat) : Value := .agg #[.int .u64 (n : Int), .int .u64 (t : Int), .int .u64 (g : Int), .int .u64 (limb f 0), .int .u64 (limb f 1), .int .u64 (limb f 2), .int .u64 (limb f 3)]
abbrev BZ : Value := .agg #[.int .u64 0, .int .u64 0, .int .u64 0, .int .u64 0, .int .u64 0, .int .u64 0, .int .u64 0]
/-- What a call gives where its code is 0, else nothing. -/
def bz (e : Int) (x : Nat) : Nat := if e = 0 then x else 0
abbrev BR (e : Int) (n t g f : Nat) : Value := .tuple #[BK (bz e n) (bz e t) (bz e g) (bz e f), .int .i64 e]
theorem br_0 {e : Int} (h : e = 0) (n t g f : Nat) : BR e n t g f = .tuple #[BK n t g f, .int .i64 0] := by subst h; rfl
theorem br_e {e : Int} (h : ¬ e = 0) (n t g f : Nat) : BR e n t g f = .tuple #[BZ, .int .i64 e] := by
  have z : ∀ x, bz e x = 0 := fun x => if_neg h
  unfold BR
  rw [z, z, z, z]
  rfl
/-- The block after another: its code. -/
def nxE (n t s : Nat) (p : Par) : Int := if s < 1 ∨ 1048576 < s then 2 else if ¬ fi p = 0 then 15 else if 18446744073709551616 ≤ n + 1 ∨ 18446744073709551616 ≤ t + s then 4 else 0
/-- The use of gas: its code. -/
def ugE (g x l : Nat) : Int := if l - g < x then 13 else 0
section
variable {n t s g f x k l : Nat} {p : Par}
theorem nx_2 (h : s < 1 ∨ 1048576 < s) : nxE n t s p = 2 := if_pos h
theorem nx_15 (h : ¬ (s < 1 ∨ 1048576 < s)) (g : ¬ fi p = 0) : nxE n t s p = 15 := by unfold nxE; rw [if_neg h, if_pos g]
theorem nx_4 (h : ¬ (s < 1 ∨ 1048576 < s)) (g : fi p = 0) (c : 18446744073709551616 ≤ n + 1 ∨ 18446744073709551616 ≤ t + s) : nxE n t s p = 4 := by unfold nxE; rw [if_neg h, if_neg (not_not_intro g), if_pos c]
theorem nx_0 (h : ¬ (s < 1 ∨ 1048576 < s)) (g : fi p = 0) (c : ¬ (18446744073709551616 ≤ n + 1 ∨ 18446744073709551616 ≤ t + s)) : nxE n t s p = 0 := by unfold nxE; rw [if_neg h, if_neg (not_not_intro g), if_neg c]
theorem br_n {e : Int} {z : Int} (h : e = z) (hz : z ≠ 0) : Value.tuple #[BZ, .int .i64 z] = BR e n t g f := by subst h; exact (br_e hz _ _ _ _).symm
theorem ug_13 (h : l - g < x) : ugE g x l = 13 := if_pos h
theorem ug_0 (h : ¬ l - g < x) : ugE g x l = 0 := if_neg h
-- conditions
theorem sl_t (h : s < 1) : decide ((s : Int) < 1) = true := decide_eq_true (by omega)
theorem sl_f (h : ¬ s < 1) : decide ((s : Int) < 1) = false := decide_eq_false (by omega)
theorem gtM (h : decide ((s : Int) > 1048576) = true) : 1048576 < s := by have := of_decide_eq_true h; omega
theorem ngM (h : decide ((s : Int) > 1048576) = false) : ¬ 1048576 < s := by have := of_decide_eq_false h; omega
theorem sec_no (h : ¬ s < 1) (g : decide ((s : Int) > 1048576) = false) : ¬ (s < 1 ∨ 1048576 < s) := fun e => e.elim h (ngM g)
theorem op_ok (h : fi p = 0) : Value.tuple #[.agg #[.int .u64 (n : Int), .int .u64 (t : Int), .int .u64 0, .int .u64 (limb (feR k p) 0), .int .u64 (limb (feR k p) 1), .int .u64 (limb (feR k p) 2), .int .u64 (limb (feR k p) 3)], .int .i64 0] = BR (okE p) n t 0 (feN k p) := by
  rw [br_0 (xpR_ok (n := 0) h).2, feR_ok h]
  rfl
theorem okE_no (h : ¬ fi p = 0) : okE p ≠ 0 := by rw [(xpR_no (n := 0) h).2]; decide
theorem op_no (h : ¬ fi p = 0) : Value.tuple #[BZ, .int .i64 (okE p)] = BR (okE p) n t 0 (feN k p) := (br_e (okE_no h) _ _ _ _).symm
theorem nx_f2 (h : s < 1 ∨ 1048576 < s) : Value.tuple #[BZ, .int .i64 2] = BR (nxE n t s p) (n + 1) (t + s) 0 (feN k p) := br_n (nx_2 h) (by decide)
theorem nx_f15 (h : ¬ (s < 1 ∨ 1048576 < s)) (g : ¬ fi p = 0) : Value.tuple #[BZ, .int .i64 (okE p)] = BR (nxE n t s p) (n + 1) (t + s) 0 (feN k p) := br_n ((nx_15 h g).trans (xpR_no (n := 0) g).2.symm) (okE_no g)
theorem nx_f4 (h : ¬ (s < 1 ∨ 1048576 < s)) (g : fi p = 0) (c : 18446744073709551616 ≤ n + 1 ∨ 18446744073709551616 ≤ t + s) : Value.tuple #[BZ, .int .i64 4] = BR (nxE n t s p) (n + 1) (t + s) 0 (feN k p) := br_n (nx_4 h g c) (by decide)
-- the package: what 'open' gave, and no carry
theorem nx_f0 (h : ¬ (s < 1 ∨ 1048576 < s)) (g : fi p = 0) (c : ¬ 18446744073709551616 ≤ n + 1) (d : ¬ 18446744073709551616 ≤ t + s) :
    Value.tuple #[BK (bz (okE p) ((n + 1) % 18446744073709551616)) (bz (okE p) ((t + s) % 18446744073709551616)) (bz (okE p) 0) (bz (okE p) (feN k p)), .int .i64 0] = BR (nxE n t s p) (n + 1) (t + s) 0 (feN k p) := by
  have z : ∀ x, bz (okE p) x = x := fun x => if_pos (xpR_ok (n := 0) g).2
  rw [br_0 (nx_0 h g (fun e => e.elim c d)), z, z, z, z, Nat.mod_eq_of_lt (Nat.not_le.1 c), Nat.mod_eq_of_lt (Nat.not_le.1 d)]
theorem car_t (h : 18446744073709551616 ≤ n) : (((n / 18446744073709551616 : Nat) : Int) != 0) = true := by simp; omega
theorem car_f (h : ¬ 18446744073709551616 ≤ n) : (((n / 18446744073709551616 : Nat) : Int) != 0) = false := by
  have e : n / 18446744073709551616 = 0 := by omega
  rw [e]; rfl
theorem car_y (h : (((n / 18446744073709551616 : Nat) : Int) != 0) = true) : 18446744073709551616 ≤ n := Decidable.byContradiction fun e => by rw [car_f e] at h; cases h
theorem car_n (h : (((n / 18446744073709551616 : Nat) : Int) != 0) = false) : ¬ 18446744073709551616 ≤ n := fun e => by rw [car_t e] at h; cases h
-- the reference: sums that wrap
theorem w64_mod (z : Nat) : IntKind.u64.wrap ((z : Nat) : Int) = ((z % 18446744073709551616 : Nat) : Int) := by simp [IntKind.wrap, IntKind.bits, IntKind.signed]
theorem wn_addm (a b : Nat) : IntKind.u64.wrap ((a : Int) + (b : Int)) = (((a + b) % 18446744073709551616 : Nat) : Int) := w64_mod (a + b)
theorem wz_t (hn : n < 18446744073709551616) (h : 18446744073709551616 ≤ n + 1) : ((((n + 1) % 18446744073709551616 : Nat) : Int) == 0) = true := by
  have e : (n + 1) % 18446744073709551616 = 0 := by omega
  rw [e]; rfl
theorem wz_f (h : ¬ 18446744073709551616 ≤ n + 1) : ((((n + 1) % 18446744073709551616 : Nat) : Int) == 0) = false := by
  have e : (n + 1) % 18446744073709551616 = n + 1 := by omega
  rw [e]; simp; omega
theorem wl_y (hs : s < 18446744073709551616) (ht : t < 18446744073709551616) (h : decide ((((t + s) % 18446744073709551616 : Nat) : Int) < (t : Int)) = true) : 18446744073709551616 ≤ t + s := by
  have := of_decide_eq_true h
  omega
theorem wl_n (hs : s < 18446744073709551616) (ht : t < 18446744073709551616) (h : decide ((((t + s) % 18446744073709551616 : Nat) : Int) < (t : Int)) = false) : ¬ 18446744073709551616 ≤ t + s := by
  have := of_decide_eq_false h
  omega
theorem nx_r0 (h : ¬ (s < 1 ∨ 1048576 < s)) (g : fi p = 0) (c : ¬ 18446744073709551616 ≤ n + 1) (d : ¬ 18446744073709551616 ≤ t + s) :
    Value.tuple #[.agg #[.int .u64 (((n + 1) % 18446744073709551616 : Nat) : Int), .int .u64 (((t + s) % 18446744073709551616 : Nat) : Int), .int .u64 0, .int .u64 (limb (feR k p) 0), .int .u64 (limb (feR k p) 1), .int .u64 (limb (feR k p) 2), .int .u64 (limb (feR k p) 3)], .int .i64 0] = BR (nxE n t s p) (n + 1) (t + s) 0 (feN k p) := by
  rw [br_0 (nx_0 h g (fun e => e.elim c d)), feR_ok g, Nat.mod_eq_of_lt (Nat.not_le.1 c), Nat.mod_eq_of_lt (Nat.not_le.1 d)]
  rfl
-- gas
theorem gr_ge (h : decide ((g : Int) ≥ (l : Int)) = true) : Value.int .u64 0 = wd (l - g) := by
  have e : l - g = 0 := by have := of_decide_eq_true h; omega
  rw [e]; rfl
theorem gr_le (h : decide ((g : Int) ≥ (l : Int)) = false) : g ≤ l := by have := of_decide_eq_false h; omega
theorem gs_ge (h : decide ((g : Int) > (l : Int)) = true) : Value.int .u64 0 = wd (l - g) := by
  have e : l - g = 0 := by have := of_decide_eq_true h; omega
  rw [e]; rfl
theorem gs_le (h : decide ((g : Int) > (l : Int)) = false) : g ≤ l := by have := of_decide_eq_false h; omega
theorem us_y (h : decide ((x : Int) > ((l - g : Nat) : Int)) = true) : l - g < x := by have := of_decide_eq_true h; omega
theorem us_n (h : decide ((x : Int) > ((l - g : Nat) : Int)) = false) : ¬ l - g < x := by have := of_decide_eq_false h; omega
theorem us_w (hl : l < 18446744073709551616) (hg : g < 18446744073709551616) (h : decide ((x : Int) > ((l - g : Nat) : Int)) = false) : g + x < 18446744073709551616 := by have := us_n h; omega
theorem us_no (h : decide ((x : Int) > ((l - g : Nat) : Int)) = true) : Value.tuple #[BZ, .int .i64 13] = BR (ugE g x l) n t (g + x) f := br_n (ug_13 (us_y h)) (by decide)
theorem us_ok (h : decide ((x : Int) > ((l - g : Nat) : Int)) = false) : Value.tuple #[BK n t (g + x) f, .int .i64 0] = BR (ugE g x l) n t (g + x) f := (br_0 (ug_0 (us_n h)) _ _ _ _).symm
end
theorem good_block_open : Good Try.prog 15 Try.f15 4 := ⟨Try.func15, by kernel_rfl, by kernel_rfl⟩
theorem good_block_Genesis : Good Try.prog 7 Try.f7 1 := ⟨Try.func7, by kernel_rfl, by kernel_rfl⟩
theorem good_block_Next : Good Try.prog 9 Try.f9 4 := ⟨Try.func9, by kernel_rfl, by kernel_rfl⟩
theorem good_block_GasRemaining : Good Try.prog 20 Try.f20 2 := ⟨Try.func20, by kernel_rfl, by kernel_rfl⟩
theorem good_block_UseGas : Good Try.prog 14 Try.f14 3 := ⟨Try.func14, by kernel_rfl, by kernel_rfl⟩
theorem good_pontageref15_Genesis : Good Try.prog 8 Try.f8 1 := ⟨Try.func8, by kernel_rfl, by kernel_rfl⟩
theorem good_pontageref15_Next : Good Try.prog 10 Try.f10 4 := ⟨Try.func10, by kernel_rfl, by kernel_rfl⟩
theorem good_pontageref15_GasRemaining : Good Try.prog 18 Try.f18 2 := ⟨Try.func18, by kernel_rfl, by kernel_rfl⟩
theorem good_pontageref15_UseGas : Good Try.prog 19 Try.f19 3 := ⟨Try.func19, by kernel_rfl, by kernel_rfl⟩
theorem good_pontagelaw15_awake : Good Try.prog 12 Try.f12 0 := ⟨Try.func12, by kernel_rfl, by kernel_rfl⟩
theorem p_open15 (n t k : Nat) (hk : k < 18446744073709551616) (p : Par) (hp : PWf p) : Det Try.prog 15 [wd n, wd t, wd k, PV p] (BR (okE p) (n) (t) 0 (feN (k) p)) :=
  det_of_vc Try.mixed good_block_open (O := [.reg [(2, det (.tuple #[U (feR (k) p), .int .i64 (okE p)]))], .both [] []]) fun _ => ⟨p_f14 (k) hk p hp _, fun _ => ⟨fun h => ⟨(), op_no (ok_n h), nofun⟩, fun h => ⟨(), op_ok (ok_y h), nofun⟩⟩⟩
theorem p_gen15 (p : Par) (hp : PWf p) : Det Try.prog 7 [PV p] (BR (okE p) (1) (0) 0 (feN (0) p)) :=
  det_of_vc Try.mixed good_block_Genesis (O := [.reg [(1, det (BR (okE p) (1) (0) 0 (feN (0) p)))]]) fun _ => ⟨p_open15 1 0 0 (by decide) p hp _, fun _ => ⟨(), rfl, nofun⟩⟩
theorem r_gen15 (p : Par) (hp : PWf p) : Det Try.prog 8 [PV p] (BR (okE p) (1) (0) 0 (feN (0) p)) :=
  det_of_vc Try.mixed good_pontageref15_Genesis (O := [.reg [(1, det (.tuple #[U (feR (0) p), .int .i64 (okE p)]))], .both [] []]) fun _ => ⟨r_f14 (0) (by decide) p hp _, fun _ => ⟨fun h => ⟨(), op_no (ok_n h), nofun⟩, fun h => ⟨(), op_ok (n := 1) (t := 0) (ok_y h), nofun⟩⟩⟩
theorem p_next15 (n t g f s k : Nat) (hn : n < 18446744073709551616) (ht : t < 18446744073709551616) (hs : s < 18446744073709551616) (hk : k < 18446744073709551616) (p : Par) (hp : PWf p) : Det Try.prog 9 [BK n t g f, wd s, wd k, PV p] (BR (nxE n t s p) (n + 1) (t + s) 0 (feN k p)) :=
  det_of_vc Try.mixed good_block_Next (O := [.alt [(s < 1, [(3, .no), (4, .no), (5, .yes)], [.yes]), (True, [(3, .yes), (4, .yes), (5, .no)], [.both [] [.reg [(2, det (.tuple #[wd ((n + 1) % 18446744073709551616), wd ((n + 1) / 18446744073709551616)]))], .reg [(3, det (.tuple #[wd ((t + s) % 18446744073709551616), wd ((t + s) / 18446744073709551616)]))], .reg [(4, det (BR (okE p) ((n + 1) % 18446744073709551616) ((t + s) % 18446744073709551616) 0 (feN (k) p)))], .both [] [.alt [(18446744073709551616 ≤ n + 1, [(3, .no), (4, .no), (5, .yes)], [.yes]), (True, [(3, .yes), (4, .yes), (5, .no)], [.both [] []])]]]])]]) fun _ => ⟨fun h1 => ⟨gft (sl_t h1), ⟨gft (sl_t h1), ⟨(sl_t h1), ⟨rfl, ⟨(), nx_f2 (.inl h1), nofun⟩⟩⟩⟩⟩, fun h1 => ⟨fun _ => ⟨gff (sl_f h1), ⟨gff (sl_f h1), ⟨(sl_f h1), ⟨fun h2 => ⟨(), nx_f2 (.inr (gtM h2)), nofun⟩, fun h2 => ⟨w_add64 n 1 hn (by decide) _, fun _ => ⟨w_add64 t s ht hs _, fun _ => ⟨p_open15 ((n + 1) % 18446744073709551616) ((t + s) % 18446744073709551616) k hk p hp _, fun _ => ⟨fun h3 => ⟨(), nx_f15 (sec_no h1 h2) (ok_n h3), nofun⟩, fun h3 => ⟨fun h4 => ⟨gft (car_t h4), ⟨gft (car_t h4), ⟨(car_t h4), ⟨rfl, ⟨(), nx_f4 (sec_no h1 h2) (ok_y h3) (.inl h4), nofun⟩⟩⟩⟩⟩, fun h4 => ⟨fun _ => ⟨gff (car_f h4), ⟨gff (car_f h4), ⟨(car_f h4), ⟨fun h5 => ⟨(), nx_f4 (sec_no h1 h2) (ok_y h3) (.inr (car_y h5)), nofun⟩, fun h5 => ⟨(), nx_f0 (sec_no h1 h2) (ok_y h3) h4 (car_n h5), nofun⟩⟩⟩⟩⟩, fun h => (h trivial).elim⟩⟩⟩⟩⟩⟩⟩⟩⟩⟩, fun h => (h trivial).elim⟩⟩
theorem r_next15 (n t g f s k : Nat) (hn : n < 18446744073709551616) (ht : t < 18446744073709551616) (hs : s < 18446744073709551616) (hk : k < 18446744073709551616) (p : Par) (hp : PWf p) : Det Try.prog 10 [BK n t g f, wd s, wd k, PV p] (BR (nxE n t s p) (n + 1) (t + s) 0 (feN k p)) :=
  det_of_vc Try.mixed good_pontageref15_Next (O := [.alt [(s < 1, [(3, .no), (4, .no), (5, .yes)], [.yes]), (True, [(3, .yes), (4, .yes), (5, .no)], [.both [] [.reg [(2, det (.tuple #[U (feR (k) p), .int .i64 (okE p)]))], .both [] [.alt [(18446744073709551616 ≤ n + 1, [(2, .ld (wd ((n + 1) % 18446744073709551616))), (5, .no), (6, .no), (7, .no), (8, .no), (9, .no), (10, .no), (11, .no), (12, .yes)], [.yes]), (True, [(2, .ld (wd ((n + 1) % 18446744073709551616))), (5, .yes), (6, .yes), (7, .yes), (8, .ld (wd ((t + s) % 18446744073709551616))), (9, .yes), (10, .yes), (11, .yes), (12, .no)], [.both [] [.opt 8 [(2, .ld (wd ((n + 1) % 18446744073709551616))), (6, .ld (wd ((t + s) % 18446744073709551616)))]]])]]]])]]) fun _ => ⟨fun h1 => ⟨gft (sl_t h1), ⟨gft (sl_t h1), ⟨(sl_t h1), ⟨rfl, ⟨(), nx_f2 (.inl h1), nofun⟩⟩⟩⟩⟩, fun h1 => ⟨fun _ => ⟨gff (sl_f h1), ⟨gff (sl_f h1), ⟨(sl_f h1), ⟨fun h2 => ⟨(), nx_f2 (.inr (gtM h2)), nofun⟩, fun h2 => ⟨r_f14 (k) hk p hp _, fun _ => ⟨fun h3 => ⟨(), nx_f15 (sec_no h1 h2) (ok_n h3), nofun⟩, fun h3 => ⟨fun h4 => ⟨wu_add (wn_addm n 1) _, ⟨gft (wz_t hn h4), ⟨gft (wz_t hn h4), ⟨gft (wz_t hn h4), ⟨gft (wz_t hn h4), ⟨gft (wz_t hn h4), ⟨gft (wz_t hn h4), ⟨gft (wz_t hn h4), ⟨(wz_t hn h4), ⟨rfl, ⟨(), nx_f4 (sec_no h1 h2) (ok_y h3) (.inl h4), nofun⟩⟩⟩⟩⟩⟩⟩⟩⟩⟩⟩, fun h4 => ⟨fun _ => ⟨wu_add (wn_addm n 1) _, ⟨gff (wz_f h4), ⟨gff (wz_f h4), ⟨gff (wz_f h4), ⟨⟨gff (wz_f h4), wu_add (wn_addm t s) _⟩, ⟨gff (wz_f h4), ⟨gff (wz_f h4), ⟨gff (wz_f h4), ⟨(wz_f h4), ⟨fun h5 => ⟨(), nx_f4 (sec_no h1 h2) (ok_y h3) (.inr (wl_y hs ht h5)), nofun⟩, fun h5 => ⟨wu_add (wn_addm n 1) _, ⟨wu_add (wn_addm t s) _, ⟨(), nx_r0 (sec_no h1 h2) (ok_y h3) h4 (wl_n hs ht h5), nofun⟩⟩⟩⟩⟩⟩⟩⟩⟩⟩⟩⟩⟩, fun h => (h trivial).elim⟩⟩⟩⟩⟩⟩⟩⟩, fun h => (h trivial).elim⟩⟩
theorem p_gas15 (n t g f : Nat) (p : Par) (hp : PWf p) : Det Try.prog 20 [BK n t g f, PV p] (wd (p 5 - g)) :=
  det_of_vc Try.mixed good_block_GasRemaining (O := [.both [] [.opt 3 [(4, .ld (wd (p 5 - g)))]]]) fun _ => ⟨fun h => ⟨(), gr_ge h, nofun⟩, fun h => ⟨wu_sub (wn_sub (gr_le h) (hp.w 5 (by decide) (by decide) (by decide))) _, ⟨(), rfl, nofun⟩⟩⟩
theorem r_gas15 (n t g f : Nat) (p : Par) (hp : PWf p) : Det Try.prog 18 [BK n t g f, PV p] (wd (p 5 - g)) :=
  det_of_vc Try.mixed good_pontageref15_GasRemaining (O := [.both [] [.opt 3 [(4, .ld (wd (p 5 - g)))]]]) fun _ => ⟨fun h => ⟨(), gs_ge h, nofun⟩, fun h => ⟨wu_sub (wn_sub (gs_le h) (hp.w 5 (by decide) (by decide) (by decide))) _, ⟨(), rfl, nofun⟩⟩⟩
theorem p_use15 (n t g f x : Nat) (hg : g < 18446744073709551616) (p : Par) (hp : PWf p) : Det Try.prog 14 [BK n t g f, wd x, PV p] (BR (ugE g x (p 5)) n t (g + x) f) :=
  det_of_vc Try.mixed good_block_UseGas (O := [.reg [(3, det (wd (p 5 - g)))], .both [] [.opt 3 [(3, .ld (wd (g + x)))]]]) fun _ => ⟨p_gas15 n t g f p hp _, fun _ => ⟨fun h => ⟨(), us_no h, nofun⟩, fun h => ⟨wu_add (wn_add (us_w (hp.w 5 (by decide) (by decide) (by decide)) hg h)) _, ⟨(), us_ok h, nofun⟩⟩⟩⟩
theorem r_use15 (n t g f x : Nat) (hg : g < 18446744073709551616) (p : Par) (hp : PWf p) : Det Try.prog 19 [BK n t g f, wd x, PV p] (BR (ugE g x (p 5)) n t (g + x) f) :=
  det_of_vc Try.mixed good_pontageref15_UseGas (O := [.reg [(3, det (wd (p 5 - g)))], .both [] [.opt 3 [(3, .ld (wd (g + x)))]]]) fun _ => ⟨r_gas15 n t g f p hp _, fun _ => ⟨fun h => ⟨(), us_no h, nofun⟩, fun h => ⟨wu_add (wn_add (us_w (hp.w 5 (by decide) (by decide) (by decide)) hg h)) _, ⟨(), us_ok h, nofun⟩⟩⟩⟩
/-- Gas that fits, gas that doesn't. -/
theorem use_ok (n t g f x : Nat) (hg : g < 18446744073709551616) (p : Par) (hp : PWf p) (h : ¬ p 5 - g < x) : Det Try.prog 14 [BK n t g f, wd x, PV p] (.tuple #[BK n t (g + x) f, .int .i64 0]) := by
  have := p_use15 n t g f x hg p hp
  rwa [br_0 (ug_0 h)] at this
theorem use_no (n t g f x : Nat) (hg : g < 18446744073709551616) (p : Par) (hp : PWf p) (h : p 5 - g < x) : Det Try.prog 14 [BK n t g f, wd x, PV p] (.tuple #[BZ, .int .i64 13]) := by
  have := p_use15 n t g f x hg p hp
  have e := ug_13 h
  rwa [br_e (by rw [e]; decide), e] at this
theorem gens_15 : Det Try.prog 7 [PV gen] (.tuple #[.agg #[.int .u64 1, .int .u64 0, .int .u64 0, .int .u64 100000000, .int .u64 0, .int .u64 0, .int .u64 0], .int .i64 0]) := by
  have := p_gen15 gen gen_wf
  have e : feN 0 gen = 100000000 := by decide +kernel
  rw [br_0 (by decide +kernel), e] at this
  exact this

theorem aw15  : Det Try.prog 12 [] (.bool true) :=
  det_of_vc Try.mixed good_pontagelaw15_awake (O := [.reg [(0, det (PV gen)), (1, det (.tuple #[.agg #[.int .u64 1, .int .u64 0, .int .u64 0, .int .u64 100000000, .int .u64 0, .int .u64 0, .int .u64 0], .int .i64 0]))], .reg [(1, det (PV gen)), (3, .ld (wd (gen 5 + 1))), (4, det (PV gen)), (5, det (.tuple #[BZ, .int .i64 13]))], .reg [(3, .yes), (4, .yes), (5, .yes), (6, .yes), (8, .yes), (9, .yes), (10, .yes), (11, .yes), (12, .yes), (14, .yes), (15, .yes), (16, .yes), (18, .yes), (19, det (PV gen)), (20, det (wd (gen 5 - 0))), (21, .yes), (22, .yes)]]) fun _ => ⟨p_gen _, fun _ => ⟨gens_15 _, fun _ => ⟨p_gen _, fun _ => ⟨wu_add (wn_add (a := gen 5) (b := 1) (by decide +kernel)) _, ⟨p_gen _, fun _ => ⟨use_no 1 0 0 100000000 (gen 5 + 1) (by decide) gen gen_wf (by decide +kernel) _, fun _ => ⟨gtt rfl, ⟨gtt rfl, ⟨gtt rfl, ⟨rfl, ⟨gtt rfl, ⟨gtt rfl, ⟨gtt rfl, ⟨⟨gtt rfl, eqT_api_Uint256 rfl rfl⟩, ⟨rfl, ⟨gtt rfl, ⟨gtt rfl, ⟨rfl, ⟨gtt rfl, ⟨⟨gtt rfl, p_gen _⟩, fun _ => ⟨⟨gtt rfl, p_gas15 1 0 0 100000000 gen gen_wf _⟩, fun _ => ⟨gtt rfl, ⟨rfl, ⟨(), rfl, nofun⟩⟩⟩⟩⟩⟩⟩⟩⟩⟩⟩⟩⟩⟩⟩⟩⟩⟩⟩⟩⟩⟩⟩⟩
end Go.Proofs.Ytlaapbenpjopiaa

