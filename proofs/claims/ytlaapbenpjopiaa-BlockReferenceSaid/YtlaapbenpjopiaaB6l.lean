/- The laws of layer 15 over this translation: each returns true. No conditions. -/
import Derived.Test.YtlaapbenpjopiaaB6p
import Derived.Test.YtlaapbenpjopiaaF4l
namespace Go.Proofs.Ytlaapbenpjopiaa
open Go.RowKit Sx
set_option maxRecDepth 100000

open Go.ChangeShapes Go.WideShapes Go.ChangeAt
def lvBk : List Leaf := List.replicate 7 (.i .u64)
theorem lvBk_ok : leaves Try.prog 5 26 = some lvBk := by kernel_rfl
theorem guardBk : Try.prog.eqGuardType Try.prog.depth 26 = false := by kernel_rfl
theorem eqT_api_Block {xs ys : Array Value} (hx : fitL lvBk xs.toList = true) (hy : fitL lvBk ys.toList = true) : EqRun Try.prog 26 (.agg xs) (.agg ys) (cellsEq xs.toList ys.toList) :=
  eqRun_of lvBk_ok (by omega) (.inl ⟨_, Try.underlying26⟩) guardBk hx hy
theorem eqB_g {n t g j f : Nat} (h : g = j) : cellsEq (cB n t g f) (cB n t j f) = true := by subst h; simp [cellsEq, cellEq]
theorem eqB_self (n t g f : Nat) : cellsEq (cB n t g f) (cB n t g f) = true := eqB_g rfl
theorem neB_self (n t g f : Nat) : (!cellsEq (cB n t g f) (cB n t g f)) = false := by rw [eqB_self]; rfl
theorem eq_b15 (z : Int) : Value.bool (z == z) = .bool true := by simp
section
variable {H : Type} {enc : TypeId × Value → H} {W : World} {base : Nat} {sp : Nat → Bool} {held : Bool}
set_option maxRecDepth 100000 in
theorem told_blk {cs : List Value} (h : Told lvBk cs) : ∃ n t g f : Nat, n < 18446744073709551616 ∧ t < 18446744073709551616 ∧ g < 18446744073709551616 ∧ cs = cB n t g f := by
  obtain ⟨a1, q1, rfl, w1, h1⟩ := told_i h
  obtain ⟨a2, q2, rfl, w2, h2⟩ := told_i h1
  obtain ⟨a3, q3, rfl, w3, h3⟩ := told_i h2
  obtain ⟨f, q4, _, rfl, h4⟩ := told_u h3
  obtain rfl := told_nil h4
  obtain ⟨a1, rfl⟩ := Int.eq_ofNat_of_zero_le (word_of_wf w1).1
  obtain ⟨a2, rfl⟩ := Int.eq_ofNat_of_zero_le (word_of_wf w2).1
  obtain ⟨a3, rfl⟩ := Int.eq_ofNat_of_zero_le (word_of_wf w3).1
  have z1 := (word_of_wf w1).2
  have z2 := (word_of_wf w2).2
  have z3 := (word_of_wf w3).2
  exact ⟨a1, a2, a3, f, by omega, by omega, by omega, rfl⟩
set_option maxRecDepth 100000 in
theorem openBlk {r : Reach} {b : Nat} {v : Value} {d : DataW H} {p : List MemPlace} (hv : Value.okWide Try.prog W r b 26 v) (h : DataW.Trod enc Try.prog W base sp held 26 v d p) :
    ∃ n t g f : Nat, (n < 18446744073709551616 ∧ t < 18446744073709551616 ∧ g < 18446744073709551616) ∧ v = BK n t g f ∧ p = [] := by
  obtain ⟨cs, rfl, ht, rfl⟩ := open_plain lvBk_ok (.inl ⟨_, Try.underlying26⟩) hv h
  obtain ⟨n, t, g, f, h1, h2, h3, rfl⟩ := told_blk ht
  exact ⟨n, t, g, f, ⟨h1, h2, h3⟩, rfl, rfl⟩
end
inductive Q15 where
  | a | b | c
def Q15.n : Q15 → Nat
  | .a => 0 | .b => 1 | .c => 2
theorem lim15 {p : Par} (h : fi p = 0) : p 5 ≤ 1099511627776 := by
  have h1 := (fi_0 p).1 h 5 (by decide) (by decide)
  simp [okK, inR, loK, hiK] at h1
  omega
theorem md_s (s : Nat) : IntKind.u64.wrap (1 + (s : Int).tmod 1048577) = ((1 + s % 1048577 : Nat) : Int) := ad_md (c := 1) (m := 1048577) (by omega)
theorem md_t (s : Nat) : IntKind.u64.wrap (1 + (s : Int).tmod 1048576) = ((1 + s % 1048576 : Nat) : Int) := ad_md (c := 1) (m := 1048576) (by omega)
theorem md_u (s : Nat) : IntKind.u64.wrap (1048577 + (s : Int).tmod 1000) = ((1048577 + s % 1000 : Nat) : Int) := ad_md (c := 1048577) (m := 1000) (by omega)
theorem md_v (s : Nat) : IntKind.u64.wrap (18446744073709551615 - ((1 + s % 1048576 : Nat) : Int)) = ((18446744073709551615 - (1 + s % 1048576) : Nat) : Int) := wn_sub (a := 18446744073709551615) (by omega) (by decide)
theorem nz2 (n : Nat) : ((n + 2 : Nat) : Int) ≠ 0 := by omega
-- BlockOverflow
abbrev B2 (n t : Nat) : Value := .agg #[wd n, wd t, .int .u64 0, .int .u64 0, .int .u64 0, .int .u64 0, .int .u64 0]
theorem B2_eq (n t : Nat) : BK n t 0 0 = B2 n t := rfl
theorem gen_ok15 : fi gen = 0 := by decide +kernel
theorem ov_a : Det Try.prog 9 [BZ, .int .u64 0, .int .u64 0, PV gen] (.tuple #[BZ, .int .i64 2]) := by
  have := p_next15 0 0 0 0 0 0 (by decide) (by decide) (by decide) (by decide) gen gen_wf
  have e : nxE 0 0 0 gen = 2 := nx_2 (.inl (by decide))
  rw [br_e (by rw [e]; decide), e] at this
  exact this
theorem ov_b (s : Nat) : Det Try.prog 9 [BZ, wd (1048577 + s % 1000), .int .u64 0, PV gen] (.tuple #[BZ, .int .i64 2]) := by
  have := p_next15 0 0 0 0 (1048577 + s % 1000) 0 (by decide) (by decide) (by omega) (by decide) gen gen_wf
  have e : nxE 0 0 (1048577 + s % 1000) gen = 2 := nx_2 (.inr (by omega))
  rw [br_e (by rw [e]; decide), e] at this
  exact this
section
variable {n t s : Nat}
theorem ov_c (hn : n < 18446744073709551616) (ht : t < 18446744073709551616) (h : n + 1 < 18446744073709551616 ∧ t + (1 + s % 1048576) < 18446744073709551616) :
    Det Try.prog 9 [B2 n t, wd (1 + s % 1048576), .int .u64 0, PV gen] (.tuple #[BK (n + 1) (t + (1 + s % 1048576)) 0 (feN 0 gen), .int .i64 0]) := by
  have := p_next15 n t 0 0 (1 + s % 1048576) 0 hn ht (by omega) (by decide) gen gen_wf
  rw [br_0 (nx_0 (by omega) gen_ok15 (by omega)), B2_eq] at this
  exact this
theorem ov_d (hn : n < 18446744073709551616) (ht : t < 18446744073709551616) (h : 18446744073709551616 ≤ n + 1 ∨ 18446744073709551616 ≤ t + (1 + s % 1048576)) :
    Det Try.prog 9 [B2 n t, wd (1 + s % 1048576), .int .u64 0, PV gen] (.tuple #[BZ, .int .i64 4]) := by
  have := p_next15 n t 0 0 (1 + s % 1048576) 0 hn ht (by omega) (by decide) gen gen_wf
  have e : nxE n t (1 + s % 1048576) gen = 4 := nx_4 (by omega) gen_ok15 h
  rw [br_e (by rw [e]; decide), e, B2_eq] at this
  exact this
theorem ro_t (h : n + 1 < 18446744073709551616) : decide ((n : Int) < 18446744073709551615) = true := decide_eq_true (by omega)
theorem ro_f (h : 18446744073709551616 ≤ n + 1) : decide ((n : Int) < 18446744073709551615) = false := decide_eq_false (by omega)
theorem ru_t (h : t + (1 + s % 1048576) < 18446744073709551616) : decide ((t : Int) ≤ ((18446744073709551615 - (1 + s % 1048576) : Nat) : Int)) = true := decide_eq_true (by omega)
theorem ru_f (h : 18446744073709551616 ≤ t + (1 + s % 1048576)) : decide ((t : Int) ≤ ((18446744073709551615 - (1 + s % 1048576) : Nat) : Int)) = false := decide_eq_false (by omega)
end
-- BlockSplitUse
section
variable {p : Par}
theorem sp_g (c : Cal p) (u : Nat) : u % (p 5 + 1) < 18446744073709551616 := by
  have := lim15 c.v
  have : u % (p 5 + 1) < p 5 + 1 := Nat.mod_lt u (Nat.succ_pos (p 5))
  omega
theorem sp_w (c : Cal p) (x y : Nat) : x % (p 5 + 2) + y % (p 5 + 2) < 18446744073709551616 := by
  have := lim15 c.v
  have : x % (p 5 + 2) < p 5 + 2 := Nat.mod_lt x (Nat.succ_pos (p 5 + 1))
  have : y % (p 5 + 2) < p 5 + 2 := Nat.mod_lt y (Nat.succ_pos (p 5 + 1))
  omega
theorem sp_h (c : Cal p) {g m : Nat} (h : ¬ p 5 - g < m) (hg : g < 18446744073709551616) : g + m < 18446744073709551616 := by
  have := lim15 c.v
  omega
end
theorem good_pontagelaw15_gasAgrees : Good Try.prog 11 Try.f11 3 := ⟨Try.func11, by kernel_rfl, by kernel_rfl⟩
theorem good_pontagelaw15_BlockReference : Good Try.prog 3 Try.f3 6 := ⟨Try.func3, by kernel_rfl, by kernel_rfl⟩
theorem good_pontagelaw15_BlockOverflow : Good Try.prog 4 Try.f4 3 := ⟨Try.func4, by kernel_rfl, by kernel_rfl⟩
theorem good_pontagelaw15_BlockSplitUse : Good Try.prog 5 Try.f5 4 := ⟨Try.func5, by kernel_rfl, by kernel_rfl⟩
set_option maxHeartbeats 2000000 in
theorem gas_15 (n t g f x : Nat) (hg : g < 18446744073709551616) (p : Par) (hp : PWf p) : Det Try.prog 11 [BK n t g f, wd x, PV p] (.bool true) :=
  det_of_vc Try.mixed good_pontagelaw15_gasAgrees (O := [.reg [(5, det (wd (p 5 - g)))], .inv (Q14) (fun y : Q14 => ⟨53, [(3, .p 0 0), (5, .p 1 0), (19, .v (.agg #[wd x, wd (x % 100000), wd (p 5 - g)]) []), (20, .v (.int .i64 ((Q14.n y : Nat) : Int)) [])], [(0, ⟨26, cB n t g f, []⟩), (1, ⟨28, cP p, []⟩)], 90⟩) (fun y => 3 - y.n) (fun | .a => [.yes, .reg [(3, det (BR (ugE g (x) (p 5)) n t (g + x) f))], .reg [(3, det (BR (ugE g (x) (p 5)) n t (g + x) f))], .reg [(4, .yes), (5, .yes), (6, .yes), (7, .no)], .no] | .b => [.yes, .reg [(3, det (BR (ugE g ((x % 100000)) (p 5)) n t (g + (x % 100000)) f))], .reg [(3, det (BR (ugE g ((x % 100000)) (p 5)) n t (g + (x % 100000)) f))], .reg [(4, .yes), (5, .yes), (6, .yes), (7, .no)], .no] | .c => [.yes, .reg [(3, det (BR (ugE g ((p 5 - g)) (p 5)) n t (g + (p 5 - g)) f))], .reg [(3, det (BR (ugE g ((p 5 - g)) (p 5)) n t (g + (p 5 - g)) f))], .reg [(4, .yes), (5, .yes), (6, .yes), (7, .no)], .no] | .d => [.no, .reg [(2, det (wd (p 5 - g))), (5, det (wd (p 5 - g)))]])]) fun _ => ⟨⟨by decide, rfl⟩, ⟨r_gas15 n t g f p hp _, fun _ => ⟨⟨.a, rfl, ⟨⟨rfl, rfl, rfl⟩, ⟨rfl, rfl, rfl⟩, ⟨by kernel_rfl, nofun⟩, ⟨rfl, nofun⟩, trivial⟩, ⟨⟨rfl, rfl, nofun⟩, ⟨rfl, rfl, nofun⟩, trivial⟩⟩, fun | .a => ⟨rfl, ⟨⟨by decide, by decide⟩, ⟨p_use15 n t g f (x) hg p hp _, fun _ => ⟨r_use15 n t g f (x) hg p hp _, fun _ => ⟨eqT_api_Block rfl rfl, ⟨gff (neB_self _ _ _ _), ⟨gff (neB_self _ _ _ _), ⟨gff (neB_self _ _ _ _), ⟨(neB_self _ _ _ _), ⟨(ne_self _), ⟨.b, by decide, rfl, ⟨⟨rfl, rfl, rfl⟩, ⟨rfl, rfl, rfl⟩, ⟨rfl, nofun⟩, ⟨rfl, nofun⟩, trivial⟩, ⟨⟨rfl, rfl, nofun⟩, ⟨rfl, rfl, nofun⟩, trivial⟩⟩⟩⟩⟩⟩⟩⟩⟩⟩⟩⟩ | .b => ⟨rfl, ⟨⟨by decide, by decide⟩, ⟨p_use15 n t g f ((x % 100000)) hg p hp _, fun _ => ⟨r_use15 n t g f ((x % 100000)) hg p hp _, fun _ => ⟨eqT_api_Block rfl rfl, ⟨gff (neB_self _ _ _ _), ⟨gff (neB_self _ _ _ _), ⟨gff (neB_self _ _ _ _), ⟨(neB_self _ _ _ _), ⟨(ne_self _), ⟨.c, by decide, rfl, ⟨⟨rfl, rfl, rfl⟩, ⟨rfl, rfl, rfl⟩, ⟨rfl, nofun⟩, ⟨rfl, nofun⟩, trivial⟩, ⟨⟨rfl, rfl, nofun⟩, ⟨rfl, rfl, nofun⟩, trivial⟩⟩⟩⟩⟩⟩⟩⟩⟩⟩⟩⟩ | .c => ⟨rfl, ⟨⟨by decide, by decide⟩, ⟨p_use15 n t g f ((p 5 - g)) hg p hp _, fun _ => ⟨r_use15 n t g f ((p 5 - g)) hg p hp _, fun _ => ⟨eqT_api_Block rfl rfl, ⟨gff (neB_self _ _ _ _), ⟨gff (neB_self _ _ _ _), ⟨gff (neB_self _ _ _ _), ⟨(neB_self _ _ _ _), ⟨(ne_self _), ⟨.d, by decide, rfl, ⟨⟨rfl, rfl, rfl⟩, ⟨rfl, rfl, rfl⟩, ⟨rfl, nofun⟩, ⟨rfl, nofun⟩, trivial⟩, ⟨⟨rfl, rfl, nofun⟩, ⟨rfl, rfl, nofun⟩, trivial⟩⟩⟩⟩⟩⟩⟩⟩⟩⟩⟩⟩ | .d => ⟨rfl, ⟨p_gas15 n t g f p hp _, fun _ => ⟨r_gas15 n t g f p hp _, fun _ => ⟨(), (eq_b15 _), nofun⟩⟩⟩⟩⟩⟩⟩
set_option maxHeartbeats 4000000 in
theorem ref_law15 (n t g f s k x : Nat) (hn : n < 18446744073709551616) (ht : t < 18446744073709551616) (hg : g < 18446744073709551616) (hs : s < 18446744073709551616) (hk : k < 18446744073709551616) (q : Par) (hq : PWf q) (v : Nat → Nat) (p : Par) (c : Cal p) (hd : Det Try.prog 6 [A8 v] (PV p)) : Det Try.prog 3 [BK n t g f, PV q, A8 v, wd s, wd k, wd x] (.bool true) :=
  det_of_vc Try.mixed good_pontagelaw15_BlockReference (O := [.reg [(2, det (PV p))], .inv (Q15) (fun y : Q15 => ⟨119, [(3, .v (wd s) []), (4, .v (wd k) []), (5, .v (wd x) []), (6, .p 0 0), (30, .v (.agg (cP q ++ cP p).toArray) []), (31, .v (.int .i64 ((Q15.n y : Nat) : Int)) [])], [(0, ⟨26, cB n t g f, []⟩)], 90⟩) (fun y => 2 - y.n) (fun | .a => [.yes, .opt 3 [(0, .ld (PV q))], .reg [(1, det (BR (okE q) 1 0 0 (feN 0 q)))], .reg [(1, det (BR (okE q) 1 0 0 (feN 0 q)))], .reg [(4, det (BR (nxE n t (s) q) (n + 1) (t + (s)) 0 (feN (k) q)))], .reg [(4, det (BR (nxE n t (s) q) (n + 1) (t + (s)) 0 (feN (k) q)))], .reg [(3, .ld (wd (1 + s % 1048577))), (7, det (BR (nxE n t (1 + s % 1048577) q) (n + 1) (t + (1 + s % 1048577)) 0 (feN (k % 1099511627776) q)))], .reg [(3, .ld (wd (1 + s % 1048577))), (7, det (BR (nxE n t (1 + s % 1048577) q) (n + 1) (t + (1 + s % 1048577)) 0 (feN (k % 1099511627776) q)))], .reg ((4, .yes) :: (5, .yes) :: (6, .yes) :: (7, .no) :: (9, .yes) :: (10, .yes) :: (11, .yes) :: (12, .no) :: (14, .yes) :: (15, .yes) :: (16, .yes) :: (17, .no) :: (19, .yes) :: (20, .yes) :: (21, .yes) :: (22, .no) :: (24, .yes) :: (25, .yes) :: (26, .yes) :: (27, .no) :: (29, .yes) :: (30, .yes) :: (31, .yes) :: (32, det (.bool true)) :: (33, .yes) :: (34, .no) :: []), .no] | .b => [.yes, .opt 3 [(0, .ld (PV p))], .reg [(1, det (BR (okE p) 1 0 0 (feN 0 p)))], .reg [(1, det (BR (okE p) 1 0 0 (feN 0 p)))], .reg [(4, det (BR (nxE n t (s) p) (n + 1) (t + (s)) 0 (feN (k) p)))], .reg [(4, det (BR (nxE n t (s) p) (n + 1) (t + (s)) 0 (feN (k) p)))], .reg [(3, .ld (wd (1 + s % 1048577))), (7, det (BR (nxE n t (1 + s % 1048577) p) (n + 1) (t + (1 + s % 1048577)) 0 (feN (k % 1099511627776) p)))], .reg [(3, .ld (wd (1 + s % 1048577))), (7, det (BR (nxE n t (1 + s % 1048577) p) (n + 1) (t + (1 + s % 1048577)) 0 (feN (k % 1099511627776) p)))], .reg ((4, .yes) :: (5, .yes) :: (6, .yes) :: (7, .no) :: (9, .yes) :: (10, .yes) :: (11, .yes) :: (12, .no) :: (14, .yes) :: (15, .yes) :: (16, .yes) :: (17, .no) :: (19, .yes) :: (20, .yes) :: (21, .yes) :: (22, .no) :: (24, .yes) :: (25, .yes) :: (26, .yes) :: (27, .no) :: (29, .yes) :: (30, .yes) :: (31, .yes) :: (32, det (.bool true)) :: (33, .yes) :: (34, .no) :: []), .no] | .c => [.no, .reg [(0, det (.bool true))]])]) fun _ => ⟨hd _, fun _ => ⟨⟨.a, rfl, ⟨⟨rfl, nofun⟩, ⟨rfl, nofun⟩, ⟨rfl, nofun⟩, ⟨rfl, rfl, rfl⟩, ⟨by kernel_rfl, nofun⟩, ⟨rfl, nofun⟩, trivial⟩, ⟨⟨rfl, rfl, nofun⟩, trivial⟩⟩, fun | .a => ⟨rfl, ⟨⟨by decide, by decide⟩, by kernel_rfl, ⟨p_gen15 q hq _, fun _ => ⟨r_gen15 q hq _, fun _ => ⟨p_next15 n t g f (s) (k) hn ht hs hk q hq _, fun _ => ⟨r_next15 n t g f (s) (k) hn ht hs hk q hq _, fun _ => ⟨⟨by decide, rfl⟩, ⟨wu_add (md_s _) _, ⟨⟨by decide, rfl⟩, ⟨p_next15 n t g f (1 + s % 1048577) (k % 1099511627776) hn ht (by omega) (by omega) q hq _, fun _ => ⟨⟨by decide, rfl⟩, ⟨wu_add (md_s _) _, ⟨⟨by decide, rfl⟩, ⟨r_next15 n t g f (1 + s % 1048577) (k % 1099511627776) hn ht (by omega) (by omega) q hq _, fun _ => ⟨eqT_api_Block rfl rfl, ⟨gff (neB_self _ _ _ _), ⟨gff (neB_self _ _ _ _), ⟨gff (neB_self _ _ _ _), ⟨(neB_self _ _ _ _), ⟨gff (ne_self _), ⟨gff (ne_self _), ⟨⟨gff (ne_self _), eqT_api_Block rfl rfl⟩, ⟨(ne_self _), ⟨gff (neB_self _ _ _ _), ⟨gff (neB_self _ _ _ _), ⟨gff (neB_self _ _ _ _), ⟨(neB_self _ _ _ _), ⟨gff (ne_self _), ⟨gff (ne_self _), ⟨⟨gff (ne_self _), eqT_api_Block rfl rfl⟩, ⟨(ne_self _), ⟨gff (neB_self _ _ _ _), ⟨gff (neB_self _ _ _ _), ⟨gff (neB_self _ _ _ _), ⟨(neB_self _ _ _ _), ⟨gff (ne_self _), ⟨gff (ne_self _), ⟨gff (ne_self _), ⟨⟨gff (ne_self _), gas_15 n t g f x hg q hq _⟩, fun _ => ⟨gff (ne_self _), ⟨(ne_self _), ⟨rfl, ⟨.b, by decide, rfl, ⟨⟨rfl, nofun⟩, ⟨rfl, nofun⟩, ⟨rfl, nofun⟩, ⟨rfl, rfl, rfl⟩, ⟨rfl, nofun⟩, ⟨rfl, nofun⟩, trivial⟩, ⟨⟨rfl, rfl, nofun⟩, trivial⟩⟩⟩⟩⟩⟩⟩⟩⟩⟩⟩⟩⟩⟩⟩⟩⟩⟩⟩⟩⟩⟩⟩⟩⟩⟩⟩⟩⟩⟩⟩⟩⟩⟩⟩⟩⟩⟩⟩⟩⟩⟩⟩⟩ | .b => ⟨rfl, ⟨⟨by decide, by decide⟩, by kernel_rfl, ⟨p_gen15 p c.wf _, fun _ => ⟨r_gen15 p c.wf _, fun _ => ⟨p_next15 n t g f (s) (k) hn ht hs hk p c.wf _, fun _ => ⟨r_next15 n t g f (s) (k) hn ht hs hk p c.wf _, fun _ => ⟨⟨by decide, rfl⟩, ⟨wu_add (md_s _) _, ⟨⟨by decide, rfl⟩, ⟨p_next15 n t g f (1 + s % 1048577) (k % 1099511627776) hn ht (by omega) (by omega) p c.wf _, fun _ => ⟨⟨by decide, rfl⟩, ⟨wu_add (md_s _) _, ⟨⟨by decide, rfl⟩, ⟨r_next15 n t g f (1 + s % 1048577) (k % 1099511627776) hn ht (by omega) (by omega) p c.wf _, fun _ => ⟨eqT_api_Block rfl rfl, ⟨gff (neB_self _ _ _ _), ⟨gff (neB_self _ _ _ _), ⟨gff (neB_self _ _ _ _), ⟨(neB_self _ _ _ _), ⟨gff (ne_self _), ⟨gff (ne_self _), ⟨⟨gff (ne_self _), eqT_api_Block rfl rfl⟩, ⟨(ne_self _), ⟨gff (neB_self _ _ _ _), ⟨gff (neB_self _ _ _ _), ⟨gff (neB_self _ _ _ _), ⟨(neB_self _ _ _ _), ⟨gff (ne_self _), ⟨gff (ne_self _), ⟨⟨gff (ne_self _), eqT_api_Block rfl rfl⟩, ⟨(ne_self _), ⟨gff (neB_self _ _ _ _), ⟨gff (neB_self _ _ _ _), ⟨gff (neB_self _ _ _ _), ⟨(neB_self _ _ _ _), ⟨gff (ne_self _), ⟨gff (ne_self _), ⟨gff (ne_self _), ⟨⟨gff (ne_self _), gas_15 n t g f x hg p c.wf _⟩, fun _ => ⟨gff (ne_self _), ⟨(ne_self _), ⟨rfl, ⟨.c, by decide, rfl, ⟨⟨rfl, nofun⟩, ⟨rfl, nofun⟩, ⟨rfl, nofun⟩, ⟨rfl, rfl, rfl⟩, ⟨rfl, nofun⟩, ⟨rfl, nofun⟩, trivial⟩, ⟨⟨rfl, rfl, nofun⟩, trivial⟩⟩⟩⟩⟩⟩⟩⟩⟩⟩⟩⟩⟩⟩⟩⟩⟩⟩⟩⟩⟩⟩⟩⟩⟩⟩⟩⟩⟩⟩⟩⟩⟩⟩⟩⟩⟩⟩⟩⟩⟩⟩⟩⟩ | .c => ⟨rfl, ⟨aw15 _, fun _ => ⟨(), rfl, nofun⟩⟩⟩⟩⟩
theorem ov_e {a b : Nat} (h : ¬ (a < 18446744073709551616 ∧ b < 18446744073709551616)) (g : ¬ 18446744073709551616 ≤ a) : 18446744073709551616 ≤ b := by omega
theorem over_law15 (n t s : Nat) (hn : n < 18446744073709551616) (ht : t < 18446744073709551616) : Det Try.prog 4 [wd n, wd t, wd s] (.bool true) :=
  det_of_vc Try.mixed good_pontagelaw15_BlockOverflow (O := [.reg [(0, det (PV gen))], .opt 2 [(2, .ld (wd (1 + s % 1048576)))], .reg [(2, det (.tuple #[BZ, .int .i64 2]))], .reg [(3, .ld (wd (1048577 + s % 1000))), (5, det (.tuple #[BZ, .int .i64 2]))], .alt [(n + 1 < 18446744073709551616 ∧ t + (1 + s % 1048576) < 18446744073709551616, [(5, det (.tuple #[BK (n + 1) (t + (1 + s % 1048576)) 0 (feN 0 gen), .int .i64 0]))], [.reg [(3, .yes), (4, .yes), (5, .ld (wd (18446744073709551615 - (1 + s % 1048576)))), (6, .yes), (7, .yes)], .yes, .reg ((3, .yes) :: (4, .yes) :: (5, .yes) :: (7, .yes) :: (8, .yes) :: (9, .yes) :: (11, .yes) :: (12, .yes) :: (13, .yes) :: (14, .ld (wd (n + 1))) :: (15, .yes) :: (16, .yes) :: (18, .yes) :: (19, .yes) :: (20, .yes) :: (21, .yes) :: (22, .ld (wd (t + (1 + s % 1048576)))) :: (23, .yes) :: (24, .yes) :: (26, det (.bool true)) :: (27, .yes) :: [])]), (18446744073709551616 ≤ n + 1, [(5, det (.tuple #[BZ, .int .i64 4]))], [.reg [(3, .no), (4, .no), (5, .no), (6, .no), (7, .no)], .no, .reg [(3, .yes), (4, .yes), (5, .yes), (7, .yes), (8, .yes), (9, .yes), (11, .yes), (12, .yes), (13, .yes), (14, .yes), (16, det (.bool true)), (17, .yes)]]), (True, [(5, det (.tuple #[BZ, .int .i64 4]))], [.reg [(3, .yes), (4, .yes), (5, .ld (wd (18446744073709551615 - (1 + s % 1048576)))), (6, .yes), (7, .yes)], .no, .reg [(3, .yes), (4, .yes), (5, .yes), (7, .yes), (8, .yes), (9, .yes), (11, .yes), (12, .yes), (13, .yes), (14, .yes), (16, det (.bool true)), (17, .yes)]])]]) fun _ => ⟨p_gen _, fun _ => ⟨⟨by decide, rfl⟩, ⟨wu_add (md_t _) _, ⟨ov_a _, fun _ => ⟨⟨by decide, rfl⟩, ⟨wu_add (md_u _) _, ⟨ov_b s _, fun _ => ⟨fun h1 => ⟨ov_c hn ht h1 _, fun _ => ⟨gtt (ro_t h1.1), ⟨gtt (ro_t h1.1), ⟨⟨gtt (ro_t h1.1), wu_sub (md_v _) _⟩, ⟨gtt (ro_t h1.1), ⟨(ro_t h1.1), ⟨(ru_t h1.2), ⟨gtt rfl, ⟨gtt rfl, ⟨rfl, ⟨gtt rfl, ⟨gtt rfl, ⟨rfl, ⟨gtt rfl, ⟨gtt rfl, ⟨gtt rfl, ⟨⟨gtt rfl, wu_add (wn_add (b := 1) h1.1) _⟩, ⟨gtt rfl, ⟨rfl, ⟨gtt (eq_14 rfl), ⟨gtt (eq_14 rfl), ⟨gtt (eq_14 rfl), ⟨gtt (eq_14 rfl), ⟨⟨gtt (eq_14 rfl), wu_add (wn_add h1.2) _⟩, ⟨gtt (eq_14 rfl), ⟨(eq_14 rfl), ⟨⟨gtt (eq_14 rfl), aw15 _⟩, fun _ => ⟨(eq_14 rfl), ⟨(), rfl, nofun⟩⟩⟩⟩⟩⟩⟩⟩⟩⟩⟩⟩⟩⟩⟩⟩⟩⟩⟩⟩⟩⟩⟩⟩⟩⟩⟩⟩⟩, fun h1 => ⟨fun h2 => ⟨ov_d hn ht (.inl h2) _, fun _ => ⟨gtf (ro_f h2), ⟨gtf (ro_f h2), ⟨gtf (ro_f h2), ⟨gtf (ro_f h2), ⟨(ro_f h2), ⟨rfl, ⟨gtt rfl, ⟨gtt rfl, ⟨rfl, ⟨gtt rfl, ⟨gtt rfl, ⟨rfl, ⟨gtt rfl, ⟨gtt rfl, ⟨⟨gtt rfl, eqT_api_Block rfl rfl⟩, ⟨rfl, ⟨⟨gtt rfl, aw15 _⟩, fun _ => ⟨rfl, ⟨(), rfl, nofun⟩⟩⟩⟩⟩⟩⟩⟩⟩⟩⟩⟩⟩⟩⟩⟩⟩⟩⟩⟩, fun h2 => ⟨fun _ => ⟨ov_d hn ht (.inr (ov_e h1 h2)) _, fun _ => ⟨gtt (ro_t (Nat.not_le.1 h2)), ⟨gtt (ro_t (Nat.not_le.1 h2)), ⟨⟨gtt (ro_t (Nat.not_le.1 h2)), wu_sub (md_v _) _⟩, ⟨gtt (ro_t (Nat.not_le.1 h2)), ⟨(ro_t (Nat.not_le.1 h2)), ⟨(ru_f (ov_e h1 h2)), ⟨gtt rfl, ⟨gtt rfl, ⟨rfl, ⟨gtt rfl, ⟨gtt rfl, ⟨rfl, ⟨gtt rfl, ⟨gtt rfl, ⟨⟨gtt rfl, eqT_api_Block rfl rfl⟩, ⟨rfl, ⟨⟨gtt rfl, aw15 _⟩, fun _ => ⟨rfl, ⟨(), rfl, nofun⟩⟩⟩⟩⟩⟩⟩⟩⟩⟩⟩⟩⟩⟩⟩⟩⟩⟩⟩⟩, fun h => (h trivial).elim⟩⟩⟩⟩⟩⟩⟩⟩⟩⟩
theorem sp_b {l g m n : Nat} (h : ¬ l - g < m) (k : l - g < m + n) : l - (g + m) < n := by omega
theorem sp_c {l g m n : Nat} (h : ¬ l - g < m) (k : ¬ l - g < m + n) : ¬ l - (g + m) < n := by omega
theorem split_law15 (u x y : Nat) (v : Nat → Nat) (p : Par) (c : Cal p) (hd : Det Try.prog 6 [A8 v] (PV p)) : Det Try.prog 5 [A8 v, wd u, wd x, wd y] (.bool true) :=
  det_of_vc Try.mixed good_pontagelaw15_BlockSplitUse (O := [.reg [(1, det (PV p))], .opt 2 [(3, .ld (wd (p 5 + 1)))], .opt 3 [(3, .ld (wd (p 5 + 2))), (8, .ld (wd (p 5 + 2)))], .alt [(p 5 - u % (p 5 + 1) < x % (p 5 + 2), [(3, .ld (wd (x % (p 5 + 2) + y % (p 5 + 2)))), (5, det (.tuple #[BZ, .int .i64 13]))], [.reg [(3, det (.tuple #[BZ, .int .i64 13]))], .yes, .reg [(3, .yes), (4, .yes), (5, .yes), (7, det (.bool true)), (8, .yes)]]), (p 5 - u % (p 5 + 1) < x % (p 5 + 2) + y % (p 5 + 2), [(3, .ld (wd (x % (p 5 + 2) + y % (p 5 + 2)))), (5, det (.tuple #[BZ, .int .i64 13]))], [.reg [(3, det (.tuple #[BK 1 0 (u % (p 5 + 1) + (x % (p 5 + 2))) (p 4), .int .i64 0]))], .no, .reg [(3, det (.tuple #[BZ, .int .i64 13]))], .reg [(4, .yes), (5, .yes), (6, .yes), (7, .yes), (9, det (.bool true)), (10, .yes)]]), (True, [(3, .ld (wd (x % (p 5 + 2) + y % (p 5 + 2)))), (5, det (.tuple #[BK 1 0 (u % (p 5 + 1) + (x % (p 5 + 2) + y % (p 5 + 2))) (p 4), .int .i64 0]))], [.reg [(3, det (.tuple #[BK 1 0 (u % (p 5 + 1) + (x % (p 5 + 2))) (p 4), .int .i64 0]))], .no, .reg [(3, det (.tuple #[BK 1 0 (u % (p 5 + 1) + x % (p 5 + 2) + (y % (p 5 + 2))) (p 4), .int .i64 0]))], .reg [(4, .yes), (5, .yes), (6, .yes), (7, .yes), (9, det (.bool true)), (10, .yes)]])]]) fun _ => ⟨hd _, fun _ => ⟨wu_add (wn_add (b := 1) (Nat.lt_of_le_of_lt (Nat.succ_le_succ (lim15 c.v)) (by decide))) _, ⟨⟨nz_cast (Nat.succ_pos _), rfl⟩, ⟨wu_add (wn_add (b := 2) (Nat.lt_of_le_of_lt (Nat.add_le_add_right (lim15 c.v) 2) (by decide))) _, ⟨⟨nz2 _, rfl⟩, ⟨wu_add (wn_add (b := 2) (Nat.lt_of_le_of_lt (Nat.add_le_add_right (lim15 c.v) 2) (by decide))) _, ⟨⟨nz2 _, rfl⟩, ⟨fun h1 => ⟨wu_add (wn_add (sp_w c x y)) _, ⟨use_no 1 0 (u % (p 5 + 1)) (p 4) (x % (p 5 + 2) + y % (p 5 + 2)) (sp_g c u) p c.wf (Nat.lt_of_lt_of_le h1 (Nat.le_add_right _ _)) _, fun _ => ⟨use_no 1 0 (u % (p 5 + 1)) (p 4) (x % (p 5 + 2)) (sp_g c u) p c.wf h1 _, fun _ => ⟨rfl, ⟨gtt rfl, ⟨gtt rfl, ⟨rfl, ⟨⟨gtt rfl, aw15 _⟩, fun _ => ⟨rfl, ⟨(), rfl, nofun⟩⟩⟩⟩⟩⟩⟩⟩⟩⟩, fun h1 => ⟨fun h2 => ⟨wu_add (wn_add (sp_w c x y)) _, ⟨use_no 1 0 (u % (p 5 + 1)) (p 4) (x % (p 5 + 2) + y % (p 5 + 2)) (sp_g c u) p c.wf h2 _, fun _ => ⟨use_ok 1 0 (u % (p 5 + 1)) (p 4) (x % (p 5 + 2)) (sp_g c u) p c.wf h1 _, fun _ => ⟨rfl, ⟨use_no 1 0 (u % (p 5 + 1) + x % (p 5 + 2)) (p 4) (y % (p 5 + 2)) (sp_h c h1 (sp_g c u)) p c.wf (sp_b h1 h2) _, fun _ => ⟨gtt rfl, ⟨gtt rfl, ⟨⟨gtt rfl, eqT_api_Block rfl rfl⟩, ⟨rfl, ⟨⟨gtt rfl, aw15 _⟩, fun _ => ⟨rfl, ⟨(), rfl, nofun⟩⟩⟩⟩⟩⟩⟩⟩⟩⟩⟩⟩, fun h2 => ⟨fun _ => ⟨wu_add (wn_add (sp_w c x y)) _, ⟨use_ok 1 0 (u % (p 5 + 1)) (p 4) (x % (p 5 + 2) + y % (p 5 + 2)) (sp_g c u) p c.wf h2 _, fun _ => ⟨use_ok 1 0 (u % (p 5 + 1)) (p 4) (x % (p 5 + 2)) (sp_g c u) p c.wf h1 _, fun _ => ⟨rfl, ⟨use_ok 1 0 (u % (p 5 + 1) + x % (p 5 + 2)) (p 4) (y % (p 5 + 2)) (sp_h c h1 (sp_g c u)) p c.wf (sp_c h1 h2) _, fun _ => ⟨gtt rfl, ⟨gtt rfl, ⟨⟨gtt rfl, eqT_api_Block rfl rfl⟩, ⟨rfl, ⟨⟨gtt (eqB_g (Nat.add_assoc _ _ _)), aw15 _⟩, fun _ => ⟨(eqB_g (Nat.add_assoc _ _ _)), ⟨(), rfl, nofun⟩⟩⟩⟩⟩⟩⟩⟩⟩⟩⟩⟩, fun h => (h trivial).elim⟩⟩⟩⟩⟩⟩⟩⟩⟩⟩
end Go.Proofs.Ytlaapbenpjopiaa

