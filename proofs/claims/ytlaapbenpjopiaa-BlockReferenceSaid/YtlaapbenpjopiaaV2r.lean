/- The reference of layer 12 over this translation: the same answers as the package. No conditions. -/
import Derived.Test.YtlaapbenpjopiaaV2p
import Derived.Test.YtlaapbenpjopiaaRefi
namespace Go.Proofs.Ytlaapbenpjopiaa
open Go.RowKit Sx
set_option maxRecDepth 100000

section
variable {ρ : Operand → Value} {dst : Option Tmp} {type : TypeId} {pos : String} {after : Array Edge} {guard : Option (Nat × Bool)}
theorem lp_sub {a b c : Int} (h : IntKind.i64.wrap (a - b) = c) (A : Facts) {x y : Operand} (hx : ρ x = .int .i64 a := by rfl) (hy : ρ y = .int .i64 b := by rfl) :
    ∀ w, Sx.Holds w A → (execOp ρ ⟨dst, .binOp .sub 3 x y 3, type, pos, after, guard⟩).run Try.prog w = .ok (.value (.int .i64 c)) w := by
  intro w _
  have e : execOp ρ ⟨dst, .binOp .sub 3 x y 3, type, pos, after, guard⟩ = (do let v ← binOp .sub 3 (ρ x) (ρ y); pure (.value v)) := rfl
  rw [e, hx, hy, ← h]
  rfl
theorem lp_add {a b c : Int} (h : IntKind.i64.wrap (a + b) = c) (A : Facts) {x y : Operand} (hx : ρ x = .int .i64 a := by rfl) (hy : ρ y = .int .i64 b := by rfl) :
    ∀ w, Sx.Holds w A → (execOp ρ ⟨dst, .binOp .add 3 x y 3, type, pos, after, guard⟩).run Try.prog w = .ok (.value (.int .i64 c)) w := by
  intro w _
  have e : execOp ρ ⟨dst, .binOp .add 3 x y 3, type, pos, after, guard⟩ = (do let v ← binOp .add 3 (ρ x) (ρ y); pure (.value v)) := rfl
  rw [e, hx, hy, ← h]
  rfl
end
theorem r_tou (a : Nat) (ha : a < B256) : Det Try.prog 63 [U a] (.tuple #[.int .u64 ((w64 a : Nat) : Int), .bool (decide (a < 18446744073709551616))]) := by
  by_cases h : a < 18446744073709551616
  · rw [w64, if_pos h, decide_eq_true h]
    exact .of_calls ⟨_, Try.func63, by kernel_rfl, rfl⟩ fun w => ruint64_yes a ha h w
  · rw [w64, if_neg h, decide_eq_false h]
    exact .of_calls ⟨_, Try.func63, by kernel_rfl, rfl⟩ fun w => ruint64_no a ha h w
theorem al_a {n lo : Nat} (h : ¬ n < 18446744073709551616) : (Value.bool false) = .bool (inR n lo 18446744073709551615) := in_a h
theorem al_b {n lo : Nat} (h : n < 18446744073709551616) : Value.bool (decide (((w64 n : Nat) : Int) ≥ (lo : Int))) = .bool (inR n lo 18446744073709551615) := by
  rw [inR, decide_eq_true h, decide_eq_true (show n ≤ 18446744073709551615 by omega), w64, if_pos h]
  simp [Int.ofNat_le]
/-- n answers from key k on. -/
def bls (f : Nat → Bool) : Nat → Nat → List Value
  | _, 0 => []
  | k, n + 1 => .bool (f k) :: bls f (k + 1) n
theorem bls_at (f : Nat → Bool) : ∀ n k j, j < n → ((bls f k n).drop j).head? = some (.bool (f (k + j))) := by
  intro n
  induction n with
  | zero => exact fun k j h => absurd h (Nat.not_lt_zero j)
  | succ n ih =>
    intro k j h
    cases j with
    | zero => rfl
    | succ j =>
      rw [bls, List.drop_succ_cons, ih (k + 1) j (by omega), show k + 1 + j = k + (j + 1) by omega]
theorem b_bls (f : Nat → Bool) : ∀ w, (Instr.build 76 #[(0, .bool (f 1)), (1, .bool (f 2)), (2, .bool (f 3)), (3, .bool (f 4)), (4, .bool (f 5)), (5, .bool (f 6)), (6, .bool (f 7)), (7, .bool (f 8)), (8, .bool (f 9)), (9, .bool (f 10)), (10, .bool (f 11)), (11, .bool (f 12))]).run Try.prog w = .ok (.agg (bls f 1 12).toArray) w :=
  bld_arr Try.underlying76 (s := 1) (by kernel_rfl) (z := .agg (List.replicate 12 (Value.bool false)).toArray) (by kernel_rfl) (by kernel_rfl)
theorem lo_b {t : TypeId} {L : Facts} (f : Nat → Bool) (k : Nat) {n j : Nat} {z : Int} (hz : z = (j : Int)) (hj : j < n) : ldOwn Try.prog 4 ⟨t, bls f k n, L⟩ (0 + z.toNat * 1) = some (.bool (f (k + j))) := by
  subst hz
  have h := bls_at f n k j hj
  unfold ldOwn
  simp only [Try.underlying4]
  rw [Int.toNat_natCast, Nat.zero_add, Nat.mul_one]
  exact h
abbrev w4 (n : Nat) : Value := .agg #[.int .u64 (n : Int), .int .u64 0, .int .u64 0, .int .u64 0]
theorem b_parL {q : Par} (h : ∀ k, 1 ≤ k → k ≤ 12 → q k < 18446744073709551616) : ∀ w, (Instr.build 28 #[(0, .int .u64 (limb (q 1) 0)), (1, .int .u64 (limb (q 2) 0)), (2, .int .u64 (limb (q 3) 0)), (3, U (q 4)), (4, .int .u64 (limb (q 5) 0)), (5, U (q 6)), (6, .int .u64 (limb (q 7) 0)), (7, U (q 8)), (8, .int .u64 (limb (q 9) 0)), (9, .int .u64 (limb (q 10) 0)), (10, .int .u64 (limb (q 11) 0)), (11, .int .u64 (limb (q 12) 0))]).run Try.prog w = .ok (PV q) w := by
  intro w
  have hw : ∀ k, 1 ≤ k → k ≤ 12 → Value.int .u64 (limb (q k) 0) = w0 (q k) := fun k a b => limb_w (h k a b)
  rw [hw 1 (by decide) (by decide), hw 2 (by decide) (by decide), hw 3 (by decide) (by decide), hw 5 (by decide) (by decide), hw 7 (by decide) (by decide), hw 9 (by decide) (by decide), hw 10 (by decide) (by decide), hw 11 (by decide) (by decide), hw 12 (by decide) (by decide)]
  exact b_par q w
/-- The reference's ranges are the package's. -/
theorem ok_11 {p : Par} (hp : PWf p) : inR (p 12) (p 11) 16777216 = okK p 12 := by
  have h := hp.w 11 (by decide) (by decide) (by decide)
  unfold okK
  rw [w64, if_pos h]
  rfl
abbrev GX (p : Par) : Type := { i : Nat // i ≤ 12 ∧ fi p = fiN (okK p) (12 - i) (1 + i) }
def gx0 (p : Par) : GX p := ⟨0, by decide, rfl⟩
theorem i12 {k : Nat} (h : decide ((k : Int) < 12) = true) : k < 12 := by have := of_decide_eq_true h; omega
theorem gx_at {p : Par} (x : GX p) (h : decide ((x.1 : Int) < 12) = true) : fi p = fiN (okK p) (11 - x.1 + 1) (1 + x.1) := by
  have h1 := i12 h
  have e := x.2.2
  have e2 : 12 - x.1 = 11 - x.1 + 1 := by omega
  exact e.trans (by rw [e2])
theorem gx_nx {p : Par} (x : GX p) (h : decide ((x.1 : Int) < 12) = true) (g : (!okK p (1 + x.1)) = false) : x.1 + 1 ≤ 12 ∧ fi p = fiN (okK p) (12 - (x.1 + 1)) (1 + (x.1 + 1)) := by
  have h1 := i12 h
  refine ⟨by omega, ?_⟩
  have e := fi_step (gx_at x h) (not_f g)
  have e2 : 12 - (x.1 + 1) = 11 - x.1 := by omega
  exact e.trans (by rw [e2, show 1 + (x.1 + 1) = 1 + x.1 + 1 by omega])
def gxN {p : Par} (x : GX p) (h : decide ((x.1 : Int) < 12) = true) (g : (!okK p (1 + x.1)) = false) : GX p := ⟨x.1 + 1, gx_nx x h g⟩
theorem gx_no {p : Par} (x : GX p) (h : decide ((x.1 : Int) < 12) = true) (g : (!okK p (1 + x.1)) = true) : Value.int .i64 (IntKind.i64.wrap ((x.1 : Int) + 1)) = .int .i64 ((fi p : Nat) : Int) := by
  have h1 := i12 h
  have e := fi_stop (gx_at x h) (not_t g)
  rw [inc1 (by omega)]
  exact congrArg (fun n : Nat => Value.int .i64 (n : Int)) (by omega)
theorem gx_z {p : Par} (x : GX p) (h : decide ((x.1 : Int) < 12) = false) : Value.int .i64 0 = .int .i64 ((fi p : Nat) : Int) := by
  have h1 := of_decide_eq_false h
  have h2 := x.2.1
  have h3 := x.2.2
  have h4 : fi p = 0 := by
    rw [show 12 - x.1 = 0 by omega] at h3
    exact h3
  rw [h4]
  rfl
theorem lt1_t {k : Int} (h : k < 1) : decide (k < 1) = true := decide_eq_true h
theorem lt1_f {k : Int} (h : ¬ k < 1) : decide (k < 1) = false := decide_eq_false h
theorem g12_t {k : Int} (h : 12 < k) : decide (k > 12) = true := decide_eq_true h
theorem g12_f {k : Int} (h : ¬ 12 < k) : decide (k > 12) = false := decide_eq_false h
theorem nK1 {k : Int} (h : k < 1) : ¬ isK k := fun e => by have := e.1; omega
theorem nK2 {k : Int} (h : 12 < k) : ¬ isK k := fun e => by have := e.2; omega
theorem yK {k : Int} (h : ¬ k < 1) (h2 : ¬ 12 < k) : isK k := ⟨by omega, by omega⟩
theorem k1_w {k : Int} (h : isK k) : IntKind.i64.wrap (k - 1) = ((k.toNat - 1 : Nat) : Int) := by
  obtain ⟨h1, h2⟩ := h
  rw [show k - 1 = ((k.toNat - 1 : Nat) : Int) by omega, wrap_nat (by omega)]
theorem k1_lt {k : Int} (h : isK k) : k.toNat - 1 < 12 := by obtain ⟨h1, h2⟩ := h; omega
theorem k1_e {k : Int} (h : isK k) : 1 + (k.toNat - 1) = k.toNat := by obtain ⟨h1, h2⟩ := h; omega
theorem k1_b {k : Int} (h : isK k) : (0 : Int) ≤ ((k.toNat - 1 : Nat) : Int) ∧ ((k.toNat - 1 : Nat) : Int) < 12 := by have := k1_lt h; omega
theorem ix_r {p : Par} {k : Int} (h : isK k) {t : TypeId} {L : Facts} : ldOwn Try.prog 24 ⟨t, (vas p 1 12).toArray.toList, L⟩ (((k.toNat - 1 : Nat) : Int).toNat * (elSize Try.prog 24)) = some (U (p k.toNat)) := by
  have e : elSize Try.prog 24 = 4 := by kernel_rfl
  have := lo_u (t := t) (L := L) p 1 (n := 12) (j := k.toNat - 1) rfl (k1_lt h)
  rw [e]
  rwa [Nat.zero_add, k1_e h] at this
theorem st_r {p : Par} {k : Int} {n : Nat} (h : isK k) : setRange (vas p 1 12) (0 + ((k.toNat - 1 : Nat) : Int).toNat * 4) (cU n) = vas (updP p k.toNat n) 1 12 := by
  have := st_u p 1 n (n := 12) (j := k.toNat - 1) rfl (k1_lt h)
  rwa [k1_e h] at this
theorem nv {x : Nat} (h : (!((x : Int) == 0)) = true) : ¬ x = 0 := by simpa using h
theorem yv {x : Nat} (h : (!((x : Int) == 0)) = false) : x = 0 := by simpa using h
theorem updP_wf2 {p : Par} (hp : PWf p) {k n : Nat} (h1 : 1 ≤ k) (hn : ∀ j, 1 ≤ j → j ≤ 12 → updP p k n j < 18446744073709551616) (h12 : k ≤ 12) : PWf (updP p k n) := by
  have g := hn k h1 h12
  rw [updP_at] at g
  refine ⟨fun j => ?_, fun j a b c => ?_, ?_⟩
  · by_cases e : j = k
    · subst e; rw [updP_at]; exact lt_B g
    · rw [updP_ne _ _ e]; exact hp.b j
  · by_cases e : j = k
    · subst e; rw [updP_at]; exact g
    · rw [updP_ne _ _ e]; exact hp.w j a b c
  · rw [updP_ne _ _ (by omega)]; exact hp.z
abbrev RX (q : Par) : Type := { i : Nat // i ≤ 12 ∧ ∀ j, j < i → q (1 + j) < 18446744073709551616 }
def rx0 (q : Par) : RX q := ⟨0, by decide, fun _ h => absurd h (Nat.not_lt_zero _)⟩
theorem rx_nx {q : Par} (x : RX q) (h : decide ((x.1 : Int) < 12) = true) (g : (!decide (q (1 + x.1) < 18446744073709551616)) = false) : x.1 + 1 ≤ 12 ∧ ∀ j, j < x.1 + 1 → q (1 + j) < 18446744073709551616 := by
  have h1 := i12 h
  refine ⟨by omega, fun j hj => ?_⟩
  rcases Nat.lt_succ_iff_lt_or_eq.1 hj with e | e
  · exact x.2.2 j e
  · rw [e]; exact of_decide_eq_true (not_f g)
def rxN {q : Par} (x : RX q) (h : decide ((x.1 : Int) < 12) = true) (g : (!decide (q (1 + x.1) < 18446744073709551616)) = false) : RX q := ⟨x.1 + 1, rx_nx x h g⟩
theorem rx_z {q : Par} (x : RX q) (h : decide ((x.1 : Int) < 12) = false) : ∀ k, 1 ≤ k → k ≤ 12 → q k < 18446744073709551616 := by
  intro k h1 h2
  have h3 := of_decide_eq_false h
  have := x.2.2 (k - 1) (by omega)
  rwa [show 1 + (k - 1) = k by omega] at this
theorem rx_no {q : Par} (x : RX q) (h : decide ((x.1 : Int) < 12) = true) (g : (!decide (q (1 + x.1) < 18446744073709551616)) = true) : ¬ fi q = 0 := fun e => by
  have h1 := i12 h
  exact of_decide_eq_false (not_t g) (okK_w ((fi_0 q).1 e (1 + x.1) (by omega) (by omega)))
theorem good_pontageref12_in : Good Try.prog 55 Try.f55 3 := ⟨Try.func55, by kernel_rfl, by kernel_rfl⟩
theorem good_pontageref12_atLeast : Good Try.prog 56 Try.f56 2 := ⟨Try.func56, by kernel_rfl, by kernel_rfl⟩
theorem good_pontageref12_FirstInvalid : Good Try.prog 41 Try.f41 1 := ⟨Try.func41, by kernel_rfl, by kernel_rfl⟩
theorem good_pontageref12_Valid : Good Try.prog 27 Try.f27 1 := ⟨Try.func27, by kernel_rfl, by kernel_rfl⟩
theorem r_in (n lo hi : Nat) (hn : n < 18446744073709551616) : Det Try.prog 55 [w0 n, w0 lo, w0 hi] (.bool (inR n lo hi)) :=
  det_of_vc Try.mixed good_pontageref12_in (O := [.alt [(¬ lo ≤ n, [(4, .no), (5, .no), (6, .no), (7, .no)], []), (True, [(4, .yes), (5, .yes), (6, .yes), (7, .yes)], [])]]) fun _ => ⟨fun h => ⟨gtf (nge_n h), ⟨gtf (nge_n h), ⟨gtf (nge_n h), ⟨(nge_n h), ⟨(), in_b h, nofun⟩⟩⟩⟩⟩, fun h => ⟨fun _ => ⟨gtt (ge_n (Decidable.not_not.1 h)), ⟨gtt (ge_n (Decidable.not_not.1 h)), ⟨gtt (ge_n (Decidable.not_not.1 h)), ⟨(ge_n (Decidable.not_not.1 h)), ⟨(), in_d hn (Decidable.not_not.1 h), nofun⟩⟩⟩⟩⟩, fun h => (h trivial).elim⟩⟩
theorem r_least (n lo : Nat) (hn : n < B256) : Det Try.prog 56 [U n, w0 lo] (.bool (inR n lo 18446744073709551615)) :=
  det_of_vc Try.mixed good_pontageref12_atLeast (O := [.reg [(1, det (.tuple #[.int .u64 ((w64 n : Nat) : Int), .bool (decide (n < 18446744073709551616))]))], .alt [(¬ n < 18446744073709551616, [(2, .no), (3, .no), (4, .no), (5, .no)], []), (True, [(2, .yes), (3, .yes), (4, .yes), (5, .yes)], [])]]) fun _ => ⟨r_tou n hn _, fun _ => ⟨fun h => ⟨gtf (decide_eq_false h), ⟨gtf (decide_eq_false h), ⟨gtf (decide_eq_false h), ⟨(decide_eq_false h), ⟨(), al_a h, nofun⟩⟩⟩⟩⟩, fun h => ⟨fun _ => ⟨gtt (decide_eq_true (Decidable.not_not.1 h)), ⟨gtt (decide_eq_true (Decidable.not_not.1 h)), ⟨gtt (decide_eq_true (Decidable.not_not.1 h)), ⟨(decide_eq_true (Decidable.not_not.1 h)), ⟨(), al_b (Decidable.not_not.1 h), nofun⟩⟩⟩⟩⟩, fun h => (h trivial).elim⟩⟩⟩
theorem r_in12 {p : Par} (hp : PWf p) : Det Try.prog 55 [w0 (p 12), w0 (p 11), w0 16777216] (.bool (okK p 12)) := by
  rw [← ok_11 hp]
  exact r_in (p 12) (p 11) 16777216 (hp.w 12 (by decide) (by decide) (by decide))
theorem r_first (p : Par) (hp : PWf p) : Det Try.prog 41 [PV p] (.int .i64 ((fi p : Nat) : Int)) :=
  det_of_vc Try.mixed good_pontageref12_FirstInvalid (O := [.reg [(2, det (.bool (okK p 1))), (5, det (.bool (okK p 2))), (8, det (.bool (okK p 3))), (11, det (.bool (okK p 4))), (14, det (.bool (okK p 5))), (17, det (.bool (okK p 6))), (20, det (.bool (okK p 7))), (23, det (.bool (okK p 8))), (26, det (.bool (okK p 9))), (29, det (.bool (okK p 10))), (32, det (.bool (okK p 11))), (37, det (.bool (okK p 12))), (38, .ld (.agg (bls (okK p) 1 12).toArray))], .inv (GX p) (fun x : GX p => ⟨54, [(3, .p 41 0), (4, .v (.int .i64 ((x.1 : Nat) : Int)) [])], [(41, ⟨76, bls (okK p) 1 12, []⟩)], 190⟩) (fun x => 12 - x.1) (fun x => [.both [.opt 5 [(2, .ld (.bool (okK p (1 + x.1))))], .both [] []] []])]) fun _ => ⟨r_in (p 1) (loK (w64 (p 11)) 1) (hiK 1) (hp.w 1 (by decide) (by decide) (by decide)) _, fun _ => ⟨r_in (p 2) (loK (w64 (p 11)) 2) (hiK 2) (hp.w 2 (by decide) (by decide) (by decide)) _, fun _ => ⟨r_in (p 3) (loK (w64 (p 11)) 3) (hiK 3) (hp.w 3 (by decide) (by decide) (by decide)) _, fun _ => ⟨r_least (p 4) (loK (w64 (p 11)) 4) (hp.b 4) _, fun _ => ⟨r_in (p 5) (loK (w64 (p 11)) 5) (hiK 5) (hp.w 5 (by decide) (by decide) (by decide)) _, fun _ => ⟨r_least (p 6) (loK (w64 (p 11)) 6) (hp.b 6) _, fun _ => ⟨r_in (p 7) (loK (w64 (p 11)) 7) (hiK 7) (hp.w 7 (by decide) (by decide) (by decide)) _, fun _ => ⟨r_least (p 8) (loK (w64 (p 11)) 8) (hp.b 8) _, fun _ => ⟨r_in (p 9) (loK (w64 (p 11)) 9) (hiK 9) (hp.w 9 (by decide) (by decide) (by decide)) _, fun _ => ⟨r_in (p 10) (loK (w64 (p 11)) 10) (hiK 10) (hp.w 10 (by decide) (by decide) (by decide)) _, fun _ => ⟨r_in (p 11) (loK (w64 (p 11)) 11) (hiK 11) (hp.w 11 (by decide) (by decide) (by decide)) _, fun _ => ⟨r_in12 hp _, fun _ => ⟨ld_b12 (b_bls (okK p)) _, ⟨⟨gx0 p, rfl, ⟨⟨rfl, rfl, rfl⟩, ⟨rfl, nofun⟩, trivial⟩, ⟨⟨rfl, rfl, nofun⟩, trivial⟩⟩, fun x => ⟨fun h => ⟨⟨Int.natCast_nonneg _, by have := i12 h; omega⟩, ⟨lo_b (okK p) 1 rfl (i12 h), ⟨fun g => ⟨(), gx_no x h g, nofun⟩, fun g => ⟨gxN x h g, by have := i12 h; show 12 - (x.1 + 1) < 12 - x.1; omega, rfl, ⟨⟨rfl, rfl, rfl⟩, ⟨congrArg _ (inc1 (by have := i12 h; omega)), nofun⟩, trivial⟩, ⟨⟨rfl, rfl, nofun⟩, trivial⟩⟩⟩⟩⟩, fun h => ⟨(), gx_z x h, nofun⟩⟩⟩⟩⟩⟩⟩⟩⟩⟩⟩⟩⟩⟩⟩⟩
theorem r_valid (p : Par) (hp : PWf p) : Det Try.prog 27 [PV p] (.bool (((fi p : Nat) : Int) == 0)) :=
  det_of_vc Try.mixed good_pontageref12_Valid (O := [.reg [(1, det (.int .i64 ((fi p : Nat) : Int)))]]) fun _ => ⟨r_first p hp _, fun _ => ⟨(), rfl, nofun⟩⟩
theorem b_gen : ∀ w, (Instr.build 28 #[(0, .int .u64 7000000), (1, .int .u64 10), (2, .int .u64 102), (3, .agg #[.int .u64 100000000, .int .u64 0, .int .u64 0, .int .u64 0]), (4, .int .u64 32000000), (5, .agg #[.int .u64 60000000, .int .u64 0, .int .u64 0, .int .u64 0]), (6, .int .u64 1000), (7, .agg #[.int .u64 10, .int .u64 0, .int .u64 0, .int .u64 0]), (8, .int .u64 160000000), (9, .int .u64 10), (10, .int .u64 16), (11, .int .u64 65536)]).run Try.prog w = .ok (PV gen) w := by
  intro w
  have h := b_par gen w
  have h4 := U_word (gen 4) (gen_w 4)
  have h6 := U_word (gen 6) (gen_w 6)
  have h8 := U_word (gen 8) (gen_w 8)
  rw [h4, h6, h8] at h
  exact h
end Go.Proofs.Ytlaapbenpjopiaa

