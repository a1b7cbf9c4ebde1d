/- Package sizeest over this translation and its reference: units and their cost, the same results for both; the example of layer 10. No conditions. -/
import Derived.Test.YteepoeljihbpjaaZ9l
import Derived.Test.YteepoeljihbpjaaSxr
namespace Go.Proofs.Yteepoeljihbpjaa
open Go.RowKit Sx
set_option maxRecDepth 100000

section
variable {ρ : Operand → Value} {dst : Option Tmp} {type : TypeId} {pos : String} {after : Array Edge} {guard : Option (Nat × Bool)}
theorem lu_min (a b : Nat) (A : Facts) {x y : Operand} (hx : ρ x = .int .u64 (a : Int) := by rfl) (hy : ρ y = .int .u64 (b : Int) := by rfl) :
    ∀ w, Sx.Holds w A → (execOp ρ ⟨dst, .call ⟨.builtin .min, #[x, y], #[23, 23]⟩, type, pos, after, guard⟩).run Try.prog w = .ok (.value (.int .u64 ((min a b : Nat) : Int))) w := by
  intro w _
  simp only [execOp, resolve, invoke, builtin]
  simp [Builtin.min_, Builtin.min2, hx, hy]
  split <;> omega
theorem lu_max (a b : Nat) (A : Facts) {x y : Operand} (hx : ρ x = .int .u64 (a : Int) := by rfl) (hy : ρ y = .int .u64 (b : Int) := by rfl) :
    ∀ w, Sx.Holds w A → (execOp ρ ⟨dst, .call ⟨.builtin .max, #[x, y], #[23, 23]⟩, type, pos, after, guard⟩).run Try.prog w = .ok (.value (.int .u64 ((max a b : Nat) : Int))) w := by
  intro w _
  simp only [execOp, resolve, invoke, builtin]
  simp [Builtin.max_, Builtin.max2, hx, hy]
  split <;> omega
theorem lu_mul {a b c : Int} (h : IntKind.u64.wrap (a * b) = c) (A : Facts) {x y : Operand} (hx : ρ x = .int .u64 a := by rfl) (hy : ρ y = .int .u64 b := by rfl) :
    ∀ w, Sx.Holds w A → (execOp ρ ⟨dst, .binOp .mul 23 x y 23, type, pos, after, guard⟩).run Try.prog w = .ok (.value (.int .u64 c)) w := by
  intro w _
  have e : execOp ρ ⟨dst, .binOp .mul 23 x y 23, type, pos, after, guard⟩ = (do let v ← binOp .mul 23 (ρ x) (ρ y); pure (.value v)) := rfl
  rw [e, hx, hy, ← h]
  rfl
theorem lu_add {a b c : Int} (h : IntKind.u64.wrap (a + b) = c) (A : Facts) {x y : Operand} (hx : ρ x = .int .u64 a := by rfl) (hy : ρ y = .int .u64 b := by rfl) :
    ∀ w, Sx.Holds w A → (execOp ρ ⟨dst, .binOp .add 23 x y 23, type, pos, after, guard⟩).run Try.prog w = .ok (.value (.int .u64 c)) w := by
  intro w _
  have e : execOp ρ ⟨dst, .binOp .add 23 x y 23, type, pos, after, guard⟩ = (do let v ← binOp .add 23 (ρ x) (ρ y); pure (.value v)) := rfl
  rw [e, hx, hy, ← h]
  rfl
theorem lu_to64 {n : Nat} (h : n < 9223372036854775808) (A : Facts) {x : Operand} (hx : ρ x = .int .i64 (n : Int) := by rfl) :
    ∀ w, Sx.Holds w A → (execOp ρ ⟨dst, .convert 3 23 x, type, pos, after, guard⟩).run Try.prog w = .ok (.value (.int .u64 (n : Int))) w := by
  intro w _
  have hw := u64_wrap_nat (n := n) (by omega)
  have e : execOp ρ ⟨dst, .convert 3 23 x, type, pos, after, guard⟩ = (do let v ← convert 3 23 (ρ x); pure (.value v)) := rfl
  rw [e, hx]
  simp [convert, run_underlying Try.underlying3, run_underlying Try.underlying23, Conv.intToInt, hw]
end
theorem u_mul {a b : Nat} (h : a * b < 18446744073709551616) : IntKind.u64.wrap ((a : Int) * (b : Int)) = ((a * b : Nat) : Int) := by
  rw [show ((a : Int) * (b : Int)) = ((a * b : Nat) : Int) from (Int.natCast_mul a b).symm, u64_wrap_nat h]
theorem u_add {a b : Nat} (h : a + b < 18446744073709551616) : IntKind.u64.wrap ((a : Int) + (b : Int)) = ((a + b : Nat) : Int) := by
  rw [show ((a : Int) + (b : Int)) = ((a + b : Nat) : Int) from (Int.natCast_add a b).symm, u64_wrap_nat h]
theorem u_mulc {a b : Nat} (h : a * b < 18446744073709551616) : IntKind.u64.wrap ((a : Int) * (b : Int)) = ((b * a : Nat) : Int) := by rw [u_mul h, Nat.mul_comm]
/-- A number of data units, clamped. -/
def clN (n f t : Nat) : Nat := min (max n f) t
/-- The units of bytes l, unclamped. -/
abbrev unL (l : Bs) : Nat := 16 * (comp l).length
/-- What Units returns. -/
def unN (l : Bs) (f t : Nat) : Nat := if t < f then 0 else if 4096 < l.length then 0 else clN (unL l) f t
def unE (l : Bs) (f t : Nat) : Int := if t < f then 2 else if 4096 < l.length then 6 else 0
abbrev unV (l : Bs) (f t : Nat) : Value := .tuple #[.int .u64 ((unN l f t : Nat) : Int), .int .i64 (unE l f t)]
section
variable {y : Byt} {f t : Nat}
theorem un_n (g : decide ((y.n : Int) > 4096) = false) : y.n ≤ 4096 := by have := of_decide_eq_false g; omega
theorem un_len (g : decide ((y.n : Int) > 4096) = false) : (comp y.l).length ≤ 5000 := by have := comp_le y (un_n g); omega
theorem un_1 (g : decide ((f : Int) > (t : Int)) = true) : Value.tuple #[.int .u64 0, .int .i64 2] = unV y.l f t := by
  have h := of_decide_eq_true g
  simp [unV, unN, unE, show t < f by omega]
theorem un_2 (g : decide ((f : Int) > (t : Int)) = false) (g2 : decide ((y.n : Int) > 4096) = true) : Value.tuple #[.int .u64 0, .int .i64 6] = unV y.l f t := by
  have h := of_decide_eq_false g
  have h2 := of_decide_eq_true g2
  have h3 := y.hl
  simp [unV, unN, unE, show ¬ t < f by omega, show 4096 < y.l.length by omega]
theorem un_3 {v : Nat} (g : decide ((f : Int) > (t : Int)) = false) (g2 : decide ((y.n : Int) > 4096) = false) (e : v = clN (unL y.l) f t) : Value.tuple #[.int .u64 (v : Int), .int .i64 0] = unV y.l f t := by
  have h := of_decide_eq_false g
  have h2 := un_n g2
  have h3 := y.hl
  simp [unV, unN, unE, show ¬ t < f by omega, show ¬ 4096 < y.l.length by omega, e]
end
section
variable {n f t : Nat}
theorem um_a (g : decide ((n : Int) < (f : Int)) = true) (h : decide ((f : Int) > (t : Int)) = true) : t = clN n f t := by have := of_decide_eq_true g; have := of_decide_eq_true h; unfold clN; omega
theorem um_b (g : decide ((n : Int) < (f : Int)) = true) (h : decide ((f : Int) > (t : Int)) = false) : f = clN n f t := by have := of_decide_eq_true g; have := of_decide_eq_false h; unfold clN; omega
theorem um_c (g : decide ((n : Int) < (f : Int)) = false) (h : decide ((n : Int) > (t : Int)) = true) : t = clN n f t := by have := of_decide_eq_false g; have := of_decide_eq_true h; unfold clN; omega
theorem um_d (g : decide ((n : Int) < (f : Int)) = false) (h : decide ((n : Int) > (t : Int)) = false) : n = clN n f t := by have := of_decide_eq_false g; have := of_decide_eq_false h; unfold clN; omega
end
theorem eqs_t (z : Int) : (z == z) = true := by simp
/-- Two words of the same number. -/
def two (k : Nat) : Nat := k + 18446744073709551616 * k
theorem U_two (k : Nat) (hk : k < 18446744073709551616) : U (two k) = .agg #[.int .u64 k, .int .u64 k, .int .u64 0, .int .u64 0] := by
  obtain ⟨y0, y1, y2, y3⟩ := limb_of (n := two k) (x0 := k) (x1 := k) (x2 := 0) (x3 := 0) (by omega) (by omega) (by omega) (by omega) (by omega) (by omega) (by omega) (by omega) (by unfold two; omega)
  rw [U, ← y0, ← y1, ← y2, ← y3]
theorem two_lt {k : Nat} (hk : k < 18446744073709551616) : two k < B256 := by unfold two B256; omega
theorem good_sizeest_Units : Good Try.prog 9 Try.f9 3 := ⟨Try.func9, by kernel_rfl, by kernel_rfl⟩
theorem good_sizeest_Cost : Good Try.prog 11 Try.f11 2 := ⟨Try.func11, by kernel_rfl, by kernel_rfl⟩
theorem good_pontageref10_Units : Good Try.prog 10 Try.f10 3 := ⟨Try.func10, by kernel_rfl, by kernel_rfl⟩
theorem good_pontageref10_Cost : Good Try.prog 12 Try.f12 2 := ⟨Try.func12, by kernel_rfl, by kernel_rfl⟩
theorem good_pontageref1_Mul256 : Good Try.prog 20 Try.f20 2 := ⟨Try.func20, by kernel_rfl, by kernel_rfl⟩
theorem good_pontagelaw10_awake : Good Try.prog 8 Try.f8 0 := ⟨Try.func8, by kernel_rfl, by kernel_rfl⟩
theorem z_units (y : Byt) (f t : Nat) (A : Facts) (hy : Sub y.L A) : Gives Try.prog 9 [y.v, .int .u64 (f : Int), .int .u64 (t : Int)] A (Unit) (fun _ => unV y.l f t) (fun _ => []) :=
  gives_of_vcF Try.mixed good_sizeest_Units (args := [(y.v, y.L), (.int .u64 (f : Int), []), (.int .u64 (t : Int), [])]) (B := A) (O := [.both [] [.both [] [.reg [(1, .call (PV (comp y.l)) (pv0 _) (fun p => bV (comp y.l) p) (fun p => pL (comp y.l) p.1)), (3, .ld (.int .u64 (((comp y.l).length : Nat) : Int))), (4, .ld (.int .u64 ((unL y.l : Nat) : Int)))], .opt 6 [(2, .ld (.int .u64 ((max (unL y.l) f : Nat) : Int))), (4, .ld (.int .u64 ((min (max (unL y.l) f) t : Nat) : Int)))]]]]) (.app ((.refl _)) (.app (hy) (.app (.nil _) (.app (.nil _) (.nil _))))) (⟨fun g1 => ⟨(), un_1 g1, nofun⟩, fun g1 => ⟨fun g2 => ⟨(), un_2 g1 g2, nofun⟩, fun g2 => ⟨zc_comp y (by have := un_n g2; omega) _ (by intro q h; simp [h]), fun p => ⟨lu_to64 (by have := un_len g2; omega) _, ⟨lu_mul (u_mul (a := 16) (by have := un_len g2; omega)) _, ⟨lu_max _ _ _, ⟨lu_min _ _ _, ⟨(), un_3 g1 g2 rfl, nofun⟩⟩⟩⟩⟩⟩⟩⟩)
theorem t_units (y : Byt) (f t : Nat) (A : Facts) (hy : Sub y.L A) : Gives Try.prog 10 [y.v, .int .u64 (f : Int), .int .u64 (t : Int)] A (Unit) (fun _ => unV y.l f t) (fun _ => []) :=
  gives_of_vcF Try.mixed good_pontageref10_Units (args := [(y.v, y.L), (.int .u64 (f : Int), []), (.int .u64 (t : Int), [])]) (B := A) (O := [.both [] [.both [] [.reg [(1, .call (PV (comp y.l)) (pv0 _) (fun p => bV (comp y.l) p) (fun p => pL (comp y.l) p.1)), (3, .ld (.int .u64 (((comp y.l).length : Nat) : Int))), (4, .ld (.int .u64 ((unL y.l : Nat) : Int)))], .both [.both [] []] [.both [] []]]]]) (.app ((.refl _)) (.app (hy) (.app (.nil _) (.app (.nil _) (.nil _))))) (⟨fun g1 => ⟨(), un_1 g1, nofun⟩, fun g1 => ⟨fun g2 => ⟨(), un_2 g1 g2, nofun⟩, fun g2 => ⟨tc_comp y (by have := un_n g2; omega) _ (by intro q h; simp [h]), fun p => ⟨lu_to64 (by have := un_len g2; omega) _, ⟨lu_mul (u_mulc (b := 16) (by have := un_len g2; omega)) _, ⟨fun g3 => ⟨fun g4 => ⟨(), un_3 g1 g2 (um_a g3 g4), nofun⟩, fun g4 => ⟨(), un_3 g1 g2 (um_b g3 g4), nofun⟩⟩, fun g3 => ⟨fun g4 => ⟨(), un_3 g1 g2 (um_c g3 g4), nofun⟩, fun g4 => ⟨(), un_3 g1 g2 (um_d g3 g4), nofun⟩⟩⟩⟩⟩⟩⟩⟩)
theorem d_cost (n a : Nat) (hn : n < 18446744073709551616) (ha : a < B256) : Det Try.prog 11 [.int .u64 (n : Int), U a] (.tuple #[U (mulR n a), .int .i64 (mulE n a)]) :=
  det_of_vc Try.mixed good_sizeest_Cost (O := [.reg [(1, det (U n)), (3, det (.tuple #[U (mulR n a), .int .i64 (mulE n a)]))]]) fun _ => ⟨d_u64 n hn _, fun _ => ⟨d_mul n a (lt_B hn) ha _, fun _ => ⟨(), rfl, nofun⟩⟩⟩
theorem r_mul256 (a b : Nat) (ha : a < B256) (hb : b < B256) : Det Try.prog 20 [U a, U b] (.tuple #[U (mulR a b), .int .i64 (mulE a b)]) :=
  det_of_vc Try.mixed good_pontageref1_Mul256 (O := [.reg [(1, big a), (3, big b), (4, big (a * b)), (5, det (.tuple #[U (mulR a b), .int .i64 (mulE a b)]))]]) fun _ => ⟨c_from a ha _, fun x => ⟨c_from b hb _, fun z => ⟨c_mul x z (Nat.le_succ_of_le (nd_256 ha)) (Nat.le_succ_of_le (nd_256 hb)) _ (by intro q h; simp [h]) (by intro q h; simp [h]), fun p => ⟨c_checked p _ (by intro q h; simp [h]), fun _ => ⟨(), rfl, nofun⟩⟩⟩⟩⟩
theorem r_mul256w (n a : Nat) (hn : n < 18446744073709551616) (ha : a < B256) : Det Try.prog 20 [.agg #[.int .u64 n, .int .u64 0, .int .u64 0, .int .u64 0], U a] (.tuple #[U (mulR n a), .int .i64 (mulE n a)]) := by
  have := r_mul256 n a (lt_B hn) ha
  rwa [U_word n hn] at this
theorem r_cost (n a : Nat) (hn : n < 18446744073709551616) (ha : a < B256) : Det Try.prog 12 [.int .u64 (n : Int), U a] (.tuple #[U (mulR n a), .int .i64 (mulE n a)]) :=
  det_of_vc Try.mixed good_pontageref10_Cost (O := [.reg [(3, det (.tuple #[U (mulR n a), .int .i64 (mulE n a)]))]]) fun _ => ⟨r_mul256w n a hn ha _, fun _ => ⟨(), rfl, nofun⟩⟩
theorem d_cost2 (n k : Nat) (hn : n < 18446744073709551616) (hk : k < 18446744073709551616) : Det Try.prog 11 [.int .u64 (n : Int), .agg #[.int .u64 k, .int .u64 k, .int .u64 0, .int .u64 0]] (.tuple #[U (mulR n (two k)), .int .i64 (mulE n (two k))]) := by
  have := d_cost n (two k) hn (two_lt hk)
  rwa [U_two k hk] at this
theorem r_cost2 (n k : Nat) (hn : n < 18446744073709551616) (hk : k < 18446744073709551616) : Det Try.prog 12 [.int .u64 (n : Int), .agg #[.int .u64 k, .int .u64 k, .int .u64 0, .int .u64 0]] (.tuple #[U (mulR n (two k)), .int .i64 (mulE n (two k))]) := by
  have := r_cost n (two k) hn (two_lt hk)
  rwa [U_two k hk] at this
theorem aw_80 : (((unN aw4 0 1000 : Nat) : Int) == 80) = true := by decide +kernel
theorem aw_16 : (((unN [] 16 1000 : Nat) : Int) == 16) = true := by decide +kernel
theorem aw_e80 : (unE aw4 0 1000 == 0) = true := by decide +kernel
theorem aw_e16 : Value.bool (unE [] 16 1000 == 0) = .bool true := congrArg Value.bool (by decide +kernel : (unE [] 16 1000 == 0) = true)
theorem aw10 (A : Facts) : Gives Try.prog 8 [] A (Unit) (fun _ => .bool true) (fun _ => []) :=
  gives_of_vcF Try.mixed good_pontagelaw10_awake (args := []) (B := A) (O := [.reg [(0, .thg 1 Nat 0 (fun m => (Byt.row m aw4).v) (fun _ => []) (fun m G => G = (Byt.row m aw4).L)), (1, .thg 1 Nat 0 (fun m => (Byt.rowz m aw4 (4, 5)).v) (fun _ => []) (fun m G => G = (Byt.rowz m aw4 (4, 5)).L)), (2, .rdT 1 Unit () (fun _ => unV aw4 0 1000) (fun _ => []))], .reg [(0, det (unV [] 16 1000))], .reg [(3, .yes), (4, .yes), (5, .yes), (7, .yes), (8, .yes), (9, .yes), (11, .yes), (12, .yes), (13, .yes)]]) (.app ((.refl _)) (.nil _)) (⟨thg_build aw4 (fun ρ h => by simp only [List.map, h]; kernel_rfl) rfl (by decide) _, fun r4a => ⟨thg_mark (m := r4a) (l := aw4) _, fun r4 => ⟨fun _ g => by subst g; exact callR_op (gives_rd (z_units (Byt.rowz r4 aw4 (4, 5)) 0 1000 _ (fun _ h => List.mem_append.2 (.inr h)))) rfl rfl, fun _ => ⟨z_units Byt.nil 16 1000 _ (Sub.nil _), fun _ => ⟨gtt aw_80, ⟨gtt aw_80, ⟨aw_80, ⟨gtt aw_e80, ⟨gtt aw_e80, ⟨aw_e80, ⟨gtt aw_16, ⟨gtt aw_16, ⟨aw_16, ⟨(), aw_e16, nofun⟩⟩⟩⟩⟩⟩⟩⟩⟩⟩⟩⟩⟩⟩)
end Go.Proofs.Yteepoeljihbpjaa

