/- ReadBytes of package wire and of the reference of layer 6 over this translation. No conditions. -/
import Derived.Test.YtfpigcaihmlelaaW6t
import Derived.Test.YtfpigcaihmlelaaW6s
namespace Go.Proofs.Ytfpigcaihmlelaa
open Go.RowKit Sx
set_option maxRecDepth 100000

/-- What reading a byte string gives: its bytes, the place behind it, the code. -/
def rdb (l : List UInt8) (z : Int) : List UInt8 × Nat × Nat :=
  if (rdn l z 8).2.2 = 0 then
    if (rdn l z 8).1 ≤ l.length - (rdn l z 8).2.1 then ((l.drop (rdn l z 8).2.1).take (rdn l z 8).1, (rdn l z 8).2.1 + (rdn l z 8).1, 0) else ([], 0, 3)
  else ([], 0, (rdn l z 8).2.2)
theorem rdb_a {l : List UInt8} {z : Int} (h : (rdn l z 8).2.2 ≠ 0) : rdb l z = ([], 0, (rdn l z 8).2.2) := if_neg h
theorem rdb_b {l : List UInt8} {z : Int} (h : (rdn l z 8).2.2 = 0) (h1 : l.length - (rdn l z 8).2.1 < (rdn l z 8).1) : rdb l z = ([], 0, 3) := by unfold rdb; rw [if_pos h, if_neg (by omega)]
theorem rdb_c {l : List UInt8} {z : Int} (h : (rdn l z 8).2.2 = 0) (h1 : (rdn l z 8).1 ≤ l.length - (rdn l z 8).2.1) : rdb l z = ((l.drop (rdn l z 8).2.1).take (rdn l z 8).1, (rdn l z 8).2.1 + (rdn l z 8).1, 0) := by unfold rdb; rw [if_pos h, if_pos h1]
theorem rdn_end {l : List UInt8} {z : Int} {m : Nat} (h : (rdn l z m).2.2 = 0) : (rdn l z m).2.1 ≤ l.length := by
  by_cases hz : 0 ≤ z ∧ z ≤ l.length
  · obtain ⟨k, rfl⟩ := Int.eq_ofNat_of_zero_le hz.1
    have hk : k ≤ l.length := by omega
    cases hs : sigOk (l.drop k) m with
    | false => rw [rdn_no hk hs] at h; cases h
    | true =>
      rw [rdn_yes hk hs]
      have h1 := (sigOk_iff.1 hs).2.2.1
      have h2 := (sigOk_iff.1 hs).1
      rw [List.length_drop] at h1 h2
      show k + 1 + _ ≤ _
      omega
  · rw [rdn_inv hz] at h; cases h
theorem rdn_8 {l : List UInt8} {z : Int} : (rdn l z 8).1 < 18446744073709551616 := by
  unfold rdn
  split
  · split
    · rename_i hs
      refine Nat.lt_of_lt_of_le (be_lt _) ?_
      have := (sigOk_iff.1 hs).2.1
      rw [List.length_take]
      exact Nat.pow_le_pow_right (n := 256) (by omega) (show min _ _ ≤ 8 by omega)
    · exact Nat.zero_lt_succ _
  · exact Nat.zero_lt_succ _
theorem rd64 (l : List UInt8) (z : Int) : limb (rdn l z 8).1 0 = ((rdn l z 8).1 : Int) := limb_self rdn_8
abbrev r64V (l : List UInt8) (z : Int) : Value := .tuple #[.int .u64 ((rdn l z 8).1 : Int), .int .i64 ((rdn l z 8).2.1 : Int), .int .i64 ((rdn l z 8).2.2 : Int)]
theorem c_r64v (y : Byt) (z : Int) (hN : y.n < 4611686018427387904) (A : Facts) (hy : Sub y.L A) : Gives Try.prog 22 [y.v, .int .i64 z] A Unit (fun _ => r64V y.l z) (fun _ => []) := by
  have := c_r64 y z hN A hy
  rwa [rd64] at this
theorem t_r64v (y : Byt) (z : Int) (hN : y.n < 4611686018427387904) (A : Facts) (hy : Sub y.L A) : Gives Try.prog 23 [y.v, .int .i64 z] A Unit (fun _ => r64V y.l z) (fun _ => []) := by
  have := t_r64 y z hN A hy
  rwa [rd64] at this
theorem gtr_t {a b : Nat} (h : b < a) : decide ((a : Int) > (b : Int)) = true := gt_n h
/-- What ReadBytes gives back. -/
abbrev rbR (l : List UInt8) (z : Int) (x : FrX (bcs (rdb l z).1)) : Value := .tuple #[.slice (frO x) (lenB (bcs (rdb l z).1) 1) (frC 1 x), .int .i64 ((rdb l z).2.1 : Int), .int .i64 ((rdb l z).2.2 : Int)]
theorem rb_z {l : List UInt8} {z : Int} {e : Nat} {F : Facts} (h : rdb l z = ([], 0, e)) : ∃ x : FrX (bcs (rdb l z).1), Sx.one [.slice none 0 0, .int .i64 0, .int .i64 (e : Int)] = rbR l z x ∧ ∀ q ∈ frL 5 x, q ∈ F := by
  unfold rbR
  rw [h]
  exact ⟨.inl (⟨rfl⟩, none), rfl, fun _ h => by cases h⟩
theorem rb_ok {l : List UInt8} {z : Int} {s : List UInt8} {k : Nat} {F : Facts} (h : rdb l z = (s, k, 0)) (x : FrX (bcs s)) : ∃ x' : FrX (bcs (rdb l z).1), Sx.one [.slice (frO x) (lenB (bcs s) 1) (frC 1 x), .int .i64 (k : Int), .int .i64 0] = rbR l z x' ∧ ∀ q ∈ frL 5 x', q ∈ frL 5 x ++ F := by
  unfold rbR
  rw [h]
  exact ⟨x, rfl, fun _ h => List.mem_append.2 (.inl h)⟩
theorem Byt.sub_l (y : Byt) {a b : Nat} (h1 : a ≤ a + b) (h2 : a + b ≤ y.n) : (y.sub a (a + b) h1 h2).l = (y.l.drop a).take b := by
  show (y.l.drop a).take (a + b - a) = _
  rw [Nat.add_sub_cancel_left]
theorem Byt.cutab (y : Byt) {a b : Nat} (h2 : a + b ≤ y.n) : (0 : Int) ≤ (a : Int) ∧ (a : Int) ≤ ((a + b : Nat) : Int) ∧ ((a + b : Nat) : Int) ≤ (y.cap : Int) := by have := y.hc; omega
theorem addn {a b : Nat} (h : a + b < 4611686018427387904) : IntKind.i64.wrap ((a : Int) + (b : Int)) = ((a + b : Nat) : Int) := by
  rw [show ((a : Int) + (b : Int)) = ((a + b : Nat) : Int) by omega, wrap_nat (by omega)]

theorem good_wire_ReadBytes : Good Try.prog 25 Try.f25 2 := ⟨Try.func25, by kernel_rfl, by kernel_rfl⟩
theorem good_pontageref6_ReadBytes : Good Try.prog 37 Try.f37 2 := ⟨Try.func37, by kernel_rfl, by kernel_rfl⟩
theorem c_rb_a (y : Byt) (z : Int) (hN : y.n ≤ 100000000000) (A : Facts) (hy : Sub y.L A) (h : (rdn y.l z 8).2.2 ≠ 0) : Gives Try.prog 25 [y.v, .int .i64 z] A (FrX (bcs (rdb y.l z).1)) (rbR y.l z) (fun x => frL 5 x) :=
  gives_of_vcF Try.mixed good_wire_ReadBytes (args := [(y.v, y.L), (.int .i64 z, [])]) (B := []) (O := [.reg [(2, det (r64V y.l z))], .yes]) (.app (.nil _) (.app (hy) (.app (.nil _) (.nil _)))) (⟨c_r64v y z (by omega) _ (by intro q h; simp [h]), fun _ => ⟨(code_t h), rb_z (rdb_a h)⟩⟩)
theorem c_rb_b (y : Byt) (z : Int) (hN : y.n ≤ 100000000000) (A : Facts) (hy : Sub y.L A) (h : (rdn y.l z 8).2.2 = 0) (h1 : y.n - (rdn y.l z 8).2.1 < (rdn y.l z 8).1) : Gives Try.prog 25 [y.v, .int .i64 z] A (FrX (bcs (rdb y.l z).1)) (rbR y.l z) (fun x => frL 5 x) :=
  gives_of_vcF Try.mixed good_wire_ReadBytes (args := [(y.v, y.L), (.int .i64 z, [])]) (B := []) (O := [.reg [(2, det (r64V y.l z))], .no, .opt 4 [(4, .ld (.int .i64 ((y.n - (rdn y.l z 8).2.1 : Nat) : Int))), (5, .ld (.int .u64 ((y.n - (rdn y.l z 8).2.1 : Nat) : Int)))], .yes]) (.app (.nil _) (.app (hy) (.app (.nil _) (.nil _)))) (⟨c_r64v y z (by omega) _ (by intro q h; simp [h]), fun _ => ⟨(code_f h), ⟨ld_sub (sub1 (by have := rdn_end h; rw [y.hl] at this; exact this) (by omega)) _, ⟨ld_to64 (by omega) _, ⟨(gt_n h1), rb_z (rdb_b h (by rw [y.hl]; exact h1))⟩⟩⟩⟩⟩)
theorem c_rb_c (y : Byt) (z : Int) (hN : y.n ≤ 100000000000) (A : Facts) (hy : Sub y.L A) (h : (rdn y.l z 8).2.2 = 0) (h1 : (rdn y.l z 8).1 ≤ y.n - (rdn y.l z 8).2.1) (h2 : (rdn y.l z 8).2.1 + (rdn y.l z 8).1 ≤ y.n) : Gives Try.prog 25 [y.v, .int .i64 z] A (FrX (bcs (rdb y.l z).1)) (rbR y.l z) (fun x => frL 5 x) :=
  gives_of_vcF Try.mixed good_wire_ReadBytes (args := [(y.v, y.L), (.int .i64 z, [])]) (B := []) (O := [.reg [(2, det (r64V y.l z))], .no, .opt 4 [(4, .ld (.int .i64 ((y.n - (rdn y.l z 8).2.1 : Nat) : Int))), (5, .ld (.int .u64 ((y.n - (rdn y.l z 8).2.1 : Nat) : Int)))], .no, .opt 6 [(2, .ld (.int .i64 ((rdn y.l z 8).1 : Int))), (3, .ld (.int .i64 (((rdn y.l z 8).2.1 + (rdn y.l z 8).1 : Nat) : Int)))], .reg [(4, frv (bcs (y.sub (rdn y.l z 8).2.1 ((rdn y.l z 8).2.1 + (rdn y.l z 8).1) (Nat.le_add_right _ _) h2).l))]]) (.app (.nil _) (.app (hy) (.app (.nil _) (.nil _)))) (⟨c_r64v y z (by omega) _ (by intro q h; simp [h]), fun _ => ⟨(code_f h), ⟨ld_sub (sub1 (by have := rdn_end h; rw [y.hl] at this; exact this) (by omega)) _, ⟨ld_to64 (by omega) _, ⟨(le_n h1), ⟨ld_toint (by omega) _, ⟨ld_add (addn (by omega)) _, ⟨y.cutab h2, ⟨(c_clone (y.sub (rdn y.l z 8).2.1 ((rdn y.l z 8).2.1 + (rdn y.l z 8).1) (Nat.le_add_right _ _) h2) (by show _ - _ ≤ _; omega) _ (by intro q h; have h : q ∈ y.L := h; simp [h])).gives, fun v => rb_ok (by rw [rdb_c h (by rw [y.hl]; exact h1), y.sub_l (Nat.le_add_right _ _) h2]) v⟩⟩⟩⟩⟩⟩⟩⟩⟩)
theorem c_rb (y : Byt) (z : Int) (hN : y.n ≤ 100000000000) (A : Facts) (hy : Sub y.L A) : Gives Try.prog 25 [y.v, .int .i64 z] A (FrX (bcs (rdb y.l z).1)) (rbR y.l z) (fun x => frL 5 x) := by
  by_cases h : (rdn y.l z 8).2.2 = 0
  · have he := rdn_end h
    rw [y.hl] at he
    by_cases h1 : (rdn y.l z 8).1 ≤ y.n - (rdn y.l z 8).2.1
    · exact c_rb_c y z hN A hy h h1 (by omega)
    · exact c_rb_b y z hN A hy h (by omega)
  · exact c_rb_a y z hN A hy h

theorem t_rb_a (y : Byt) (z : Int) (hN : y.n ≤ 100000000000) (A : Facts) (hy : Sub y.L A) (h : (rdn y.l z 8).2.2 ≠ 0) : Gives Try.prog 37 [y.v, .int .i64 z] A (FrX (bcs (rdb y.l z).1)) (rbR y.l z) (fun x => frL 5 x) :=
  gives_of_vcF Try.mixed good_pontageref6_ReadBytes (args := [(y.v, y.L), (.int .i64 z, [])]) (B := []) (O := [.reg [(2, det (r64V y.l z))], .yes]) (.app (.nil _) (.app (hy) (.app (.nil _) (.nil _)))) (⟨t_r64v y z (by omega) _ (by intro q h; simp [h]), fun _ => ⟨(code_t h), rb_z (rdb_a h)⟩⟩)
theorem t_rb_b (y : Byt) (z : Int) (hN : y.n ≤ 100000000000) (A : Facts) (hy : Sub y.L A) (h : (rdn y.l z 8).2.2 = 0) (h1 : y.n - (rdn y.l z 8).2.1 < (rdn y.l z 8).1) : Gives Try.prog 37 [y.v, .int .i64 z] A (FrX (bcs (rdb y.l z).1)) (rbR y.l z) (fun x => frL 5 x) :=
  gives_of_vcF Try.mixed good_pontageref6_ReadBytes (args := [(y.v, y.L), (.int .i64 z, [])]) (B := []) (O := [.reg [(2, det (r64V y.l z))], .no, .opt 4 [(4, .ld (.int .i64 ((y.n - (rdn y.l z 8).2.1 : Nat) : Int))), (5, .ld (.int .u64 ((y.n - (rdn y.l z 8).2.1 : Nat) : Int)))], .yes]) (.app (.nil _) (.app (hy) (.app (.nil _) (.nil _)))) (⟨t_r64v y z (by omega) _ (by intro q h; simp [h]), fun _ => ⟨(code_f h), ⟨ld_sub (sub1 (by have := rdn_end h; rw [y.hl] at this; exact this) (by omega)) _, ⟨ld_to64 (by omega) _, ⟨(gt_n h1), rb_z (rdb_b h (by rw [y.hl]; exact h1))⟩⟩⟩⟩⟩)
theorem t_rb_c (y : Byt) (z : Int) (hN : y.n ≤ 100000000000) (A : Facts) (hy : Sub y.L A) (h : (rdn y.l z 8).2.2 = 0) (h1 : (rdn y.l z 8).1 ≤ y.n - (rdn y.l z 8).2.1) (h2 : (rdn y.l z 8).2.1 + (rdn y.l z 8).1 ≤ y.n) : Gives Try.prog 37 [y.v, .int .i64 z] A (FrX (bcs (rdb y.l z).1)) (rbR y.l z) (fun x => frL 5 x) :=
  gives_of_vcF Try.mixed good_pontageref6_ReadBytes (args := [(y.v, y.L), (.int .i64 z, [])]) (B := []) (O := [.reg [(2, det (r64V y.l z))], .no, .opt 4 [(4, .ld (.int .i64 ((y.n - (rdn y.l z 8).2.1 : Nat) : Int))), (5, .ld (.int .u64 ((y.n - (rdn y.l z 8).2.1 : Nat) : Int)))], .no, .opt 6 [(0, .call Nat 0 (fun m => (Byt.row m []).v) (fun m => (Byt.row m []).L)), (5, .ld (.int .i64 ((rdn y.l z 8).1 : Int))), (6, .ld (.int .i64 (((rdn y.l z 8).2.1 + (rdn y.l z 8).1 : Nat) : Int))), (8, .own Unit () 5 1 (fun _ => bcs (y.sub (rdn y.l z 8).2.1 ((rdn y.l z 8).2.1 + (rdn y.l z 8).1) (Nat.le_add_right _ _) h2).l)), (11, .ld (.int .i64 ((rdn y.l z 8).1 : Int))), (12, .ld (.int .i64 (((rdn y.l z 8).2.1 + (rdn y.l z 8).1 : Nat) : Int)))]]) (.app (.nil _) (.app (hy) (.app (.nil _) (.nil _)))) (⟨t_r64v y z (by omega) _ (by intro q h; simp [h]), fun _ => ⟨(code_f h), ⟨ld_sub (sub1 (by have := rdn_end h; rw [y.hl] at this; exact this) (by omega)) _, ⟨ld_to64 (by omega) _, ⟨(le_n h1), ⟨build_0 _, fun _ => ⟨ld_toint (by omega) _, ⟨ld_add (addn (by omega)) _, ⟨y.cutab h2, ⟨own_app (y.sub (rdn y.l z 8).2.1 ((rdn y.l z 8).2.1 + (rdn y.l z 8).1) (Nat.le_add_right _ _) h2) (by intro q h; have h : q ∈ y.L := h; simp [h]) (by show _ - _ ≤ _; omega), fun _ => ⟨ld_toint (by omega) _, ⟨ld_add (addn (by omega)) _, fun x => rb_ok (by rw [rdb_c h (by rw [y.hl]; exact h1), y.sub_l (Nat.le_add_right _ _) h2]) x⟩⟩⟩⟩⟩⟩⟩⟩⟩⟩⟩⟩)
theorem t_rb (y : Byt) (z : Int) (hN : y.n ≤ 100000000000) (A : Facts) (hy : Sub y.L A) : Gives Try.prog 37 [y.v, .int .i64 z] A (FrX (bcs (rdb y.l z).1)) (rbR y.l z) (fun x => frL 5 x) := by
  by_cases h : (rdn y.l z 8).2.2 = 0
  · have he := rdn_end h
    rw [y.hl] at he
    by_cases h1 : (rdn y.l z 8).1 ≤ y.n - (rdn y.l z 8).2.1
    · exact t_rb_c y z hN A hy h h1 (by omega)
    · exact t_rb_b y z hN A hy h (by omega)
  · exact t_rb_a y z hN A hy h

end Go.Proofs.Ytfpigcaihmlelaa

