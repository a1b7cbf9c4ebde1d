/- What a call says of the supply. No conditions. -/
import Derived.Test.YtkibbcomfjhgpaaDoorK1h
import Derived.Test.YtkibbcomfjhgpaaDoorK1x
namespace Go.Proofs.YtkibbcomfjhgpaaDoor
open Go.RowKit Sx
set_option maxRecDepth 100000

/-! What a call says of the supply. -/
theorem del_len (l : List Ac) (a : Nat) : (delA l a).length ≤ l.length := by
  induction l with
  | nil => exact Nat.le_refl _
  | cons x r ih => rw [delA]; split <;> simp only [List.length_cons] <;> omega
theorem ins_len (x : Ac) (l : List Ac) : (insA x l).length = l.length + 1 := by
  induction l with
  | nil => rfl
  | cons y r ih => rw [insA]; split <;> simp only [List.length_cons] <;> omega
theorem put_len (l : List Ac) (x : Ac) : (putA l x).length ≤ l.length + 1 := by
  unfold putA; split
  · exact Nat.le_succ_of_le (del_len _ _)
  · rw [ins_len]; exact Nat.succ_le_succ (del_len _ _)
theorem app_len (L : Led) (d : Cd) : (app L d).2.acc.length ≤ L.acc.length + 2 := by
  have h1 := fun x => put_len L.acc x
  have h2 := fun x y => put_len (putA L.acc x) y
  unfold app
  split
  · unfold mint; split
    · exact Nat.le_add_right _ _
    split
    · exact Nat.le_add_right _ _
    · exact Nat.le_succ_of_le (h1 _)
  split
  · unfold trans; split
    · exact Nat.le_add_right _ _
    split
    · exact Nat.le_add_right _ _
    · exact Nat.le_trans (h2 _ _) (Nat.succ_le_succ (h1 _))
  split
  · unfold payv; split
    · exact Nat.le_add_right _ _
    split
    · exact Nat.le_add_right _ _
    · exact Nat.le_succ_of_le (h1 _)
  split
  · unfold withd; split
    · exact Nat.le_add_right _ _
    split
    · exact Nat.le_add_right _ _
    · exact Nat.le_succ_of_le (h1 _)
  split
  · unfold withv; split
    · exact Nat.le_add_right _ _
    split
    · exact Nat.le_add_right _ _
    · exact Nat.le_add_right _ _
  · unfold incn; split
    · exact Nat.le_add_right _ _
    split
    · exact Nat.le_add_right _ _
    · exact Nat.le_succ_of_le (h1 _)
theorem app_err {L : Led} {d : Cd} (h : (app L d).1 ≠ 0) : (app L d).2 = L := by
  revert h
  unfold app
  split
  · unfold mint; split
    · exact fun _ => rfl
    split
    · exact fun _ => rfl
    · exact fun h => absurd rfl h
  split
  · unfold trans; split
    · exact fun _ => rfl
    split
    · exact fun _ => rfl
    · exact fun h => absurd rfl h
  split
  · unfold payv; split
    · exact fun _ => rfl
    split
    · exact fun _ => rfl
    · exact fun h => absurd rfl h
  split
  · unfold withd; split
    · exact fun _ => rfl
    split
    · exact fun _ => rfl
    · exact fun h => absurd rfl h
  split
  · unfold withv; split
    · exact fun _ => rfl
    split
    · exact fun _ => rfl
    · exact fun h => absurd rfl h
  · unfold incn; split
    · exact fun _ => rfl
    split
    · exact fun _ => rfl
    · exact fun h => absurd rfl h
theorem led_err {p : Nat} {L : Led} {d : Cd} {F : Facts} (h : ((app L d).1 != 0) = true) (g : led p (app L d).2 F) : led p L F := by
  rwa [app_err (bne_iff_ne.1 h)] at g
theorem app_s1 {L : Led} {d : Cd} (h : d.op = 0 ∨ d.op = 1) (h0 : (app L d).1 = 0) : (app L d).2.s = L.s + d.n := by
  rw [app_m h] at h0 ⊢
  revert h0
  unfold mint; split
  · intro h; simp at h
  split
  · intro h; simp at h
  · exact fun _ => rfl
theorem app_s2 {L : Led} {d : Cd} (hL : LOk L) (h : d.op = 5 ∨ d.op = 6) (h0 : (app L d).1 = 0) : (app L d).2.s + d.n = L.s := by
  rcases h with h | h
  · rw [app_w (by omega) (by omega) (by omega) (by omega) (by omega) h] at h0 ⊢
    revert h0
    unfold withd; split
    · intro h; simp at h
    split
    · intro h; simp at h
    · intro _; have := hL.bs d.a; show L.s - d.n + d.n = L.s; omega
  · rw [app_v (by omega) (by omega) (by omega) (by omega) (by omega) (by omega) h] at h0 ⊢
    revert h0
    unfold withv; split
    · intro h; simp at h
    split
    · intro h; simp at h
    · rename_i hv _
      intro _
      have hv : isv d.v = true := by simpa using hv
      have := hL.vs (isv_ix hv).2
      show L.s - d.n + d.n = L.s; omega
theorem app_s3 {L : Led} {d : Cd} (h1 : ¬ (d.op = 0 ∨ d.op = 1)) (h5 : d.op ≠ 5) (h6 : d.op ≠ 6) : (app L d).2.s = L.s := by
  unfold app
  rw [if_neg h1]
  split
  · unfold trans; split
    · rfl
    split <;> rfl
  split
  · unfold payv; split
    · rfl
    split <;> rfl
  unfold incn; split
  · rfl
  split <;> rfl
theorem nrm_op (d : Cd) (i : Nat) : (nrm d i).op = ((modI d.op 8 : Nat) : Int) := by
  have h : (nrm1 d i).op = ((modI d.op 8 : Nat) : Int) := by unfold nrm1; split <;> rfl
  unfold nrm; split
  · exact h
  · exact h
theorem op_01 {d : Cd} {i : Nat} (h : decide ((nrm d i).op < 2) = true) : (nrm d i).op = 0 ∨ (nrm d i).op = 1 := by
  have := of_decide_eq_true h
  have e := nrm_op d i
  omega
theorem op_n01 {d : Cd} {i : Nat} (h : decide ((nrm d i).op < 2) = false) : ¬ ((nrm d i).op = 0 ∨ (nrm d i).op = 1) := by
  have := of_decide_eq_false h
  omega
theorem op_n5 {d : Cd} {i : Nat} (h : decide ((nrm d i).op < 2) = true) : ((nrm d i).op == 5) = false := beq_eq_false_iff_ne.2 (by have := of_decide_eq_true h; omega)
theorem op_n6 {d : Cd} {i : Nat} (h : decide ((nrm d i).op < 2) = true) : ((nrm d i).op == 6) = false := beq_eq_false_iff_ne.2 (by have := of_decide_eq_true h; omega)

/-! The sums. -/
def sat (x : Nat) : Nat := if x < B256 then x else M256
theorem m256 : M256 + 1 = B256 := by decide +kernel
theorem sat_lt (x : Nat) : sat x < B256 := by have := m256; unfold sat; split <;> omega
theorem satA_sat (I n : Nat) : satA (sat I) n = sat (I + n) := by
  have := m256
  unfold satA sat
  by_cases h : I < B256
  · rw [if_pos h]
  · rw [if_neg h, if_neg (show ¬ I + n < B256 by omega)]
    by_cases h2 : M256 + n < B256
    · rw [if_pos h2]; omega
    · rw [if_neg h2]
def H255 : Nat := 57896044618658097711785492504343953926634992332820282019728792003956564819968
theorem h255 : H255 < B256 := by unfold B256 H255; decide +kernel
theorem U_255 : U H255 = .agg #[.int .u64 0, .int .u64 0, .int .u64 0, .int .u64 9223372036854775808] := by
  have h0 : limb H255 0 = 0 := by decide +kernel
  have h1 : limb H255 1 = 0 := by decide +kernel
  have h2 : limb H255 2 = 0 := by decide +kernel
  have h3 : limb H255 3 = 9223372036854775808 := by decide +kernel
  show Value.agg #[.int .u64 (limb H255 0), .int .u64 (limb H255 1), .int .u64 (limb H255 2), .int .u64 (limb H255 3)] = _
  rw [h0, h1, h2, h3]
theorem limb_z (k : Nat) : limb 0 k = 0 := by unfold limb; simp
theorem cu0 : [Value.int .u64 0, .int .u64 0, .int .u64 0, .int .u64 0] = cU 0 := by
  show _ = [Value.int .u64 (limb 0 0), .int .u64 (limb 0 1), .int .u64 (limb 0 2), .int .u64 (limb 0 3)]
  rw [limb_z, limb_z, limb_z, limb_z]
theorem c255_t {a : Nat} (h : a < H255) : decide (cmpI a H255 < 0) = true := by
  apply decide_eq_true; unfold cmpI; rw [if_pos h]; decide
theorem c255_f {a : Nat} (h : ¬ a < H255) : decide (cmpI a H255 < 0) = false := by
  apply decide_eq_false; unfold cmpI; rw [if_neg h]; split <;> decide
theorem vv_self (v : Nat → Nat) : (!cellsEq (cU (v 0) ++ (cU (v 1) ++ (cU (v 2) ++ cU (v 3)))) (cU (v 0) ++ (cU (v 1) ++ (cU (v 2) ++ cU (v 3))))) = false := by simp [cellsEq, cellEq]

structure CSt (y : Cds) where
  k : Nat
  hk : k ≤ y.n
  L : Led
  i : Nat
  o : Nat
  ok : LOk L
  len : L.acc.length ≤ 2 * k
  inv : ∃ I O, i = sat I ∧ o = sat O ∧ L.s + O = I
theorem CSt.hi {y : Cds} (x : CSt y) : x.i < B256 := by obtain ⟨I, O, h, _, _⟩ := x.inv; rw [h]; exact sat_lt I
theorem CSt.ho {y : Cds} (x : CSt y) : x.o < B256 := by obtain ⟨I, O, _, h, _⟩ := x.inv; rw [h]; exact sat_lt O
theorem inv_eq {s i o : Nat} (h : ∃ I O, i = sat I ∧ o = sat O ∧ s + O = I) (hi : i < H255) : satA s o = i := by
  obtain ⟨I, O, rfl, rfl, h⟩ := h
  have h5 := h255
  have e : H255 = 57896044618658097711785492504343953926634992332820282019728792003956564819968 := rfl
  have e3 := m256
  have e2 : B256 = 115792089237316195423570985008687907853269984665640564039457584007913129639936 := rfl
  unfold sat at *
  unfold satA
  repeat' split at hi
  all_goals repeat' split
  all_goals omega
section
variable {y : Cds}
abbrev CSt.d (x : CSt y) : Cd := nrm (y.l.getD x.k default) x.k
theorem CSt.dk (x : CSt y) : CdOk x.d := nrm_ok (y.hb x.k) x.k
def c0 (y : Cds) : CSt y := ⟨0, Nat.zero_le _, led0, 0, 0, ok_0, Nat.zero_le _, ⟨0, 0, rfl, rfl, rfl⟩⟩
def CSt.nextE (x : CSt y) (g : x.k < y.n) : CSt y := ⟨x.k + 1, g, x.L, x.i, x.o, x.ok, by have := x.len; omega, x.inv⟩
theorem CSt.len2 (x : CSt y) : (app x.L x.d).2.acc.length ≤ 2 * (x.k + 1) := by have := app_len x.L x.d; have := x.len; omega
theorem z0 {v : Int} (h : (v != 0) = false) : v = 0 := bne_eq_false_iff_eq.1 h
theorem CSt.inv1 (x : CSt y) (h0 : ((app x.L x.d).1 != 0) = false) (h : decide (x.d.op < 2) = true) : ∃ I O, satA x.i x.d.n = sat I ∧ x.o = sat O ∧ (app x.L x.d).2.s + O = I := by
  obtain ⟨I, O, h1, h2, h3⟩ := x.inv
  exact ⟨I + x.d.n, O, by rw [h1, satA_sat], h2, by have e : (app x.L x.d).2.s = x.L.s + x.d.n := app_s1 (op_01 h) (z0 h0); show _ = I + x.d.n; omega⟩
theorem CSt.inv2 (x : CSt y) (h0 : ((app x.L x.d).1 != 0) = false) (h : x.d.op = 5 ∨ x.d.op = 6) : ∃ I O, x.i = sat I ∧ satA x.o x.d.n = sat O ∧ (app x.L x.d).2.s + O = I := by
  obtain ⟨I, O, h1, h2, h3⟩ := x.inv
  exact ⟨I, O + x.d.n, h1, by rw [h2, satA_sat], by have e : (app x.L x.d).2.s + x.d.n = x.L.s := app_s2 x.ok h (z0 h0); show _ + (O + x.d.n) = I; omega⟩
theorem CSt.inv3 (x : CSt y) (h1 : decide (x.d.op < 2) = false) (h5 : x.d.op ≠ 5) (h6 : x.d.op ≠ 6) : ∃ I O, x.i = sat I ∧ x.o = sat O ∧ (app x.L x.d).2.s + O = I := by
  obtain ⟨I, O, e1, e2, e3⟩ := x.inv
  exact ⟨I, O, e1, e2, by rw [app_s3 (op_n01 h1) h5 h6]; exact e3⟩
def CSt.nextS (x : CSt y) (g : x.k < y.n) (i o : Nat) (h : ∃ I O, i = sat I ∧ o = sat O ∧ (app x.L x.d).2.s + O = I) : CSt y := ⟨x.k + 1, g, (app x.L x.d).2, i, o, app_ok x.ok x.dk, x.len2, h⟩
theorem CSt.l9 (x : CSt y) (hy : y.n ≤ 80) : x.L.acc.length ≤ 1000000000 := by have := x.len; have := x.hk; omega
theorem CSt.l9a (x : CSt y) (hy : y.n ≤ 80) (z : FrX (acws x.L.acc)) : (Ass.fr x.L.acc z).n ≤ 1000000000 := by rw [← (Ass.fr x.L.acc z).hl]; exact x.l9 hy
end
theorem n80 {n : Nat} (h : decide ((n : Int) > 80) = false) : n ≤ 80 := by have := of_decide_eq_false h; omega


end Go.Proofs.YtkibbcomfjhgpaaDoor

