/- Package wire over this translation: what its functions read. No conditions. -/
import Derived.Test.YtgbfolkpgmjaeaaDoorW6p
import Derived.Test.YtgbfolkpgmjaeaaDoorW6n
namespace Go.Proofs.YtgbfolkpgmjaeaaDoor
open Go.RowKit Sx
set_option maxRecDepth 100000

theorem Byt.sig_l (y : Byt) (h : 0 < y.n) (c : Nat) (hc : c ≤ y.n - 1) : (y.sig h c hc).l = (y.l.drop 1).take c := by
  show ((((y.l.drop 1).take (y.n - 1)).drop 0).take (c - 0)) = _
  rw [List.drop_zero, Nat.sub_zero, List.take_take, Nat.min_eq_left hc]
theorem Byt.sig_n (y : Byt) (h : 0 < y.n) (c : Nat) (hc : c ≤ y.n - 1) : (y.sig h c hc).n = c := rfl
theorem Byt.sig_sub (y : Byt) {k : Nat} (h : k ≤ y.n) (h0 : 0 < (y.sub k y.n h (Nat.le_refl _)).n) (c : Nat) (h2 : c ≤ (y.sub k y.n h (Nat.le_refl _)).n - 1) : ((y.sub k y.n h (Nat.le_refl _)).sig h0 c h2).l = (y.l.drop (k + 1)).take c := by
  rw [Byt.sig_l, y.sub_n h, List.drop_drop]
theorem isoff_in {k n : Nat} (h : k ≤ n) : (decide ((0 : Int) ≤ (k : Int)) && decide ((k : Int) ≤ (n : Int))) = true := by simp; omega
theorem isoff_out {z : Int} {n : Nat} (h : ¬ (0 ≤ z ∧ z ≤ (n : Int))) : (!(decide (0 ≤ z) && decide (z ≤ (n : Int)))) = true := by
  simp only [Bool.not_eq_true', Bool.and_eq_false_iff, decide_eq_false_iff_not]; omega
theorem isoff_in' {k n : Nat} (h : k ≤ n) : (!(decide ((0 : Int) ≤ (k : Int)) && decide ((k : Int) ≤ (n : Int)))) = false := by rw [isoff_in h]; rfl
theorem Byt.cutk (y : Byt) {k : Nat} (h : k ≤ y.n) : (0 : Int) ≤ (k : Int) ∧ (k : Int) ≤ (y.n : Int) ∧ (y.n : Int) ≤ (y.cap : Int) := by have := y.hc; omega
theorem rdn_fin {l : List UInt8} {k m c : Nat} {s : List UInt8} (h : k ≤ l.length) (hs : sigOk (l.drop k) m = true) (hc : c = sigC (l.drop k)) (e : s = (l.drop (k + 1)).take c) (hN : l.length < 4611686018427387904) :
    Value.tuple #[U (be s), .int .i64 (IntKind.i64.wrap (IntKind.i64.wrap ((k : Int) + 1) + (c : Int))), .int .i64 0] = rdV (rdn l k m) := by
  have h1 := (sigOk_iff.1 hs).2.2.1
  have h2 := (sigOk_iff.1 hs).1
  rw [List.length_drop] at h1 h2
  rw [rdn_yes h hs, add2 (by omega)]
  subst e; subst hc
  rfl

theorem sub_sig (y : Byt) {k m : Nat} (h : k ≤ y.n) (hs : sigOk (y.l.drop k) m = true) : 0 < (y.sub k y.n h (Nat.le_refl _)).n ∧ sigC (y.sub k y.n h (Nat.le_refl _)).l ≤ m ∧ sigC (y.sub k y.n h (Nat.le_refl _)).l ≤ (y.sub k y.n h (Nat.le_refl _)).n - 1 ∧ (sigC (y.sub k y.n h (Nat.le_refl _)).l = 0 ∨ 0 < ((y.sub k y.n h (Nat.le_refl _)).l.getD 1 0).toNat) := by
  rw [y.sub_n h, show (y.sub k y.n h (Nat.le_refl _)).n = (y.l.drop k).length by rw [List.length_drop, y.hl]; rfl]
  exact sigOk_iff.1 hs
theorem drop_0 (l : List UInt8) (k : Nat) : (l.drop k).getD 0 0 = l.getD k 0 := by simp [List.getD]
theorem drop_1 (l : List UInt8) (k : Nat) : (l.drop k).getD 1 0 = l.getD (k + 1) 0 := by simp [List.getD]
theorem sigC_drop (l : List UInt8) (k : Nat) : sigC (l.drop k) = (l.getD k 0).toNat := by unfold sigC; rw [drop_0]
theorem sig_drop {l : List UInt8} {k m : Nat} : sigOk (l.drop k) m = true ↔ (k < l.length ∧ (l.getD k 0).toNat ≤ m ∧ (l.getD k 0).toNat ≤ l.length - k - 1 ∧ ((l.getD k 0).toNat = 0 ∨ 0 < (l.getD (k + 1) 0).toNat)) := by
  rw [sigOk_iff, sigC_drop, drop_1, List.length_drop]
  constructor <;> intro h <;> refine ⟨by omega, h.2.1, h.2.2.1, h.2.2.2⟩
theorem rdn_code {l : List UInt8} {k m : Nat} (h : k ≤ l.length) : (rdn l k m).2.2 = 0 ∨ (rdn l k m).2.2 = 3 := by
  cases hs : sigOk (l.drop k) m with
  | false => rw [rdn_no h hs]; exact .inr rfl
  | true => rw [rdn_yes h hs]; exact .inl rfl
theorem rdn_lt {l : List UInt8} {z : Int} {m : Nat} (hm : m ≤ 32) : (rdn l z m).1 < B256 := by
  unfold rdn
  split
  · split
    · rename_i hs
      refine be_B ?_
      rw [List.length_take]
      have := (sigOk_iff.1 hs).2.1
      omega
    · exact B256_pos
  · exact B256_pos
/-- Whether the sign byte says 'negative'. -/
abbrev sB (l : List UInt8) (k : Nat) : Bool := decide (((l.getD k 0).toNat : Int) = 1)
/-- What reading a signed number gives. -/
def rdi (l : List UInt8) (z : Int) : Bool × Nat × Nat × Nat :=
  if 0 ≤ z ∧ z ≤ l.length then
    if z.toNat < l.length ∧ (l.getD z.toNat 0).toNat ≤ 1 then
      if (rdn l (z.toNat + 1 : Nat) 32).2.2 = 0 then
        if sB l z.toNat && isz (rdn l (z.toNat + 1 : Nat) 32).1 then (false, 0, 0, 3) else (sB l z.toNat, (rdn l (z.toNat + 1 : Nat) 32).1, (rdn l (z.toNat + 1 : Nat) 32).2.1, 0)
      else (false, 0, 0, 3)
    else (false, 0, 0, 3)
  else (false, 0, 0, 2)
abbrev rdIV (r : Bool × Nat × Nat × Nat) : Value := .tuple #[Ic r.1 r.2.1, .int .i64 (r.2.2.1 : Int), .int .i64 (r.2.2.2 : Int)]
theorem rdi_z (e : Nat) : Value.tuple #[.agg #[.bool false, .int .u64 0, .int .u64 0, .int .u64 0, .int .u64 0], .int .i64 0, .int .i64 (e : Int)] = rdIV (false, 0, 0, e) := by
  show _ = Value.tuple #[Ic false 0, .int .i64 0, .int .i64 (e : Int)]
  unfold Ic; rw [limb_zero.1, limb_zero.2.1, limb_zero.2.2.1, limb_zero.2.2.2]
theorem rdi_a {l : List UInt8} {z : Int} (h : ¬ (0 ≤ z ∧ z ≤ l.length)) : rdi l z = (false, 0, 0, 2) := if_neg h
theorem rdi_b {l : List UInt8} {k : Nat} (h : k ≤ l.length) (h1 : ¬ (k < l.length ∧ (l.getD k 0).toNat ≤ 1)) : rdi l k = (false, 0, 0, 3) := by
  unfold rdi; rw [if_pos (by omega), Int.toNat_natCast, if_neg h1]
theorem rdi_c {l : List UInt8} {k : Nat} (h1 : k < l.length) (h2 : (l.getD k 0).toNat ≤ 1) (h3 : (rdn l (k + 1 : Nat) 32).2.2 ≠ 0) : rdi l k = (false, 0, 0, 3) := by
  unfold rdi; rw [if_pos (by omega), Int.toNat_natCast, if_pos ⟨h1, h2⟩, if_neg h3]
theorem rdi_d {l : List UInt8} {k : Nat} (h1 : k < l.length) (h2 : (l.getD k 0).toNat ≤ 1) (h3 : (rdn l (k + 1 : Nat) 32).2.2 = 0) (h4 : (sB l k && isz (rdn l (k + 1 : Nat) 32).1) = true) : rdi l k = (false, 0, 0, 3) := by
  unfold rdi; rw [if_pos (by omega), Int.toNat_natCast, if_pos ⟨h1, h2⟩, if_pos h3, if_pos h4]
theorem rdi_e {l : List UInt8} {k : Nat} (h1 : k < l.length) (h2 : (l.getD k 0).toNat ≤ 1) (h3 : (rdn l (k + 1 : Nat) 32).2.2 = 0) (h4 : (sB l k && isz (rdn l (k + 1 : Nat) 32).1) = false) : rdi l k = (sB l k, (rdn l (k + 1 : Nat) 32).1, (rdn l (k + 1 : Nat) 32).2.1, 0) := by
  unfold rdi; rw [if_pos (by omega), Int.toNat_natCast, if_pos ⟨h1, h2⟩, if_pos h3, if_neg (by rw [h4]; exact Bool.false_ne_true)]
theorem eq_n {a b : Nat} (h : a = b) : decide ((a : Int) = (b : Int)) = true := by subst h; exact decide_eq_true rfl
theorem ne_n {a b : Nat} (h : a < b) : decide ((a : Int) = (b : Int)) = false := by apply decide_eq_false; omega
theorem gt_1 {a : Nat} (h : 1 < a) : decide ((a : Int) > 1) = true := by apply decide_eq_true; omega
theorem le_1 {a : Nat} (h : a ≤ 1) : decide ((a : Int) > 1) = false := by apply decide_eq_false; omega
theorem code_t {a : Nat} (h : a ≠ 0) : ((a : Int) != 0) = true := bne_t (by omega)
theorem code_f {a : Nat} (h : a = 0) : ((a : Int) != 0) = false := bne_f (by omega)
theorem gt_n {a b : Nat} (h : b < a) : decide ((a : Int) > (b : Int)) = true := by apply decide_eq_true; omega
theorem le_n {a b : Nat} (h : a ≤ b) : decide ((a : Int) > (b : Int)) = false := by apply decide_eq_false; omega
theorem lt_0 (k : Nat) : decide ((k : Int) < 0) = false := by apply decide_eq_false; omega
theorem not_neg {z : Int} (h : ¬ z < 0) : decide (z < 0) = false := decide_eq_false h
theorem and_nt {a b : Bool} (h : (a && b) = true) : (!(!a || !b)) = true := by cases a <;> cases b <;> first | rfl | cases h
theorem and_nf {a b : Bool} (h : (a && b) = false) : (!(!a || !b)) = false := by cases a <;> cases b <;> first | rfl | cases h

theorem ri_code {l : List UInt8} {k : Nat} (h : k < l.length) (h1 : (l.getD k 0).toNat ≤ 1) (h2 : (rdn l (k + 1 : Nat) 32).2.2 ≠ 0) : Value.tuple #[.agg #[.bool false, .int .u64 0, .int .u64 0, .int .u64 0, .int .u64 0], .int .i64 0, .int .i64 ((rdn l (k + 1 : Nat) 32).2.2 : Int)] = rdIV (rdi l k) := by
  rcases rdn_code (l := l) (k := k + 1) (m := 32) h with h3 | h3
  · exact absurd h3 h2
  · rw [h3, rdi_c h h1 h2]; exact rdi_z 3

end Go.Proofs.YtgbfolkpgmjaeaaDoor

