/- Package wire over this translation: what its functions give. No conditions. -/
import Derived.Test.YteepoeljihbpjaaSxb
import Derived.Test.YteepoeljihbpjaaSxg
namespace Go.Proofs.Yteepoeljihbpjaa
open Go.RowKit Sx
set_option maxRecDepth 100000

theorem isoff_y {z : Int} {n : Nat} (h : 0 ≤ z) : Value.bool (decide (z ≤ (n : Int))) = .bool (decide (0 ≤ z) && decide (z ≤ (n : Int))) := by rw [decide_eq_true h, Bool.true_and]
theorem isoff_n {z : Int} {n : Nat} (h : ¬ 0 ≤ z) : Value.bool false = .bool (decide (0 ≤ z) && decide (z ≤ (n : Int))) := by rw [decide_eq_false h, Bool.false_and]
theorem ld_u8 (b : UInt8) (A : Facts) {ρ : Operand → Value} {x : Operand} {dst : Option Tmp} {type : TypeId} {pos : String} {after : Array Edge} {guard : Option (Nat × Bool)} (hx : ρ x = .int .u8 (b.toNat : Int) := by rfl) :
    ∀ w, Sx.Holds w A → (execOp ρ ⟨dst, .convert 5 3 x, type, pos, after, guard⟩).run Try.prog w = .ok (.value (.int .i64 (b.toNat : Int))) w := by
  intro w _
  have hb : b.toNat < 256 := b.toNat_lt
  have hw : IntKind.i64.wrap (b.toNat : Int) = (b.toNat : Int) := by rw [IntKind.wrap_i64] <;> omega
  have e : execOp ρ ⟨dst, .convert 5 3 x, type, pos, after, guard⟩ = (do let v ← convert 5 3 (ρ x); pure (.value v)) := rfl
  rw [e, hx]
  simp [convert, run_underlying Try.underlying5, run_underlying Try.underlying3, Conv.intToInt, hw]
theorem eq_z {n : Nat} (h : n = 0) : decide ((n : Int) = 0) = true := by subst h; rfl
theorem ne_z {n : Nat} (h : 0 < n) : decide ((n : Int) = 0) = false := by apply decide_eq_false; omega
theorem gt_f {a b : Int} (h : a ≤ b) : decide (a > b) = false := by apply decide_eq_false; omega
theorem gt_c {a c : Nat} (h : a - 1 < c) : decide ((c : Int) > (((a : Int).toNat - (1 : Int).toNat : Nat) : Int)) = true := by apply decide_eq_true; omega
theorem Byt.cut1 (y : Byt) (h : 0 < y.n) : (0 : Int) ≤ 1 ∧ (1 : Int) ≤ (y.n : Int) ∧ (y.n : Int) ≤ (y.cap : Int) := by have := y.hc; omega
theorem gt_d {a c : Nat} (h : c ≤ a - 1) : decide ((c : Int) > (((a : Int).toNat - (1 : Int).toNat : Nat) : Int)) = false := by apply decide_eq_false; omega
theorem gt_0 {c : Nat} (h : 0 < c) : decide ((c : Int) > 0) = true := by apply decide_eq_true; omega
theorem le_0 {c : Nat} (h : c = 0) : decide ((c : Int) > 0) = false := by apply decide_eq_false; omega
/-- All but the first byte. -/
def Byt.tail (y : Byt) (h : 0 < y.n) : Byt := y.sub 1 y.n h (Nat.le_refl _)
/-- The c bytes behind the first. -/
def Byt.sig (y : Byt) (h : 0 < y.n) (c : Nat) (hc : c ≤ y.n - 1) : Byt := (y.tail h).sub 0 c (Nat.zero_le _) hc
theorem Byt.tail_1 (y : Byt) (h : 0 < y.n) {c : Nat} (hc : c ≤ y.n - 1) (h3 : 0 < c) : (0 : Int) < ((y.tail h).n : Int) := by
  show (0 : Int) < ((y.n - 1 : Nat) : Int)
  omega
theorem Byt.load1 (y : Byt) (h : 0 < y.n) {c : Nat} (hc : c ≤ y.n - 1) (h3 : 0 < c) {A : Facts} (hA : Sub y.L A) : ∀ w, Sx.Holds w A → (loadVar 5 (((y.tail h).o.getD ⟨0, 0, none⟩).add ((0 : Int).toNat * 1))).run Try.prog w = .ok (.int .u8 ((y.l.getD 1 0).toNat : Int)) w := by
  have := (y.tail h).load (j := 0) 0 rfl (show 0 < y.n - 1 by omega) (A := A) hA
  have e : (y.tail h).l.getD 0 0 = y.l.getD 1 0 := by
    show ((y.l.drop 1).take (y.n - 1)).getD 0 0 = _
    simp [List.getD, List.getElem?_take]
    rw [if_pos (by omega)]
  rwa [e] at this
theorem Byt.cutc (y : Byt) (h : 0 < y.n) {c : Nat} (hc : c ≤ y.n - 1) : (0 : Int) ≤ 0 ∧ (0 : Int) ≤ (c : Int) ∧ (c : Int) ≤ ((y.cap - (1 : Int).toNat : Nat) : Int) := by have := y.hc; omega
theorem eqb_fin (l m : List UInt8) : Value.bool ((strOf l).toList == (strOf m).toList) = .bool (decide (l = m)) := by
  rw [seq_eq]
end Go.Proofs.Yteepoeljihbpjaa

