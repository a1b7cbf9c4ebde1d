/- Words of 64 bits, more of them: shifts, and, or, quotients, remainders as operations, their values as natural numbers. No conditions. -/
import Derived.Test.YtlaapbenpjopiaaSxw
import Derived.Laws.Bits64b
namespace Go.Proofs.Ytlaapbenpjopiaa
open Go.RowKit Sx
set_option maxRecDepth 100000

section
variable {ρ : Operand → Value} {dst : Option Tmp} {type : TypeId} {pos : String} {after : Array Edge} {guard : Option (Nat × Bool)}
theorem wu_shl {a b c : Int} {t : TypeId} (h0 : 0 ≤ b) (h : IntKind.u64.wrap (a * 2 ^ (min b.toNat 64)) = c) (A : Facts) {x y : Operand} (hx : ρ x = .int .u64 a := by rfl) (hy : ρ y = .int .u64 b := by rfl) :
    ∀ w, Sx.Holds w A → (execOp ρ ⟨dst, .binOp .shl 22 x y t, type, pos, after, guard⟩).run Try.prog w = .ok (.value (.int .u64 c)) w := by
  intro w _
  have e : execOp ρ ⟨dst, .binOp .shl 22 x y t, type, pos, after, guard⟩ = (do let v ← binOp .shl 22 (ρ x) (ρ y); pure (.value v)) := rfl
  have e2 : binOp .shl 22 (.int .u64 a) (.int .u64 b) = Op.shift .shl .u64 a .u64 b := rfl
  rw [e, hx, hy, e2, Op.shift, if_neg (by omega), ← h]
  rfl
theorem wu_shr {a b c : Int} {t : TypeId} (h0 : 0 ≤ b) (h : a.fdiv (2 ^ (min b.toNat 64)) = c) (A : Facts) {x y : Operand} (hx : ρ x = .int .u64 a := by rfl) (hy : ρ y = .int .u64 b := by rfl) :
    ∀ w, Sx.Holds w A → (execOp ρ ⟨dst, .binOp .shr 22 x y t, type, pos, after, guard⟩).run Try.prog w = .ok (.value (.int .u64 c)) w := by
  intro w _
  have e : execOp ρ ⟨dst, .binOp .shr 22 x y t, type, pos, after, guard⟩ = (do let v ← binOp .shr 22 (ρ x) (ρ y); pure (.value v)) := rfl
  have e2 : binOp .shr 22 (.int .u64 a) (.int .u64 b) = Op.shift .shr .u64 a .u64 b := rfl
  rw [e, hx, hy, e2, Op.shift, if_neg (by omega), ← h]
  rfl
theorem wu_and {a b c : Int} (h : bits .and .u64 a b = c) (A : Facts) {x y : Operand} (hx : ρ x = .int .u64 a := by rfl) (hy : ρ y = .int .u64 b := by rfl) :
    ∀ w, Sx.Holds w A → (execOp ρ ⟨dst, .binOp .and 22 x y 22, type, pos, after, guard⟩).run Try.prog w = .ok (.value (.int .u64 c)) w := by
  intro w _
  have e : execOp ρ ⟨dst, .binOp .and 22 x y 22, type, pos, after, guard⟩ = (do let v ← binOp .and 22 (ρ x) (ρ y); pure (.value v)) := rfl
  rw [e, hx, hy, ← h]
  rfl
theorem wu_or {a b c : Int} (h : bits .or .u64 a b = c) (A : Facts) {x y : Operand} (hx : ρ x = .int .u64 a := by rfl) (hy : ρ y = .int .u64 b := by rfl) :
    ∀ w, Sx.Holds w A → (execOp ρ ⟨dst, .binOp .or 22 x y 22, type, pos, after, guard⟩).run Try.prog w = .ok (.value (.int .u64 c)) w := by
  intro w _
  have e : execOp ρ ⟨dst, .binOp .or 22 x y 22, type, pos, after, guard⟩ = (do let v ← binOp .or 22 (ρ x) (ρ y); pure (.value v)) := rfl
  rw [e, hx, hy, ← h]
  rfl
theorem wu_quo {a b c : Int} (h0 : b ≠ 0) (h : IntKind.u64.wrap (a.tdiv b) = c) (A : Facts) {x y : Operand} (hx : ρ x = .int .u64 a := by rfl) (hy : ρ y = .int .u64 b := by rfl) :
    ∀ w, Sx.Holds w A → (execOp ρ ⟨dst, .binOp .quo 22 x y 22, type, pos, after, guard⟩).run Try.prog w = .ok (.value (.int .u64 c)) w := by
  intro w _
  have e : execOp ρ ⟨dst, .binOp .quo 22 x y 22, type, pos, after, guard⟩ = (do let v ← binOp .quo 22 (ρ x) (ρ y); pure (.value v)) := rfl
  have e2 : binOp .quo 22 (.int .u64 a) (.int .u64 b) = Op.intDiv .quo .u64 a b := rfl
  rw [e, hx, hy, e2, Op.intDiv, if_neg h0, ← h]
  rfl
theorem wu_rem {a b c : Int} (h0 : b ≠ 0) (h : a.tmod b = c) (A : Facts) {x y : Operand} (hx : ρ x = .int .u64 a := by rfl) (hy : ρ y = .int .u64 b := by rfl) :
    ∀ w, Sx.Holds w A → (execOp ρ ⟨dst, .binOp .rem 22 x y 22, type, pos, after, guard⟩).run Try.prog w = .ok (.value (.int .u64 c)) w := by
  intro w _
  have e : execOp ρ ⟨dst, .binOp .rem 22 x y 22, type, pos, after, guard⟩ = (do let v ← binOp .rem 22 (ρ x) (ρ y); pure (.value v)) := rfl
  have e2 : binOp .rem 22 (.int .u64 a) (.int .u64 b) = Op.intDiv .rem .u64 a b := rfl
  rw [e, hx, hy, e2, Op.intDiv, if_neg h0, ← h]
  rfl
theorem wu_conv {n : Nat} (h : n < 18446744073709551616) (A : Facts) {x : Operand} (hx : ρ x = .int .i64 (n : Int) := by rfl) :
    ∀ w, Sx.Holds w A → (execOp ρ ⟨dst, .convert 3 68 x, type, pos, after, guard⟩).run Try.prog w = .ok (.value (.int .u64 (n : Int))) w := by
  intro w _
  have hw := u64_wrap_nat h
  have e : execOp ρ ⟨dst, .convert 3 68 x, type, pos, after, guard⟩ = (do let v ← convert 3 68 (ρ x); pure (.value v)) := rfl
  rw [e, hx]
  simp [convert, run_underlying Try.underlying3, run_underlying Try.underlying68, Conv.intToInt, hw]
theorem wu_conv64 {n : Nat} (h : n < 18446744073709551616) (A : Facts) {x : Operand} (hx : ρ x = .int .i64 (n : Int) := by rfl) :
    ∀ w, Sx.Holds w A → (execOp ρ ⟨dst, .convert 3 22 x, type, pos, after, guard⟩).run Try.prog w = .ok (.value (.int .u64 (n : Int))) w := by
  intro w _
  have hw := u64_wrap_nat h
  have e : execOp ρ ⟨dst, .convert 3 22 x, type, pos, after, guard⟩ = (do let v ← convert 3 22 (ρ x); pure (.value v)) := rfl
  rw [e, hx]
  simp [convert, run_underlying Try.underlying3, run_underlying Try.underlying22, Conv.intToInt, hw]
theorem wu_subU {a b c : Int} (h : IntKind.u64.wrap (a - b) = c) (A : Facts) {x y : Operand} (hx : ρ x = .int .u64 a := by rfl) (hy : ρ y = .int .u64 b := by rfl) :
    ∀ w, Sx.Holds w A → (execOp ρ ⟨dst, .binOp .sub 68 x y 68, type, pos, after, guard⟩).run Try.prog w = .ok (.value (.int .u64 c)) w := by
  intro w _
  have e : execOp ρ ⟨dst, .binOp .sub 68 x y 68, type, pos, after, guard⟩ = (do let v ← binOp .sub 68 (ρ x) (ρ y); pure (.value v)) := rfl
  rw [e, hx, hy, ← h]
  rfl
theorem wu_min (a b : Nat) (A : Facts) {x y : Operand} (hx : ρ x = .int .u64 (a : Int) := by rfl) (hy : ρ y = .int .u64 (b : Int) := by rfl) :
    ∀ w, Sx.Holds w A → (execOp ρ ⟨dst, .call ⟨.builtin .min, #[x, y], #[22, 22]⟩, type, pos, after, guard⟩).run Try.prog w = .ok (.value (.int .u64 ((min a b : Nat) : Int))) w := by
  intro w _
  simp only [execOp, resolve, invoke, builtin]
  simp [Builtin.min_, Builtin.min2, hx, hy]
  split <;> omega
end
theorem min_bits {s : Nat} (h : s ≤ 64) : min ((s : Nat) : Int).toNat 64 = s := by rw [Int.toNat_natCast, Nat.min_eq_left h]
theorem wn_shl {a s c : Nat} (hs : s ≤ 64) (h : a * 2 ^ s % 18446744073709551616 = c) : IntKind.u64.wrap ((a : Int) * 2 ^ (min ((s : Nat) : Int).toNat 64)) = (c : Int) := by
  rw [min_bits hs, show (a : Int) * 2 ^ s = ((a * 2 ^ s : Nat) : Int) by simp, ← h]
  simp [IntKind.wrap, IntKind.bits, IntKind.signed]
theorem wn_shr {a s c : Nat} (hs : s ≤ 64) (h : a / 2 ^ s = c) : (a : Int).fdiv (2 ^ (min ((s : Nat) : Int).toNat 64)) = (c : Int) := by
  rw [min_bits hs, show ((2 : Int) ^ s) = ((2 ^ s : Nat) : Int) by simp, Int.fdiv_eq_ediv_of_nonneg _ (Int.natCast_nonneg _), ← h]
  rfl
theorem wn_quo {a b c : Nat} (ha : a < 18446744073709551616) (h : a / b = c) : IntKind.u64.wrap ((a : Int).tdiv (b : Int)) = (c : Int) := by
  rw [show (a : Int).tdiv (b : Int) = ((a / b : Nat) : Int) from rfl, u64_wrap_nat (Nat.lt_of_le_of_lt (Nat.div_le_self _ _) ha), h]
theorem wn_rem {a b c : Nat} (h : a % b = c) : (a : Int).tmod (b : Int) = (c : Int) := by
  rw [show (a : Int).tmod (b : Int) = ((a % b : Nat) : Int) from rfl, h]
theorem wn_and32 {x b : Nat} (hx : x < 18446744073709551616) (h : x % 4294967296 = b) : bits .and .u64 (x : Int) 4294967295 = (b : Int) := by
  have e := bits_and_u64_nat x 4294967295 hx (by decide)
  have e2 : x &&& 4294967295 = x % 4294967296 := Nat.and_two_pow_sub_one_eq_mod x 32
  rw [e2, h] at e
  exact e
theorem wn_or {x y c : Nat} (hx : x < 18446744073709551616) (hy : y < 18446744073709551616) (h : x ||| y = c) : bits .or .u64 (x : Int) (y : Int) = (c : Int) := by
  rw [bits_or_u64_nat x y hx hy, h]
theorem nz_cast {n : Nat} (h : 0 < n) : (n : Int) ≠ 0 := by omega
theorem ge_cast (n : Nat) : (0 : Int) ≤ ((n : Nat) : Int) := Int.natCast_nonneg n
theorem w_len64 (n : Nat) (h : n < 18446744073709551616) : Det Try.prog 66 [.int .u64 (n : Int)] (.int .i64 ((blen n : Nat) : Int)) :=
  .of_calls ⟨_, Try.func66, by kernel_rfl, rfl⟩ fun w => (len64_any (n : Int) (by omega) (by omega) w).mono fun e w' ⟨h1, h2⟩ => by subst h2; exact ⟨by rw [h1, Int.toNat_natCast], .refl _ _⟩
end Go.Proofs.Ytlaapbenpjopiaa

