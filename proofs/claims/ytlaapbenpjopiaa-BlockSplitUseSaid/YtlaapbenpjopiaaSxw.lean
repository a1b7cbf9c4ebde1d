/- Words of 64 bits in this translation: sums, differences and products as operations, the sum with its carry, the product in two words, a number of 256 bits as a word if it fits. No conditions. -/
import Derived.Test.YtlaapbenpjopiaaSxg
import Derived.Test.YtlaapbenpjopiaaRefi
namespace Go.Proofs.Ytlaapbenpjopiaa
open Go.RowKit Sx
set_option maxRecDepth 100000

section
variable {ρ : Operand → Value} {dst : Option Tmp} {type : TypeId} {pos : String} {after : Array Edge} {guard : Option (Nat × Bool)}
theorem wu_add {a b c : Int} (h : IntKind.u64.wrap (a + b) = c) (A : Facts) {x y : Operand} (hx : ρ x = .int .u64 a := by rfl) (hy : ρ y = .int .u64 b := by rfl) :
    ∀ w, Sx.Holds w A → (execOp ρ ⟨dst, .binOp .add 22 x y 22, type, pos, after, guard⟩).run Try.prog w = .ok (.value (.int .u64 c)) w := by
  intro w _
  have e : execOp ρ ⟨dst, .binOp .add 22 x y 22, type, pos, after, guard⟩ = (do let v ← binOp .add 22 (ρ x) (ρ y); pure (.value v)) := rfl
  rw [e, hx, hy, ← h]
  rfl
theorem wu_sub {a b c : Int} (h : IntKind.u64.wrap (a - b) = c) (A : Facts) {x y : Operand} (hx : ρ x = .int .u64 a := by rfl) (hy : ρ y = .int .u64 b := by rfl) :
    ∀ w, Sx.Holds w A → (execOp ρ ⟨dst, .binOp .sub 22 x y 22, type, pos, after, guard⟩).run Try.prog w = .ok (.value (.int .u64 c)) w := by
  intro w _
  have e : execOp ρ ⟨dst, .binOp .sub 22 x y 22, type, pos, after, guard⟩ = (do let v ← binOp .sub 22 (ρ x) (ρ y); pure (.value v)) := rfl
  rw [e, hx, hy, ← h]
  rfl
theorem wu_mul {a b c : Int} (h : IntKind.u64.wrap (a * b) = c) (A : Facts) {x y : Operand} (hx : ρ x = .int .u64 a := by rfl) (hy : ρ y = .int .u64 b := by rfl) :
    ∀ w, Sx.Holds w A → (execOp ρ ⟨dst, .binOp .mul 22 x y 22, type, pos, after, guard⟩).run Try.prog w = .ok (.value (.int .u64 c)) w := by
  intro w _
  have e : execOp ρ ⟨dst, .binOp .mul 22 x y 22, type, pos, after, guard⟩ = (do let v ← binOp .mul 22 (ρ x) (ρ y); pure (.value v)) := rfl
  rw [e, hx, hy, ← h]
  rfl
end
theorem wn_add {a b : Nat} (h : a + b < 18446744073709551616) : IntKind.u64.wrap ((a : Int) + (b : Int)) = ((a + b : Nat) : Int) := by
  rw [show ((a : Int) + (b : Int)) = ((a + b : Nat) : Int) from (Int.natCast_add a b).symm, u64_wrap_nat h]
theorem wn_sub {a b : Nat} (h : b ≤ a) (ha : a < 18446744073709551616) : IntKind.u64.wrap ((a : Int) - (b : Int)) = ((a - b : Nat) : Int) := by
  rw [show ((a : Int) - (b : Int)) = ((a - b : Nat) : Int) by omega, u64_wrap_nat (by omega)]
theorem wn_mul {a b : Nat} (h : a * b < 18446744073709551616) : IntKind.u64.wrap ((a : Int) * (b : Int)) = ((a * b : Nat) : Int) := by
  rw [show ((a : Int) * (b : Int)) = ((a * b : Nat) : Int) from (Int.natCast_mul a b).symm, u64_wrap_nat h]
/-- The number if it fits 64 bits, else 0. -/
def lowN (n : Nat) : Nat := if n < 18446744073709551616 then n else 0
theorem w_rtou (a : Nat) (ha : a < B256) : Det Try.prog 63 [U a] (.tuple #[.int .u64 ((lowN a : Nat) : Int), .bool (decide (a < 18446744073709551616))]) := by
  by_cases h : a < 18446744073709551616
  · rw [lowN, if_pos h, decide_eq_true h]
    exact .of_calls ⟨_, Try.func63, by kernel_rfl, rfl⟩ fun w => ruint64_yes a ha h w
  · rw [lowN, if_neg h, decide_eq_false h]
    exact .of_calls ⟨_, Try.func63, by kernel_rfl, rfl⟩ fun w => ruint64_no a ha h w
theorem w_dtou (a : Nat) (ha : a < B256) : Det Try.prog 70 [U a] (.tuple #[.int .u64 ((lowN a : Nat) : Int), .bool (decide (a < 18446744073709551616))]) := by
  by_cases h : a < 18446744073709551616
  · rw [lowN, if_pos h, decide_eq_true h]
    exact .of_calls ⟨_, Try.func70, by kernel_rfl, rfl⟩ fun w => uint64_yes a ha h w
  · rw [lowN, if_neg h, decide_eq_false h]
    exact .of_calls ⟨_, Try.func70, by kernel_rfl, rfl⟩ fun w => uint64_no a ha h w
/-- A call of an entry of the model. -/
theorem det_of_run {P : Program} {f : FuncId} {args : List Value} {v : Value} (h : ∀ w, (callFunc f args.toArray).run P w = .ok (.value v) w) : Det P f args v := by
  intro A w _
  unfold CallRun
  rw [h w]
  exact ⟨(), rfl, fun _ h => (by cases h), fun _ h => (by cases h), .refl _ _⟩
theorem w_add64 (a b : Nat) (ha : a < 18446744073709551616) (hb : b < 18446744073709551616) : Det Try.prog 17 [.int .u64 (a : Int), .int .u64 (b : Int), .int .u64 0] (.tuple #[.int .u64 (((a + b) % 18446744073709551616 : Nat) : Int), .int .u64 (((a + b) / 18446744073709551616 : Nat) : Int)]) :=
  det_of_run fun w => add64_run (x := (a : Int)) (y := (b : Int)) (c := 0) (s := (((a + b) % 18446744073709551616 : Nat) : Int)) (d := (((a + b) / 18446744073709551616 : Nat) : Int)) (by omega) (by omega) (by omega) (by omega) (by omega) (by omega) (by omega) w
theorem w_mul64 (x y : Nat) (hx : x < 18446744073709551616) (hy : y < 18446744073709551616) : Det Try.prog 52 [.int .u64 (x : Int), .int .u64 (y : Int)] (.tuple #[.int .u64 ((x * y / 18446744073709551616 : Nat) : Int), .int .u64 ((x * y % 18446744073709551616 : Nat) : Int)]) :=
  .of_calls ⟨_, Try.func52, by kernel_rfl, rfl⟩ fun w => (mul64_any x y hx hy w).mono fun _ _ h => ⟨h.1, h.2 ▸ Below.refl _ _⟩
end Go.Proofs.Ytlaapbenpjopiaa

