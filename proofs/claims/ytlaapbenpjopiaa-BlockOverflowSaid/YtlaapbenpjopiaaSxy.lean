/- Slices of bytes that came in: what they hold, how they are read. No Go function in this text; no conditions. -/
import Derived.Test.YtlaapbenpjopiaaSxo
import Derived.Test.YtlaapbenpjopiaaMx
import Derived.Deep.Slices
namespace Go.Proofs.Ytlaapbenpjopiaa
open Go.ChangeShapes Go.WideShapes Go.ChangeAt Go.RowKit Sx

/-- A slice of bytes: where it lies, what it holds, and the memory that shows it. -/
structure BytX where
  a : Addr
  cap : Nat
  l : List UInt8
  L : Facts
  h : ∀ w, Sx.Holds w L → ∀ i, i < l.length → w.cell? (a.add i) = some (.int .u8 ((l.getD i 0).toNat : Int))
abbrev BytX.v (y : BytX) : Value := .slice (some y.a) y.l.length y.cap
theorem BytX.load (y : BytX) (i : Nat) (hi : i < y.l.length) {A : Facts} (hA : Sub y.L A) : ∀ w, Sx.Holds w A → (loadVar 5 (y.a.add ((i : Int).toNat * 1))).run Try.prog w = .ok (.int .u8 ((y.l.getD i 0).toNat : Int)) w := by
  intro w hw
  have hc := y.h w (hA.holds hw) i hi
  simp only [Int.toNat_natCast, Nat.mul_one]
  simp only [loadVar, Sem.run_bind, Try.isAgg5, Result.andThen_ok, Bool.false_eq_true, if_false, run_load, hc]
theorem add_block (a : Addr) (i : Nat) : (a.add i).block = a.block := by unfold Addr.add; split <;> rfl
section
variable {H : Type} {enc : TypeId × Value → H} {W : World} {base : Nat} {sp : Nat → Bool} {held : Bool}
theorem byte_of_wf {x : Int} (h : (Lit.int .u8 x).wf = true) : 0 ≤ x ∧ x < 256 := by
  simp only [Lit.wf, IntKind.min, IntKind.max, IntKind.bits, IntKind.signed] at h
  simp at h
  omega
end
end Go.Proofs.Ytlaapbenpjopiaa

