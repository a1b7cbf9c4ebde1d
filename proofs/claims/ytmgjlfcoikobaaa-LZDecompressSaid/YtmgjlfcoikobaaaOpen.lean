/- How an argument of type api.Uint256 is read as data: it is a number below 2^256. No conditions. -/
import Derived.Test.YtmgjlfcoikobaaaRows
import Derived.Test.YtmgjlfcoikobaaaMu
import Derived.ProofKit
import Derived.Laws.IdiomArrays
namespace Go.Proofs.Ytmgjlfcoikobaaa
open Go.ChangeShapes Go.WideShapes Go.ChangeAt Go.RowKit

theorem Try.own : ownKnob Try.prog.godebug = none := by kernel_rfl
theorem Try.laidOut : laidOutB Try.prog = true := by kernel_rfl
theorem list4 {α : Type} (l : List α) (h : (⟨l⟩ : Array α).size = 4) : ∃ a b c d, l = [a, b, c, d] := by
  match l, h with
  | [a, b, c, d], _ => exact ⟨a, b, c, d, rfl⟩
theorem word_of_wf {x : Int} (h : (Lit.int .u64 x).wf = true) : 0 ≤ x ∧ x < 18446744073709551616 := by
  simp [Lit.wf, IntKind.min, IntKind.max, IntKind.signed, IntKind.bits] at h
  exact ⟨by omega, by omega⟩
theorem wf_of_word {x : Int} (h0 : 0 ≤ x) (h1 : x < 18446744073709551616) : (Lit.int .u64 x).wf = true := by
  simp [Lit.wf, IntKind.min, IntKind.max, IntKind.signed, IntKind.bits]
  omega

section
variable {H : Type} {enc : TypeId × Value → H} {W : World}
/-- The datum of a number. -/
abbrev dU (n : Nat) : DataW H := .agg [.lit (.int .u64 (limb n 0)), .lit (.int .u64 (limb n 1)), .lit (.int .u64 (limb n 2)), .lit (.int .u64 (limb n 3))]
end

end Go.Proofs.Ytmgjlfcoikobaaa

