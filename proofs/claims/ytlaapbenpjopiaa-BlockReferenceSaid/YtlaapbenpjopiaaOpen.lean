/- How an argument of type api.Uint256 is read as data: it is a number below 2^256. No conditions. -/
import Derived.Test.YtlaapbenpjopiaaRows
import Derived.Test.YtlaapbenpjopiaaMu
import Derived.ProofKit
import Derived.Laws.IdiomArrays
namespace Go.Proofs.Ytlaapbenpjopiaa
open Go.ChangeShapes Go.WideShapes Go.ChangeAt Go.RowKit

theorem Try.own : ownKnob Try.prog.godebug = none := by kernel_rfl
theorem Try.laidOut : laidOutB Try.prog = true := by kernel_rfl
theorem Try.cellsWord : Try.prog.cellsOf 22 = 1 := by kernel_rfl
theorem Try.cellsNum : Try.prog.cellsOf 24 = 4 := by kernel_rfl
theorem list4 {α : Type} (l : List α) (h : (⟨l⟩ : Array α).size = 4) : ∃ a b c d, l = [a, b, c, d] := by
  match l, h with
  | [a, b, c, d], _ => exact ⟨a, b, c, d, rfl⟩
theorem word_of_wf {x : Int} (h : (Lit.int .u64 x).wf = true) : 0 ≤ x ∧ x < 18446744073709551616 := by
  simp [Lit.wf, IntKind.min, IntKind.max, IntKind.signed, IntKind.bits] at h
  exact ⟨by omega, by omega⟩
theorem wf_of_word {x : Int} (h0 : 0 ≤ x) (h1 : x < 18446744073709551616) : (Lit.int .u64 x).wf = true := by
  simp [Lit.wf, IntKind.min, IntKind.max, IntKind.signed, IntKind.bits]
  omega

section
variable {H : Type} {enc : TypeId × Value → H} {W : World}
/-- The datum of a number. -/
abbrev dU (n : Nat) : DataW H := .agg [.lit (.int .u64 (limb n 0)), .lit (.int .u64 (limb n 1)), .lit (.int .u64 (limb n 2)), .lit (.int .u64 (limb n 3))]
set_option maxRecDepth 100000 in
theorem open_U {r : Reach} {base b0 : Nat} {sp : Nat → Bool} {held : Bool} {v : Value} {d : DataW H} {p : List MemPlace} (hv : Value.okWide Try.prog W r base 24 v) (h : DataW.Trod enc Try.prog W b0 sp held 24 v d p) :
    ∃ n, n < B256 ∧ v = U n ∧ d = dU n ∧ p = [] := by
  obtain ⟨cs, rfl, hsz, _⟩ : ∃ cs, v = .agg cs ∧ cs.size = Try.prog.cellsOf 24 ∧ Row.okWide Try.prog W r base 24 cs := by
    simpa [Value.okWide, Try.underlying24] using hv
  rw [Try.cellsNum] at hsz
  obtain ⟨l⟩ := cs
  obtain ⟨c0, c1, c2, c3, rfl⟩ := list4 l hsz
  obtain ⟨fuel, hf⟩ := h
  obtain ⟨y0, y1, y2, y3, m, hx, hy0, hy1, hy2, hy3⟩ := trod_array4 Try.underlying24 Try.cellsWord hf
  obtain ⟨x0, e0, rfl, w0⟩ := DataW.trod_int Try.underlying22 hy0
  obtain ⟨x1, e1, rfl, w1⟩ := DataW.trod_int Try.underlying22 hy1
  obtain ⟨x2, e2, rfl, w2⟩ := DataW.trod_int Try.underlying22 hy2
  obtain ⟨x3, e3, rfl, w3⟩ := DataW.trod_int Try.underlying22 hy3
  simp at e0 e1 e2 e3
  subst e0 e1 e2 e3
  simp only [Prod.mk.injEq] at hx
  obtain ⟨rfl, rfl⟩ := hx
  obtain ⟨n, hn, z0, z1, z2, z3⟩ := exists_limbs (word_of_wf w0).1 (word_of_wf w0).2 (word_of_wf w1).1 (word_of_wf w1).2 (word_of_wf w2).1 (word_of_wf w2).2 (word_of_wf w3).1 (word_of_wf w3).2
  subst z0 z1 z2 z3
  exact ⟨n, hn, rfl, rfl, rfl⟩
set_option maxRecDepth 100000 in
theorem shut_U (n b0 : Nat) (sp : Nat → Bool) (held : Bool) : DataW.Trod enc Try.prog W b0 sp held 24 (U n) (dU n) [] := by
  have w0 := wf_of_word (limb_nonneg n 0) (limb_lt n 0)
  have w1 := wf_of_word (limb_nonneg n 1) (limb_lt n 1)
  have w2 := wf_of_word (limb_nonneg n 2) (limb_lt n 2)
  have w3 := wf_of_word (limb_nonneg n 3) (limb_lt n 3)
  exact ⟨2, by simp [DataW.trod, Value.cells, Try.underlying24, Try.underlying22, Try.cellsNum, Try.cellsWord, w0, w1, w2, w3, show List.range 4 = [0, 1, 2, 3] from rfl]⟩
end

end Go.Proofs.Ytlaapbenpjopiaa

