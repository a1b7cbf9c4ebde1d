/- Contracts that hold where the package's variable for the largest number holds the largest number. -/
import Derived.Test.YtkibbcomfjhgpaaDoorMx
import Derived.Test.YtkibbcomfjhgpaaDoorSat
namespace Go.Proofs.YtkibbcomfjhgpaaDoor
set_option maxRecDepth 100000
open Go.RowKit Sx

/-- Memory in which the variable holds the largest number. -/
abbrev LgF (A : Facts) : Prop := EnvF Lg A
theorem LgF.app {A : Facts} (h : LgF A) (L : Facts) : LgF (A ++ L) := fun w hw => h w fun q hq => hw q (List.mem_append.2 (.inl hq))
/-- The call gives this value where the variable holds the largest number. -/
abbrev DetL (f : FuncId) (args : List Value) (v : Value) : Prop := DetE Lg f args v
theorem Det.L {f : FuncId} {args : List Value} {v : Value} (h : Det Tryd.prog f args v) : DetL f args v := fun A _ => h A
theorem dl_satadd (a b : Nat) (ha : a < B256) (hb : b < B256) : DetL 55 [U a, U b] (U (satA a b)) := fun A hA =>
  gives_none ⟨_, Tryd.func55, by kernel_rfl, rfl⟩ fun w hw => satadd_any a b ha hb w (hA w hw)
/-- A fact for the variable, out of a world in which it holds the largest number. -/
theorem lgF_of {w : World} (h : Lg w) : ∃ A, LgF A ∧ Holds w A := by
  have hlt := h.lt
  refine ⟨[(0, w.heap[0])], fun w' hw' k => ?_, fun q hq => ?_⟩
  · rw [cell_same (w := w) (by rw [hw' _ (List.mem_singleton.2 rfl)]; simp [hlt])]; exact h k
  · simp only [List.mem_singleton] at hq; subst hq; simp [hlt]
/-- A law's call, out of its contract. -/
theorem law3 {f : FuncId} {args : List Value} {v : Value} (hE : Enters Tryd.prog f) {w : World} (hL : Lg w) (h : DetL f args v) : Calls Tryd.prog f args.toArray w fun e w' => e = .returned v ∧ Below w.heap.size w w' := by
  obtain ⟨A, h1, h2⟩ := lgF_of hL
  exact (h A h1).calls hE w h2
end Go.Proofs.YtkibbcomfjhgpaaDoor

