/- What the tied condition gives the walks: the library's table of powers of ten holds the powers of ten. No conditions besides. -/
import Derived.Test.YtkionnggdncncaaDoorMx
import Derived.Test.YtkionnggdncncaaDoorFmt
import Derived.Test.YtkionnggdncncaaDoorOpen
import Derived.Test.YtkionnggdncncaaDoorTie
import Derived.Test.YtkionnggdncncaaDoorCards
import Derived.LaidMore
import Derived.OpenShut
import Derived.Stop.Joined
import Derived.SevenTiedAt
namespace Go.Proofs.YtkionnggdncncaaDoor
open Go.ChangeShapes Go.WideShapes Go.ChangeAt Go.RowKit Sx

def powName : String := "internal/strconv.uint64pow10"
theorem gPow : Tryd.prog.globalNamed powName = some 0 := by kernel_rfl
theorem tPow : (Tryd.prog.globals[0]?).map (·.type) = some 115 := by kernel_rfl
theorem tab_of_laid {l : List (String × DataW Unit)} {W : World} (h : laidMetH Tryd.prog l W) (e : l.filter (fun x => x.1 == powName) = [(powName, Lib.tabData .u64 Lib.pow10Tab)]) : Tab W := by
  have h2 := laidMetH.filter (fun x => x.1 == powName) h
  rw [e, MakeChecks.laidMetH_plain _ _ _ (by kernel_rfl)] at h2
  exact Lib.tabIs_of_head gPow tPow Tryd.underlying115 Tryd.underlying22 (by kernel_rfl) (by kernel_rfl) h2
/-- A fact for the table, out of a world in which it is as it was laid. -/
theorem tabF_of {w : World} (h : Tab w) : ∃ A, EnvF Tab A ∧ Sx.Holds w A := by
  have h0 := h
  unfold Tab Lib.TabIs World.var? at h0
  rw [show Tryd.prog.globalNamed "internal/strconv.uint64pow10" = some 0 from gPow] at h0
  simp only [Option.bind_some] at h0
  have hlt : 0 < w.heap.size := by
    rcases Nat.lt_or_ge 0 w.heap.size with h' | h'
    · exact h'
    · rw [Array.getElem?_eq_none h'] at h0; simp at h0
  refine ⟨[(0, w.heap[0])], fun w' hw' => ?_, fun q hq => ?_⟩
  · have e : w'.heap[0]? = w.heap[0]? := by rw [hw' _ (List.mem_singleton.2 rfl)]; simp [hlt]
    unfold Tab Lib.TabIs World.var?
    rw [show Tryd.prog.globalNamed "internal/strconv.uint64pow10" = some 0 from gPow]
    simp only [Option.bind_some]
    rw [e]
    exact h0
  · simp only [List.mem_singleton] at hq; subst hq; simp [hlt]
end Go.Proofs.YtkionnggdncncaaDoor

