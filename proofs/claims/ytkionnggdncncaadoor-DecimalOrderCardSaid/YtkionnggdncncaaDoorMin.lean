/- Contracts of uint256.SaturatingSub and uint256.Min over this translation: the difference or zero; the least of the numbers. Memory that was there is as it was. -/
import Derived.Test.YtkionnggdncncaaDoorUc
namespace Go.Proofs.YtkionnggdncncaaDoor
open Go.RowKit

/-! ### Min -/
/-- The least of a and the numbers of l. -/
def minL (a : Nat) (l : List Nat) : Nat := l.foldl (fun m x => if x < m then x else m) a
theorem minL_snoc (a : Nat) (l : List Nat) (x : Nat) : minL a (l ++ [x]) = if x < minL a l then x else minL a l := by
  unfold minL; rw [List.foldl_append]; rfl

theorem Res.put4 {g : Nat} {t : TypeId} {c0 c1 c2 c3 : Value} {w : World} (h : Res g t #[c0, c1, c2, c3] w) (x0 x1 x2 x3 : Value) :
    Res g t #[x0, x1, x2, x3] ((((w.setCell ⟨g, 0, none⟩ x0).setCell ⟨g, 1, none⟩ x1).setCell ⟨g, 2, none⟩ x2).setCell ⟨g, 3, none⟩ x3) := by
  have e : ∀ (w : World) (c : Array Value) (i : Nat) (x : Value), Res g t c w → Res g t (c.setIfInBounds i x) (w.setCell ⟨g, i, none⟩ x) := fun w c i x h => by
    unfold Res at h ⊢
    simp [World.setCell, Array.getElem?_modify, h]
  exact e _ _ 3 x3 (e _ _ 2 x2 (e _ _ 1 x1 (e _ _ 0 x0 h)))
theorem Res.far4 {g g' : Nat} {t : TypeId} {c : Array Value} {w : World} (h : Res g t c w) (x0 x1 x2 x3 : Value) (hg : g ≠ g') :
    Res g t c ((((w.setCell ⟨g', 0, none⟩ x0).setCell ⟨g', 1, none⟩ x1).setCell ⟨g', 2, none⟩ x2).setCell ⟨g', 3, none⟩ x3) := by
  unfold Res at h ⊢
  rw [Below.heap_setCell _ _ _ _ hg, Below.heap_setCell _ _ _ _ hg, Below.heap_setCell _ _ _ _ hg, Below.heap_setCell _ _ _ _ hg]
  exact h

/-- A slice of numbers. -/
def Us (w : World) (v : Value) (l : List Nat) : Prop :=
  ∃ (A : Option Addr) (cap : Nat), v = .slice A l.length cap ∧ l.length ≤ 4294967296 ∧ (∀ x ∈ l, x < B256) ∧
    (0 < l.length → ∃ b o, A = some ⟨b, o, none⟩ ∧ b < w.heap.size ∧ ∀ i j, i < l.length → j < 4 → w.cell? ⟨b, o + i * 4 + j, none⟩ = some (.int .u64 (limb (l.getD i 0) j)))

end Go.Proofs.YtkionnggdncncaaDoor

