/- What the tied condition gives the walks: the package's variable holds the largest number. No conditions besides. -/
import Derived.Test.YtkibbcomfjhgpaaDoorSxl
import Derived.Test.YtkibbcomfjhgpaaDoorOpen
import Derived.Test.YtkibbcomfjhgpaaDoorTie
import Derived.Test.YtkibbcomfjhgpaaDoorCards
import Derived.LaidMore
import Derived.OpenShut
import Derived.Stop.Joined
import Derived.SevenTiedAt
namespace Go.Proofs.YtkibbcomfjhgpaaDoor
open Go.ChangeShapes Go.WideShapes Go.ChangeAt Go.RowKit

/-- The variable's name. -/
def lgName : String := "pontage/uint256.largest"
theorem gLargest : Tryd.prog.globalNamed lgName = some 0 := by kernel_rfl
theorem tLargest : (Tryd.prog.globals[0]?).map (·.type) = some 31 := by kernel_rfl
set_option maxRecDepth 100000 in
theorem lg_of_laid {W : World} (h : laidMetH Tryd.prog [(lgName, Rows.laid_pontage_uint256_largest)] W) : Lg W := by
  rw [MakeChecks.laidMetH_plain _ _ _ (by kernel_rfl)] at h
  obtain ⟨ps, ⟨g0, t0, cs0, f0, p0, q0, hg0, ht0, hv0, hd0, _⟩, _, _⟩ := h
  obtain rfl := Option.some.inj (gLargest.symm.trans hg0)
  obtain rfl := Option.some.inj (tLargest.symm.trans ht0)
  obtain ⟨xs, _, _, _, hlen, _, _⟩ := DataW.trod_array Tryd.underlying31 hd0
  rw [Tryd.cellsNum] at hlen
  obtain ⟨l⟩ := cs0
  obtain ⟨c0, c1, c2, c3, rfl⟩ := list4 l hlen
  obtain ⟨y0, y1, y2, y3, n, hx, hy0, hy1, hy2, hy3⟩ := trod_array4 Tryd.underlying31 Tryd.cellsWord hd0
  obtain ⟨x0, e0, rfl, _⟩ := DataW.trod_int Tryd.underlying28 hy0
  obtain ⟨x1, e1, rfl, _⟩ := DataW.trod_int Tryd.underlying28 hy1
  obtain ⟨x2, e2, rfl, _⟩ := DataW.trod_int Tryd.underlying28 hy2
  obtain ⟨x3, e3, rfl, _⟩ := DataW.trod_int Tryd.underlying28 hy3
  simp at e0 e1 e2 e3
  subst e0 e1 e2 e3
  simp [Rows.laid_pontage_uint256_largest] at hx
  obtain ⟨⟨rfl, rfl, rfl, rfl⟩, _⟩ := hx
  intro k
  rw [World.var?_cell hg0 hv0 k]
  obtain ⟨z0, z1, z2, z3⟩ := limb_of (n := M256) (x0 := 18446744073709551615) (x1 := 18446744073709551615) (x2 := 18446744073709551615) (x3 := 18446744073709551615) (by omega) (by omega) (by omega) (by omega) (by omega) (by omega) (by omega) (by omega) (by unfold M256; omega)
  rw [arr, ← z0, ← z1, ← z2, ← z3]

end Go.Proofs.YtkibbcomfjhgpaaDoor

