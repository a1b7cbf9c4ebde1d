/- The walks of the laws Uint256Saturating and Uint256Boundaries over this translation: they return true for all arguments where the package's variable holds the largest number; memory that was there is as it was. -/
import Derived.Test.YthhbijcddbncdaaDoorSah
import Derived.Test.YthhbijcddbncdaaDoorEdge
import Derived.Test.YthhbijcddbncdaaDoorAwake1
namespace Go.Proofs.YthhbijcddbncdaaDoor
open Go.RowKit

theorem saturating_law (a b : Nat) (ha : a < B256) (hb : b < B256) (w : World) (hL : Lg w) :
    Calls Tryd.prog 4 #[U a, U b] w fun e w' => e = .returned (.bool true) ∧ Below w.heap.size w w' := by
  have HL := Lib.hid ((hL.alloc (.cells (arr a) 24)).alloc (.cells (arr b) 24))
  clear hL
  go_enter Tryd.func4, Tryd.ntmps4
  go_wp2_with fail
  refine (sag_any a b ha hb _ HL.out).mono ?_
  rintro e w1 ⟨rfl, h1⟩
  have b1 : Below w.heap.size w w1 := chain (by go_grown) h1
  go_wp2_with fail
  refine (awake_any _).mono ?_
  rintro e w2 ⟨rfl, h2⟩
  have b2 := chain b1 h2
  go_wp2
  go_ret
  exact ⟨rfl, b2⟩

set_option maxRecDepth 100000 in
set_option maxHeartbeats 4000000 in
theorem boundaries_law (a b c d s t : Int) (w : World) (ha : 0 ≤ a) (ha' : a < 18446744073709551616) (hb : 0 ≤ b) (hb' : b < 18446744073709551616) (hc : 0 ≤ c) (hc' : c < 18446744073709551616) (hd : 0 ≤ d) (hd' : d < 18446744073709551616) (hL : Lg w) :
    Calls Tryd.prog 3 #[.int .u64 a, .int .u64 b, .int .u64 c, .int .u64 d, .int .i64 s, .int .i64 t] w fun e w' => e = .returned (.bool true) ∧ Below w.heap.size w w' := by
  have HL := Lib.hid hL
  have C1 := Lib.hid (fun w => edge_any a b s w ha ha' hb hb')
  have C2 := Lib.hid (fun w => edge_any c d t w hc hc' hd hd')
  clear hL ha ha' hb hb' hc hc' hd hd'
  go_enter Tryd.func3, Tryd.ntmps3
  go_wp2_with fail
  refine (C1.out _).mono ?_
  rintro e v1 ⟨x, hx, rfl, k1⟩
  go_wp2_with fail
  refine (C2.out _).mono ?_
  rintro e v2 ⟨y, hy, rfl, k2⟩
  have c0 := chain k1 k2
  have g0 := Lib.hid (((HL.out.below k1).below k2).alloc (.cells (arr x) 24) |>.alloc (.cells (arr y) 24))
  have b0 := (c0.alloc c0.size (.cells (arr x) 24)).alloc (by have := c0.size; simp; omega) (.cells (arr y) 24)
  have rA0 : Res v2.heap.size 24 (arr x) ((v2.alloc (.cells (arr x) 24)).alloc (.cells (arr y) 24)) := (Res.new v2 24 (arr x)).alloc _
  have rB0 : Res (v2.heap.size + 1) 24 (arr y) ((v2.alloc (.cells (arr x) 24)).alloc (.cells (arr y) 24)) := by
    have h := Res.new (v2.alloc (.cells (arr x) 24)) 24 (arr y)
    rw [World.size_alloc] at h
    exact h
  have E1 := eqSame (addR x y) (addR_lt x y)
  have E2 := eqSame (subR x y) (subR_lt y hx)
  have E3 := eqSame (mulR x y) (mulR_lt x y)
  go_wp2_with fail
  refine (add_any x y hx hy _).mono ?_
  rintro e w1 ⟨rfl, h1⟩
  have rA1 := rA0.keep h1
  have rB1 := rB0.keep h1
  have b1 := chain b0 h1
  have g1 := Lib.hid (g0.out.below h1)
  have zA := rA1.cells
  have lA := rA1.lt
  have zB := rB1.cells
  have lB := rB1.lt
  go_wp2_with fail
  refine (radd256 x y hx hy _).mono ?_
  rintro e w2 ⟨rfl, h2⟩
  clear zA lA zB lB
  have rA2 := (rA1.alloc _).keep h2
  have rB2 := (rB1.alloc _).keep h2
  have rX12 := (Res.new _ _ _).keep h2
  have b2 := chain (b1.alloc b1.size _) h2
  have g2 := Lib.hid ((g1.out.alloc _).below h2)
  have zA := rA2.cells
  have lA := rA2.lt
  have zB := rB2.cells
  have lB := rB2.lt
  have zX1 := rX12.cells
  have lX1 := rX12.lt
  go_wp2_with fail
  refine (sub_any x y hx hy _).mono ?_
  rintro e w3 ⟨rfl, h3⟩
  clear zA lA zB lB zX1 lX1
  have rA3 := (rA2.alloc _).keep h3
  have rB3 := (rB2.alloc _).keep h3
  have rX13 := (rX12.alloc _).keep h3
  have rX23 := (Res.new _ _ _).keep h3
  have b3 := chain (b2.alloc b2.size _) h3
  have g3 := Lib.hid ((g2.out.alloc _).below h3)
  have zA := rA3.cells
  have lA := rA3.lt
  have zB := rB3.cells
  have lB := rB3.lt
  have zX1 := rX13.cells
  have lX1 := rX13.lt
  have zX2 := rX23.cells
  have lX2 := rX23.lt
  go_wp2_with fail
  refine (rsub256_any x y hx hy _).mono ?_
  rintro e w4 ⟨rfl, h4⟩
  clear zA lA zB lB zX1 lX1 zX2 lX2
  have rA4 := (rA3.alloc _).keep h4
  have rB4 := (rB3.alloc _).keep h4
  have rX14 := (rX13.alloc _).keep h4
  have rX24 := (rX23.alloc _).keep h4
  have rX34 := (Res.new _ _ _).keep h4
  have b4 := chain (b3.alloc b3.size _) h4
  have g4 := Lib.hid ((g3.out.alloc _).below h4)
  have zA := rA4.cells
  have lA := rA4.lt
  have zB := rB4.cells
  have lB := rB4.lt
  have zX1 := rX14.cells
  have lX1 := rX14.lt
  have zX2 := rX24.cells
  have lX2 := rX24.lt
  have zX3 := rX34.cells
  have lX3 := rX34.lt
  go_wp2_with fail
  refine (mul_any x y hx hy _).mono ?_
  rintro e w5 ⟨rfl, h5⟩
  clear zA lA zB lB zX1 lX1 zX2 lX2 zX3 lX3
  have rA5 := (rA4.alloc _).keep h5
  have rB5 := (rB4.alloc _).keep h5
  have rX15 := (rX14.alloc _).keep h5
  have rX25 := (rX24.alloc _).keep h5
  have rX35 := (rX34.alloc _).keep h5
  have rX45 := (Res.new _ _ _).keep h5
  have b5 := chain (b4.alloc b4.size _) h5
  have g5 := Lib.hid ((g4.out.alloc _).below h5)
  have zA := rA5.cells
  have lA := rA5.lt
  have zB := rB5.cells
  have lB := rB5.lt
  have zX1 := rX15.cells
  have lX1 := rX15.lt
  have zX2 := rX25.cells
  have lX2 := rX25.lt
  have zX3 := rX35.cells
  have lX3 := rX35.lt
  have zX4 := rX45.cells
  have lX4 := rX45.lt
  go_wp2_with fail
  refine (rmul256 x y hx hy _).mono ?_
  rintro e w6 ⟨rfl, h6⟩
  clear zA lA zB lB zX1 lX1 zX2 lX2 zX3 lX3 zX4 lX4
  have rA6 := (rA5.alloc _).keep h6
  have rB6 := (rB5.alloc _).keep h6
  have rX16 := (rX15.alloc _).keep h6
  have rX26 := (rX25.alloc _).keep h6
  have rX36 := (rX35.alloc _).keep h6
  have rX46 := (rX45.alloc _).keep h6
  have rX56 := (Res.new _ _ _).keep h6
  have b6 := chain (b5.alloc b5.size _) h6
  have g6 := Lib.hid ((g5.out.alloc _).below h6)
  have zA := rA6.cells
  have lA := rA6.lt
  have zB := rB6.cells
  have lB := rB6.lt
  have zX1 := rX16.cells
  have lX1 := rX16.lt
  have zX2 := rX26.cells
  have lX2 := rX26.lt
  have zX3 := rX36.cells
  have lX3 := rX36.lt
  have zX4 := rX46.cells
  have lX4 := rX46.lt
  have zX5 := rX56.cells
  have lX5 := rX56.lt
  go_wp2_with fail
  refine (sag_any x y hx hy _ (g6.out.alloc _)).mono ?_
  rintro e w7 ⟨rfl, h7⟩
  have b7 := chain (b6.alloc b6.size _) h7
  clear zA lA zB lB zX1 lX1 zX2 lX2 zX3 lX3 zX4 lX4 zX5 lX5
  go_wp2_with fail
  refine (awake_any _).mono ?_
  rintro e w8 ⟨rfl, h8⟩
  have b8 := chain b7 h8
  go_wp2
  go_ret
  exact ⟨rfl, b8⟩

end Go.Proofs.YthhbijcddbncdaaDoor
