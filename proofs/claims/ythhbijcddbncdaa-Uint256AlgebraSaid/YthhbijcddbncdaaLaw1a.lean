/- The walks of the laws Uint256AddSub and Uint256Mul over this translation: for all numbers they return true, and memory that was there is as it was. -/
import Derived.Test.YthhbijcddbncdaaRefh
import Derived.Test.YthhbijcddbncdaaUm
import Derived.Test.YthhbijcddbncdaaAwake1
namespace Go.Proofs.Ythhbijcddbncdaa
open Go.RowKit

theorem eqSame (r : Nat) (hr : r < B256) (w : World) : (Op.equalIn 10000 24 (U r) (U r)).run Try.prog w = .ok true w := (eqU_run r r hr hr w).trans (by simp)

set_option maxHeartbeats 2000000 in
theorem addsub_law (a b : Nat) (ha : a < B256) (hb : b < B256) (w : World) :
    Calls Try.prog 3 #[U a, U b] w fun e w' => e = .returned (.bool true) ∧ Below w.heap.size w w' := by
  have E1 := eqSame (addR a b) (addR_lt a b)
  have E2 := eqSame (subR a b) (subR_lt b ha)
  have rA0 : Res w.heap.size 24 (arr a) ((w.alloc (.cells (arr a) 24)).alloc (.cells (arr b) 24)) := (Res.new w 24 (arr a)).alloc _
  have rB0 : Res (w.heap.size + 1) 24 (arr b) ((w.alloc (.cells (arr a) 24)).alloc (.cells (arr b) 24)) := by
    have h := Res.new (w.alloc (.cells (arr a) 24)) 24 (arr b)
    rw [World.size_alloc] at h
    exact h
  have b0 : Below w.heap.size w ((w.alloc (.cells (arr a) 24)).alloc (.cells (arr b) 24)) := by go_grown
  go_enter Try.func3, Try.ntmps3
  go_wp2_with fail
  refine (add_any a b ha hb _).mono ?_
  rintro e w1 ⟨rfl, h1⟩
  have rA1 := rA0.keep h1
  have rB1 := rB0.keep h1
  have b1 := chain b0 h1
  have zA1 := rA1.cells
  have lA1 := rA1.lt
  have zB1 := rB1.cells
  have lB1 := rB1.lt
  go_wp2_with fail
  refine (radd256 a b ha hb _).mono ?_
  rintro e w2 ⟨rfl, h2⟩
  clear zA1 lA1 zB1 lB1
  have rA2 := (rA1.alloc _).keep h2
  have rB2 := (rB1.alloc _).keep h2
  have rX12 := (Res.new _ _ _).keep h2
  have b2 := chain (b1.alloc b1.size _) h2
  have zA2 := rA2.cells
  have lA2 := rA2.lt
  have zB2 := rB2.cells
  have lB2 := rB2.lt
  have zX12 := rX12.cells
  have lX12 := rX12.lt
  go_wp2_with fail
  refine (sub_any a b ha hb _).mono ?_
  rintro e w3 ⟨rfl, h3⟩
  clear zA2 lA2 zB2 lB2 zX12 lX12
  have rA3 := (rA2.alloc _).keep h3
  have rB3 := (rB2.alloc _).keep h3
  have rX13 := (rX12.alloc _).keep h3
  have rX23 := (Res.new _ _ _).keep h3
  have b3 := chain (b2.alloc b2.size _) h3
  have zA3 := rA3.cells
  have lA3 := rA3.lt
  have zB3 := rB3.cells
  have lB3 := rB3.lt
  have zX13 := rX13.cells
  have lX13 := rX13.lt
  have zX23 := rX23.cells
  have lX23 := rX23.lt
  go_wp2_with fail
  refine (rsub256_any a b ha hb _).mono ?_
  rintro e w4 ⟨rfl, h4⟩
  clear zA3 lA3 zB3 lB3 zX13 lX13 zX23 lX23
  have rA4 := (rA3.alloc _).keep h4
  have rB4 := (rB3.alloc _).keep h4
  have rX14 := (rX13.alloc _).keep h4
  have rX24 := (rX23.alloc _).keep h4
  have rX34 := (Res.new _ _ _).keep h4
  have b4 := chain (b3.alloc b3.size _) h4
  have zA4 := rA4.cells
  have lA4 := rA4.lt
  have zB4 := rB4.cells
  have lB4 := rB4.lt
  have zX14 := rX14.cells
  have lX14 := rX14.lt
  have zX24 := rX24.cells
  have lX24 := rX24.lt
  have zX34 := rX34.cells
  have lX34 := rX34.lt
  go_wp2_with fail
  refine (awake_any _).mono ?_
  rintro e wz ⟨rfl, hz⟩
  have bz := chain (b4.alloc b4.size _) hz
  clear zA4 lA4 zB4 lB4 zX14 lX14 zX24 lX24 zX34 lX34
  go_wp2
  go_ret
  exact ⟨rfl, bz⟩

set_option maxHeartbeats 2000000 in
theorem mul_law (a b : Nat) (ha : a < B256) (hb : b < B256) (w : World) :
    Calls Try.prog 4 #[U a, U b] w fun e w' => e = .returned (.bool true) ∧ Below w.heap.size w w' := by
  have E1 := eqSame (mulR a b) (mulR_lt a b)
  have rA0 : Res w.heap.size 24 (arr a) ((w.alloc (.cells (arr a) 24)).alloc (.cells (arr b) 24)) := (Res.new w 24 (arr a)).alloc _
  have rB0 : Res (w.heap.size + 1) 24 (arr b) ((w.alloc (.cells (arr a) 24)).alloc (.cells (arr b) 24)) := by
    have h := Res.new (w.alloc (.cells (arr a) 24)) 24 (arr b)
    rw [World.size_alloc] at h
    exact h
  have b0 : Below w.heap.size w ((w.alloc (.cells (arr a) 24)).alloc (.cells (arr b) 24)) := by go_grown
  go_enter Try.func4, Try.ntmps4
  go_wp2_with fail
  refine (mul_any a b ha hb _).mono ?_
  rintro e w1 ⟨rfl, h1⟩
  have rA1 := rA0.keep h1
  have rB1 := rB0.keep h1
  have b1 := chain b0 h1
  have zA1 := rA1.cells
  have lA1 := rA1.lt
  have zB1 := rB1.cells
  have lB1 := rB1.lt
  go_wp2_with fail
  refine (rmul256 a b ha hb _).mono ?_
  rintro e w2 ⟨rfl, h2⟩
  clear zA1 lA1 zB1 lB1
  have rA2 := (rA1.alloc _).keep h2
  have rB2 := (rB1.alloc _).keep h2
  have rX12 := (Res.new _ _ _).keep h2
  have b2 := chain (b1.alloc b1.size _) h2
  have zA2 := rA2.cells
  have lA2 := rA2.lt
  have zB2 := rB2.cells
  have lB2 := rB2.lt
  have zX12 := rX12.cells
  have lX12 := rX12.lt
  go_wp2_with fail
  refine (awake_any _).mono ?_
  rintro e wz ⟨rfl, hz⟩
  have bz := chain (b2.alloc b2.size _) hz
  clear zA2 lA2 zB2 lB2 zX12 lX12
  go_wp2
  go_ret
  exact ⟨rfl, bz⟩

end Go.Proofs.Ythhbijcddbncdaa
