/- The walk of the law Uint256Algebra over this translation: for all numbers it returns true, and memory that was there is as it was. -/
import Derived.Test.YthhbijcddbncdaaLaw1a
namespace Go.Proofs.Ythhbijcddbncdaa
open Go.RowKit

set_option maxHeartbeats 4000000 in
theorem alg_xg (a b c p : Nat) (w : World) (hp : p < B256)
    (cAdd : Hid (∀ w, Calls Try.prog 13 #[U a, U b] w fun e w' => e = .returned (.tuple #[(.agg #[.int .u64 0, .int .u64 0, .int .u64 0, .int .u64 0]), .int .i64 4]) ∧ Below w.heap.size w w'))
    (cAdd' : Hid (∀ w, Calls Try.prog 13 #[U b, U a] w fun e w' => e = .returned (.tuple #[(.agg #[.int .u64 0, .int .u64 0, .int .u64 0, .int .u64 0]), .int .i64 4]) ∧ Below w.heap.size w w'))
    (cMul : Hid (∀ w, Calls Try.prog 18 #[U a, U b] w fun e w' => e = .returned (.tuple #[(U p), .int .i64 0]) ∧ Below w.heap.size w w'))
    (cMul' : Hid (∀ w, Calls Try.prog 18 #[U b, U a] w fun e w' => e = .returned (.tuple #[(U p), .int .i64 0]) ∧ Below w.heap.size w w')) :
    Calls Try.prog 6 #[U a, U b, U c] w fun e w' => e = .returned (.bool true) ∧ Below w.heap.size w w' := by
  have EZ : ∀ w, (Op.equalIn 10000 24 (.agg #[.int .u64 0, .int .u64 0, .int .u64 0, .int .u64 0]) (.agg #[.int .u64 0, .int .u64 0, .int .u64 0, .int .u64 0])).run Try.prog w = .ok true w := fun w => eq4_run 0 0 0 0 0 0 0 0 w
  have EP := eqSame p hp
  have rA0 : Res w.heap.size 24 (arr a) (((w.alloc (.cells (arr a) 24)).alloc (.cells (arr b) 24)).alloc (.cells (arr c) 24)) := ((Res.new w 24 (arr a)).alloc _).alloc _
  have rB0 : Res (w.heap.size + 1) 24 (arr b) (((w.alloc (.cells (arr a) 24)).alloc (.cells (arr b) 24)).alloc (.cells (arr c) 24)) := by
    have h := (Res.new (w.alloc (.cells (arr a) 24)) 24 (arr b)).alloc (.cells (arr c) 24)
    rw [World.size_alloc] at h
    exact h
  have rC0 : Res (w.heap.size + 1 + 1) 24 (arr c) (((w.alloc (.cells (arr a) 24)).alloc (.cells (arr b) 24)).alloc (.cells (arr c) 24)) := by
    have h := Res.new ((w.alloc (.cells (arr a) 24)).alloc (.cells (arr b) 24)) 24 (arr c)
    rw [World.size_alloc, World.size_alloc] at h
    exact h
  have b0 : Below w.heap.size w (((w.alloc (.cells (arr a) 24)).alloc (.cells (arr b) 24)).alloc (.cells (arr c) 24)) := by go_grown
  go_enter Try.func6, Try.ntmps6
  go_wp2_with fail
  refine (cAdd.out _).mono ?_
  rintro e w1 ⟨rfl, h1⟩
  have rA1 := rA0.keep h1
  have rB1 := rB0.keep h1
  have rC1 := rC0.keep h1
  have b1 := chain b0 h1
  have zA := rA1.cells
  have lA := rA1.lt
  have zB := rB1.cells
  have lB := rB1.lt
  have zC := rC1.cells
  have lC := rC1.lt
  go_wp2_with fail
  refine (cAdd'.out _).mono ?_
  rintro e w2 ⟨rfl, h2⟩
  clear zA lA zB lB zC lC
  have rA2 := (rA1.alloc _).keep h2
  have rB2 := (rB1.alloc _).keep h2
  have rC2 := (rC1.alloc _).keep h2
  have rX12 := (Res.new _ _ _).keep h2
  have b2 := chain (b1.alloc b1.size _) h2
  have zA := rA2.cells
  have lA := rA2.lt
  have zB := rB2.cells
  have lB := rB2.lt
  have zC := rC2.cells
  have lC := rC2.lt
  have zX1 := rX12.cells
  have lX1 := rX12.lt
  go_wp2_with fail
  refine (cMul.out _).mono ?_
  rintro e w3 ⟨rfl, h3⟩
  clear zA lA zB lB zC lC zX1 lX1
  have rA3 := (rA2.alloc _).keep h3
  have rB3 := (rB2.alloc _).keep h3
  have rC3 := (rC2.alloc _).keep h3
  have rX13 := (rX12.alloc _).keep h3
  have rX23 := (Res.new _ _ _).keep h3
  have b3 := chain (b2.alloc b2.size _) h3
  have zA := rA3.cells
  have lA := rA3.lt
  have zB := rB3.cells
  have lB := rB3.lt
  have zC := rC3.cells
  have lC := rC3.lt
  have zX1 := rX13.cells
  have lX1 := rX13.lt
  have zX2 := rX23.cells
  have lX2 := rX23.lt
  go_wp2_with fail
  refine (cMul'.out _).mono ?_
  rintro e w4 ⟨rfl, h4⟩
  clear zA lA zB lB zC lC zX1 lX1 zX2 lX2
  have rA4 := (rA3.alloc _).keep h4
  have rB4 := (rB3.alloc _).keep h4
  have rC4 := (rC3.alloc _).keep h4
  have rX14 := (rX13.alloc _).keep h4
  have rX24 := (rX23.alloc _).keep h4
  have rX34 := (Res.new _ _ _).keep h4
  have b4 := chain (b3.alloc b3.size _) h4
  have zA := rA4.cells
  have lA := rA4.lt
  have zB := rB4.cells
  have lB := rB4.lt
  have zC := rC4.cells
  have lC := rC4.lt
  have zX1 := rX14.cells
  have lX1 := rX14.lt
  have zX2 := rX24.cells
  have lX2 := rX24.lt
  have zX3 := rX34.cells
  have lX3 := rX34.lt
  go_wp2_with fail
  refine (awake_any _).mono ?_
  rintro e wz ⟨rfl, hz⟩
  clear zA lA zB lB zC lC zX1 lX1 zX2 lX2 zX3 lX3
  have bz := chain (b4.alloc b4.size _) hz
  go_wp2
  go_ret
  exact ⟨rfl, bz⟩

set_option maxHeartbeats 4000000 in
theorem alg_xz (a b c : Nat) (w : World)
    (cAdd : Hid (∀ w, Calls Try.prog 13 #[U a, U b] w fun e w' => e = .returned (.tuple #[(.agg #[.int .u64 0, .int .u64 0, .int .u64 0, .int .u64 0]), .int .i64 4]) ∧ Below w.heap.size w w'))
    (cAdd' : Hid (∀ w, Calls Try.prog 13 #[U b, U a] w fun e w' => e = .returned (.tuple #[(.agg #[.int .u64 0, .int .u64 0, .int .u64 0, .int .u64 0]), .int .i64 4]) ∧ Below w.heap.size w w'))
    (cMul : Hid (∀ w, Calls Try.prog 18 #[U a, U b] w fun e w' => e = .returned (.tuple #[(.agg #[.int .u64 0, .int .u64 0, .int .u64 0, .int .u64 0]), .int .i64 4]) ∧ Below w.heap.size w w'))
    (cMul' : Hid (∀ w, Calls Try.prog 18 #[U b, U a] w fun e w' => e = .returned (.tuple #[(.agg #[.int .u64 0, .int .u64 0, .int .u64 0, .int .u64 0]), .int .i64 4]) ∧ Below w.heap.size w w')) :
    Calls Try.prog 6 #[U a, U b, U c] w fun e w' => e = .returned (.bool true) ∧ Below w.heap.size w w' := by
  have EZ : ∀ w, (Op.equalIn 10000 24 (.agg #[.int .u64 0, .int .u64 0, .int .u64 0, .int .u64 0]) (.agg #[.int .u64 0, .int .u64 0, .int .u64 0, .int .u64 0])).run Try.prog w = .ok true w := fun w => eq4_run 0 0 0 0 0 0 0 0 w
  have rA0 : Res w.heap.size 24 (arr a) (((w.alloc (.cells (arr a) 24)).alloc (.cells (arr b) 24)).alloc (.cells (arr c) 24)) := ((Res.new w 24 (arr a)).alloc _).alloc _
  have rB0 : Res (w.heap.size + 1) 24 (arr b) (((w.alloc (.cells (arr a) 24)).alloc (.cells (arr b) 24)).alloc (.cells (arr c) 24)) := by
    have h := (Res.new (w.alloc (.cells (arr a) 24)) 24 (arr b)).alloc (.cells (arr c) 24)
    rw [World.size_alloc] at h
    exact h
  have rC0 : Res (w.heap.size + 1 + 1) 24 (arr c) (((w.alloc (.cells (arr a) 24)).alloc (.cells (arr b) 24)).alloc (.cells (arr c) 24)) := by
    have h := Res.new ((w.alloc (.cells (arr a) 24)).alloc (.cells (arr b) 24)) 24 (arr c)
    rw [World.size_alloc, World.size_alloc] at h
    exact h
  have b0 : Below w.heap.size w (((w.alloc (.cells (arr a) 24)).alloc (.cells (arr b) 24)).alloc (.cells (arr c) 24)) := by go_grown
  go_enter Try.func6, Try.ntmps6
  go_wp2_with fail
  refine (cAdd.out _).mono ?_
  rintro e w1 ⟨rfl, h1⟩
  have rA1 := rA0.keep h1
  have rB1 := rB0.keep h1
  have rC1 := rC0.keep h1
  have b1 := chain b0 h1
  have zA := rA1.cells
  have lA := rA1.lt
  have zB := rB1.cells
  have lB := rB1.lt
  have zC := rC1.cells
  have lC := rC1.lt
  go_wp2_with fail
  refine (cAdd'.out _).mono ?_
  rintro e w2 ⟨rfl, h2⟩
  clear zA lA zB lB zC lC
  have rA2 := (rA1.alloc _).keep h2
  have rB2 := (rB1.alloc _).keep h2
  have rC2 := (rC1.alloc _).keep h2
  have rX12 := (Res.new _ _ _).keep h2
  have b2 := chain (b1.alloc b1.size _) h2
  have zA := rA2.cells
  have lA := rA2.lt
  have zB := rB2.cells
  have lB := rB2.lt
  have zC := rC2.cells
  have lC := rC2.lt
  have zX1 := rX12.cells
  have lX1 := rX12.lt
  go_wp2_with fail
  refine (cMul.out _).mono ?_
  rintro e w3 ⟨rfl, h3⟩
  clear zA lA zB lB zC lC zX1 lX1
  have rA3 := (rA2.alloc _).keep h3
  have rB3 := (rB2.alloc _).keep h3
  have rC3 := (rC2.alloc _).keep h3
  have rX13 := (rX12.alloc _).keep h3
  have rX23 := (Res.new _ _ _).keep h3
  have b3 := chain (b2.alloc b2.size _) h3
  have zA := rA3.cells
  have lA := rA3.lt
  have zB := rB3.cells
  have lB := rB3.lt
  have zC := rC3.cells
  have lC := rC3.lt
  have zX1 := rX13.cells
  have lX1 := rX13.lt
  have zX2 := rX23.cells
  have lX2 := rX23.lt
  go_wp2_with fail
  refine (cMul'.out _).mono ?_
  rintro e w4 ⟨rfl, h4⟩
  clear zA lA zB lB zC lC zX1 lX1 zX2 lX2
  have rA4 := (rA3.alloc _).keep h4
  have rB4 := (rB3.alloc _).keep h4
  have rC4 := (rC3.alloc _).keep h4
  have rX14 := (rX13.alloc _).keep h4
  have rX24 := (rX23.alloc _).keep h4
  have rX34 := (Res.new _ _ _).keep h4
  have b4 := chain (b3.alloc b3.size _) h4
  have zA := rA4.cells
  have lA := rA4.lt
  have zB := rB4.cells
  have lB := rB4.lt
  have zC := rC4.cells
  have lC := rC4.lt
  have zX1 := rX14.cells
  have lX1 := rX14.lt
  have zX2 := rX24.cells
  have lX2 := rX24.lt
  have zX3 := rX34.cells
  have lX3 := rX34.lt
  go_wp2_with fail
  refine (awake_any _).mono ?_
  rintro e wz ⟨rfl, hz⟩
  clear zA lA zB lB zC lC zX1 lX1 zX2 lX2 zX3 lX3
  have bz := chain (b4.alloc b4.size _) hz
  go_wp2
  go_ret
  exact ⟨rfl, bz⟩

set_option maxHeartbeats 4000000 in
theorem alg_eyg (a b c s p m n : Nat) (q : Int) (k o : Int) (w : World) (ha : a < B256) (hs : s < B256) (hp : p < B256) (hq : 0 ≤ q)
    (cAdd : Hid (∀ w, Calls Try.prog 13 #[U a, U b] w fun e w' => e = .returned (.tuple #[(U s), .int .i64 0]) ∧ Below w.heap.size w w'))
    (cAdd' : Hid (∀ w, Calls Try.prog 13 #[U b, U a] w fun e w' => e = .returned (.tuple #[(U s), .int .i64 0]) ∧ Below w.heap.size w w'))
    (cMul : Hid (∀ w, Calls Try.prog 18 #[U a, U b] w fun e w' => e = .returned (.tuple #[(U p), .int .i64 0]) ∧ Below w.heap.size w w'))
    (cMul' : Hid (∀ w, Calls Try.prog 18 #[U b, U a] w fun e w' => e = .returned (.tuple #[(U p), .int .i64 0]) ∧ Below w.heap.size w w'))
    (cSub : Hid (∀ w, Calls Try.prog 15 #[U s, U b] w fun e w' => e = .returned (.tuple #[U a, .int .i64 0]) ∧ Below w.heap.size w w'))
    (cCmp : Hid (∀ w, Calls Try.prog 25 #[U s, U a] w fun e w' => e = .returned (.int .i64 q) ∧ Below w.heap.size w w'))
    (cM1 : Hid (∀ w, Calls Try.prog 18 #[U s, U c] w fun e w' => e = .returned (.tuple #[(.agg #[.int .u64 0, .int .u64 0, .int .u64 0, .int .u64 0]), .int .i64 4]) ∧ Below w.heap.size w w'))
    (cM2 : Hid (∀ w, Calls Try.prog 18 #[U a, U c] w fun e w' => e = .returned (.tuple #[U m, .int .i64 k]) ∧ Below w.heap.size w w'))
    (cM3 : Hid (∀ w, Calls Try.prog 18 #[U b, U c] w fun e w' => e = .returned (.tuple #[U n, .int .i64 o]) ∧ Below w.heap.size w w')) :
    Calls Try.prog 6 #[U a, U b, U c] w fun e w' => e = .returned (.bool true) ∧ Below w.heap.size w w' := by
  have EZ : ∀ w, (Op.equalIn 10000 24 (.agg #[.int .u64 0, .int .u64 0, .int .u64 0, .int .u64 0]) (.agg #[.int .u64 0, .int .u64 0, .int .u64 0, .int .u64 0])).run Try.prog w = .ok true w := fun w => eq4_run 0 0 0 0 0 0 0 0 w
  have ES := eqSame s hs
  have EA := eqSame a ha
  have EP := eqSame p hp
  have rA0 : Res w.heap.size 24 (arr a) (((w.alloc (.cells (arr a) 24)).alloc (.cells (arr b) 24)).alloc (.cells (arr c) 24)) := ((Res.new w 24 (arr a)).alloc _).alloc _
  have rB0 : Res (w.heap.size + 1) 24 (arr b) (((w.alloc (.cells (arr a) 24)).alloc (.cells (arr b) 24)).alloc (.cells (arr c) 24)) := by
    have h := (Res.new (w.alloc (.cells (arr a) 24)) 24 (arr b)).alloc (.cells (arr c) 24)
    rw [World.size_alloc] at h
    exact h
  have rC0 : Res (w.heap.size + 1 + 1) 24 (arr c) (((w.alloc (.cells (arr a) 24)).alloc (.cells (arr b) 24)).alloc (.cells (arr c) 24)) := by
    have h := Res.new ((w.alloc (.cells (arr a) 24)).alloc (.cells (arr b) 24)) 24 (arr c)
    rw [World.size_alloc, World.size_alloc] at h
    exact h
  have b0 : Below w.heap.size w (((w.alloc (.cells (arr a) 24)).alloc (.cells (arr b) 24)).alloc (.cells (arr c) 24)) := by go_grown
  go_enter Try.func6, Try.ntmps6
  go_wp2_with fail
  refine (cAdd.out _).mono ?_
  rintro e w1 ⟨rfl, h1⟩
  have rA1 := rA0.keep h1
  have rB1 := rB0.keep h1
  have rC1 := rC0.keep h1
  have b1 := chain b0 h1
  have zA := rA1.cells
  have lA := rA1.lt
  have zB := rB1.cells
  have lB := rB1.lt
  have zC := rC1.cells
  have lC := rC1.lt
  go_wp2_with fail
  refine (cAdd'.out _).mono ?_
  rintro e w2 ⟨rfl, h2⟩
  clear zA lA zB lB zC lC
  have rA2 := (rA1.alloc _).keep h2
  have rB2 := (rB1.alloc _).keep h2
  have rC2 := (rC1.alloc _).keep h2
  have rX12 := (Res.new _ _ _).keep h2
  have b2 := chain (b1.alloc b1.size _) h2
  have zA := rA2.cells
  have lA := rA2.lt
  have zB := rB2.cells
  have lB := rB2.lt
  have zC := rC2.cells
  have lC := rC2.lt
  have zX1 := rX12.cells
  have lX1 := rX12.lt
  go_wp2_with fail
  refine (cMul.out _).mono ?_
  rintro e w3 ⟨rfl, h3⟩
  clear zA lA zB lB zC lC zX1 lX1
  have rA3 := (rA2.alloc _).keep h3
  have rB3 := (rB2.alloc _).keep h3
  have rC3 := (rC2.alloc _).keep h3
  have rX13 := (rX12.alloc _).keep h3
  have rX23 := (Res.new _ _ _).keep h3
  have b3 := chain (b2.alloc b2.size _) h3
  have zA := rA3.cells
  have lA := rA3.lt
  have zB := rB3.cells
  have lB := rB3.lt
  have zC := rC3.cells
  have lC := rC3.lt
  have zX1 := rX13.cells
  have lX1 := rX13.lt
  have zX2 := rX23.cells
  have lX2 := rX23.lt
  go_wp2_with fail
  refine (cMul'.out _).mono ?_
  rintro e w4 ⟨rfl, h4⟩
  clear zA lA zB lB zC lC zX1 lX1 zX2 lX2
  have rA4 := (rA3.alloc _).keep h4
  have rB4 := (rB3.alloc _).keep h4
  have rC4 := (rC3.alloc _).keep h4
  have rX14 := (rX13.alloc _).keep h4
  have rX24 := (rX23.alloc _).keep h4
  have rX34 := (Res.new _ _ _).keep h4
  have b4 := chain (b3.alloc b3.size _) h4
  have zA := rA4.cells
  have lA := rA4.lt
  have zB := rB4.cells
  have lB := rB4.lt
  have zC := rC4.cells
  have lC := rC4.lt
  have zX1 := rX14.cells
  have lX1 := rX14.lt
  have zX2 := rX24.cells
  have lX2 := rX24.lt
  have zX3 := rX34.cells
  have lX3 := rX34.lt
  go_wp2_with fail
  refine (cSub.out _).mono ?_
  rintro e w5 ⟨rfl, h5⟩
  clear zA lA zB lB zC lC zX1 lX1 zX2 lX2 zX3 lX3
  have rA5 := (rA4.alloc _).keep h5
  have rB5 := (rB4.alloc _).keep h5
  have rC5 := (rC4.alloc _).keep h5
  have rX15 := (rX14.alloc _).keep h5
  have rX25 := (rX24.alloc _).keep h5
  have rX35 := (rX34.alloc _).keep h5
  have rX45 := (Res.new _ _ _).keep h5
  have b5 := chain (b4.alloc b4.size _) h5
  have zA := rA5.cells
  have lA := rA5.lt
  have zB := rB5.cells
  have lB := rB5.lt
  have zC := rC5.cells
  have lC := rC5.lt
  have zX1 := rX15.cells
  have lX1 := rX15.lt
  have zX2 := rX25.cells
  have lX2 := rX25.lt
  have zX3 := rX35.cells
  have lX3 := rX35.lt
  have zX4 := rX45.cells
  have lX4 := rX45.lt
  go_wp2_with fail
  refine (cCmp.out _).mono ?_
  rintro e w6 ⟨rfl, h6⟩
  clear zA lA zB lB zC lC zX1 lX1 zX2 lX2 zX3 lX3 zX4 lX4
  have rA6 := (rA5.alloc _).keep h6
  have rB6 := (rB5.alloc _).keep h6
  have rC6 := (rC5.alloc _).keep h6
  have rX16 := (rX15.alloc _).keep h6
  have rX26 := (rX25.alloc _).keep h6
  have rX36 := (rX35.alloc _).keep h6
  have rX46 := (rX45.alloc _).keep h6
  have rX56 := (Res.new _ _ _).keep h6
  have b6 := chain (b5.alloc b5.size _) h6
  have zA := rA6.cells
  have lA := rA6.lt
  have zB := rB6.cells
  have lB := rB6.lt
  have zC := rC6.cells
  have lC := rC6.lt
  have zX1 := rX16.cells
  have lX1 := rX16.lt
  have zX2 := rX26.cells
  have lX2 := rX26.lt
  have zX3 := rX36.cells
  have lX3 := rX36.lt
  have zX4 := rX46.cells
  have lX4 := rX46.lt
  have zX5 := rX56.cells
  have lX5 := rX56.lt
  go_wp2_with fail
  refine (cM1.out _).mono ?_
  rintro e w7 ⟨rfl, h7⟩
  clear zA lA zB lB zC lC zX1 lX1 zX2 lX2 zX3 lX3 zX4 lX4 zX5 lX5
  have rA7 := rA6.keep h7
  have rB7 := rB6.keep h7
  have rC7 := rC6.keep h7
  have rX17 := rX16.keep h7
  have rX27 := rX26.keep h7
  have rX37 := rX36.keep h7
  have rX47 := rX46.keep h7
  have rX57 := rX56.keep h7
  have b7 := chain b6 h7
  have zA := rA7.cells
  have lA := rA7.lt
  have zB := rB7.cells
  have lB := rB7.lt
  have zC := rC7.cells
  have lC := rC7.lt
  have zX1 := rX17.cells
  have lX1 := rX17.lt
  have zX2 := rX27.cells
  have lX2 := rX27.lt
  have zX3 := rX37.cells
  have lX3 := rX37.lt
  have zX4 := rX47.cells
  have lX4 := rX47.lt
  have zX5 := rX57.cells
  have lX5 := rX57.lt
  go_wp2_with fail
  refine (cM2.out _).mono ?_
  rintro e w8 ⟨rfl, h8⟩
  clear zA lA zB lB zC lC zX1 lX1 zX2 lX2 zX3 lX3 zX4 lX4 zX5 lX5
  have rA8 := (rA7.alloc _).keep h8
  have rB8 := (rB7.alloc _).keep h8
  have rC8 := (rC7.alloc _).keep h8
  have rX18 := (rX17.alloc _).keep h8
  have rX28 := (rX27.alloc _).keep h8
  have rX38 := (rX37.alloc _).keep h8
  have rX48 := (rX47.alloc _).keep h8
  have rX58 := (rX57.alloc _).keep h8
  have rX78 := (Res.new _ _ _).keep h8
  have b8 := chain (b7.alloc b7.size _) h8
  have zA := rA8.cells
  have lA := rA8.lt
  have zB := rB8.cells
  have lB := rB8.lt
  have zC := rC8.cells
  have lC := rC8.lt
  have zX1 := rX18.cells
  have lX1 := rX18.lt
  have zX2 := rX28.cells
  have lX2 := rX28.lt
  have zX3 := rX38.cells
  have lX3 := rX38.lt
  have zX4 := rX48.cells
  have lX4 := rX48.lt
  have zX5 := rX58.cells
  have lX5 := rX58.lt
  have zX7 := rX78.cells
  have lX7 := rX78.lt
  go_wp2_with fail
  refine (cM3.out _).mono ?_
  rintro e w9 ⟨rfl, h9⟩
  clear zA lA zB lB zC lC zX1 lX1 zX2 lX2 zX3 lX3 zX4 lX4 zX5 lX5 zX7 lX7
  have rA9 := (rA8.alloc _).keep h9
  have rB9 := (rB8.alloc _).keep h9
  have rC9 := (rC8.alloc _).keep h9
  have rX19 := (rX18.alloc _).keep h9
  have rX29 := (rX28.alloc _).keep h9
  have rX39 := (rX38.alloc _).keep h9
  have rX49 := (rX48.alloc _).keep h9
  have rX59 := (rX58.alloc _).keep h9
  have rX79 := (rX78.alloc _).keep h9
  have rX89 := (Res.new _ _ _).keep h9
  have b9 := chain (b8.alloc b8.size _) h9
  have zA := rA9.cells
  have lA := rA9.lt
  have zB := rB9.cells
  have lB := rB9.lt
  have zC := rC9.cells
  have lC := rC9.lt
  have zX1 := rX19.cells
  have lX1 := rX19.lt
  have zX2 := rX29.cells
  have lX2 := rX29.lt
  have zX3 := rX39.cells
  have lX3 := rX39.lt
  have zX4 := rX49.cells
  have lX4 := rX49.lt
  have zX5 := rX59.cells
  have lX5 := rX59.lt
  have zX7 := rX79.cells
  have lX7 := rX79.lt
  have zX8 := rX89.cells
  have lX8 := rX89.lt
  go_wp2_with fail
  refine (awake_any _).mono ?_
  rintro e wz ⟨rfl, hz⟩
  clear zA lA zB lB zC lC zX1 lX1 zX2 lX2 zX3 lX3 zX4 lX4 zX5 lX5 zX7 lX7 zX8 lX8
  have bz := chain (b9.alloc b9.size _) hz
  go_wp2
  go_ret
  exact ⟨rfl, bz⟩

set_option maxHeartbeats 4000000 in
theorem alg_eyz (a b c s m n : Nat) (q : Int) (k o : Int) (w : World) (ha : a < B256) (hs : s < B256) (hq : 0 ≤ q)
    (cAdd : Hid (∀ w, Calls Try.prog 13 #[U a, U b] w fun e w' => e = .returned (.tuple #[(U s), .int .i64 0]) ∧ Below w.heap.size w w'))
    (cAdd' : Hid (∀ w, Calls Try.prog 13 #[U b, U a] w fun e w' => e = .returned (.tuple #[(U s), .int .i64 0]) ∧ Below w.heap.size w w'))
    (cMul : Hid (∀ w, Calls Try.prog 18 #[U a, U b] w fun e w' => e = .returned (.tuple #[(.agg #[.int .u64 0, .int .u64 0, .int .u64 0, .int .u64 0]), .int .i64 4]) ∧ Below w.heap.size w w'))
    (cMul' : Hid (∀ w, Calls Try.prog 18 #[U b, U a] w fun e w' => e = .returned (.tuple #[(.agg #[.int .u64 0, .int .u64 0, .int .u64 0, .int .u64 0]), .int .i64 4]) ∧ Below w.heap.size w w'))
    (cSub : Hid (∀ w, Calls Try.prog 15 #[U s, U b] w fun e w' => e = .returned (.tuple #[U a, .int .i64 0]) ∧ Below w.heap.size w w'))
    (cCmp : Hid (∀ w, Calls Try.prog 25 #[U s, U a] w fun e w' => e = .returned (.int .i64 q) ∧ Below w.heap.size w w'))
    (cM1 : Hid (∀ w, Calls Try.prog 18 #[U s, U c] w fun e w' => e = .returned (.tuple #[(.agg #[.int .u64 0, .int .u64 0, .int .u64 0, .int .u64 0]), .int .i64 4]) ∧ Below w.heap.size w w'))
    (cM2 : Hid (∀ w, Calls Try.prog 18 #[U a, U c] w fun e w' => e = .returned (.tuple #[U m, .int .i64 k]) ∧ Below w.heap.size w w'))
    (cM3 : Hid (∀ w, Calls Try.prog 18 #[U b, U c] w fun e w' => e = .returned (.tuple #[U n, .int .i64 o]) ∧ Below w.heap.size w w')) :
    Calls Try.prog 6 #[U a, U b, U c] w fun e w' => e = .returned (.bool true) ∧ Below w.heap.size w w' := by
  have EZ : ∀ w, (Op.equalIn 10000 24 (.agg #[.int .u64 0, .int .u64 0, .int .u64 0, .int .u64 0]) (.agg #[.int .u64 0, .int .u64 0, .int .u64 0, .int .u64 0])).run Try.prog w = .ok true w := fun w => eq4_run 0 0 0 0 0 0 0 0 w
  have ES := eqSame s hs
  have EA := eqSame a ha
  have rA0 : Res w.heap.size 24 (arr a) (((w.alloc (.cells (arr a) 24)).alloc (.cells (arr b) 24)).alloc (.cells (arr c) 24)) := ((Res.new w 24 (arr a)).alloc _).alloc _
  have rB0 : Res (w.heap.size + 1) 24 (arr b) (((w.alloc (.cells (arr a) 24)).alloc (.cells (arr b) 24)).alloc (.cells (arr c) 24)) := by
    have h := (Res.new (w.alloc (.cells (arr a) 24)) 24 (arr b)).alloc (.cells (arr c) 24)
    rw [World.size_alloc] at h
    exact h
  have rC0 : Res (w.heap.size + 1 + 1) 24 (arr c) (((w.alloc (.cells (arr a) 24)).alloc (.cells (arr b) 24)).alloc (.cells (arr c) 24)) := by
    have h := Res.new ((w.alloc (.cells (arr a) 24)).alloc (.cells (arr b) 24)) 24 (arr c)
    rw [World.size_alloc, World.size_alloc] at h
    exact h
  have b0 : Below w.heap.size w (((w.alloc (.cells (arr a) 24)).alloc (.cells (arr b) 24)).alloc (.cells (arr c) 24)) := by go_grown
  go_enter Try.func6, Try.ntmps6
  go_wp2_with fail
  refine (cAdd.out _).mono ?_
  rintro e w1 ⟨rfl, h1⟩
  have rA1 := rA0.keep h1
  have rB1 := rB0.keep h1
  have rC1 := rC0.keep h1
  have b1 := chain b0 h1
  have zA := rA1.cells
  have lA := rA1.lt
  have zB := rB1.cells
  have lB := rB1.lt
  have zC := rC1.cells
  have lC := rC1.lt
  go_wp2_with fail
  refine (cAdd'.out _).mono ?_
  rintro e w2 ⟨rfl, h2⟩
  clear zA lA zB lB zC lC
  have rA2 := (rA1.alloc _).keep h2
  have rB2 := (rB1.alloc _).keep h2
  have rC2 := (rC1.alloc _).keep h2
  have rX12 := (Res.new _ _ _).keep h2
  have b2 := chain (b1.alloc b1.size _) h2
  have zA := rA2.cells
  have lA := rA2.lt
  have zB := rB2.cells
  have lB := rB2.lt
  have zC := rC2.cells
  have lC := rC2.lt
  have zX1 := rX12.cells
  have lX1 := rX12.lt
  go_wp2_with fail
  refine (cMul.out _).mono ?_
  rintro e w3 ⟨rfl, h3⟩
  clear zA lA zB lB zC lC zX1 lX1
  have rA3 := (rA2.alloc _).keep h3
  have rB3 := (rB2.alloc _).keep h3
  have rC3 := (rC2.alloc _).keep h3
  have rX13 := (rX12.alloc _).keep h3
  have rX23 := (Res.new _ _ _).keep h3
  have b3 := chain (b2.alloc b2.size _) h3
  have zA := rA3.cells
  have lA := rA3.lt
  have zB := rB3.cells
  have lB := rB3.lt
  have zC := rC3.cells
  have lC := rC3.lt
  have zX1 := rX13.cells
  have lX1 := rX13.lt
  have zX2 := rX23.cells
  have lX2 := rX23.lt
  go_wp2_with fail
  refine (cMul'.out _).mono ?_
  rintro e w4 ⟨rfl, h4⟩
  clear zA lA zB lB zC lC zX1 lX1 zX2 lX2
  have rA4 := (rA3.alloc _).keep h4
  have rB4 := (rB3.alloc _).keep h4
  have rC4 := (rC3.alloc _).keep h4
  have rX14 := (rX13.alloc _).keep h4
  have rX24 := (rX23.alloc _).keep h4
  have rX34 := (Res.new _ _ _).keep h4
  have b4 := chain (b3.alloc b3.size _) h4
  have zA := rA4.cells
  have lA := rA4.lt
  have zB := rB4.cells
  have lB := rB4.lt
  have zC := rC4.cells
  have lC := rC4.lt
  have zX1 := rX14.cells
  have lX1 := rX14.lt
  have zX2 := rX24.cells
  have lX2 := rX24.lt
  have zX3 := rX34.cells
  have lX3 := rX34.lt
  go_wp2_with fail
  refine (cSub.out _).mono ?_
  rintro e w5 ⟨rfl, h5⟩
  clear zA lA zB lB zC lC zX1 lX1 zX2 lX2 zX3 lX3
  have rA5 := (rA4.alloc _).keep h5
  have rB5 := (rB4.alloc _).keep h5
  have rC5 := (rC4.alloc _).keep h5
  have rX15 := (rX14.alloc _).keep h5
  have rX25 := (rX24.alloc _).keep h5
  have rX35 := (rX34.alloc _).keep h5
  have rX45 := (Res.new _ _ _).keep h5
  have b5 := chain (b4.alloc b4.size _) h5
  have zA := rA5.cells
  have lA := rA5.lt
  have zB := rB5.cells
  have lB := rB5.lt
  have zC := rC5.cells
  have lC := rC5.lt
  have zX1 := rX15.cells
  have lX1 := rX15.lt
  have zX2 := rX25.cells
  have lX2 := rX25.lt
  have zX3 := rX35.cells
  have lX3 := rX35.lt
  have zX4 := rX45.cells
  have lX4 := rX45.lt
  go_wp2_with fail
  refine (cCmp.out _).mono ?_
  rintro e w6 ⟨rfl, h6⟩
  clear zA lA zB lB zC lC zX1 lX1 zX2 lX2 zX3 lX3 zX4 lX4
  have rA6 := (rA5.alloc _).keep h6
  have rB6 := (rB5.alloc _).keep h6
  have rC6 := (rC5.alloc _).keep h6
  have rX16 := (rX15.alloc _).keep h6
  have rX26 := (rX25.alloc _).keep h6
  have rX36 := (rX35.alloc _).keep h6
  have rX46 := (rX45.alloc _).keep h6
  have rX56 := (Res.new _ _ _).keep h6
  have b6 := chain (b5.alloc b5.size _) h6
  have zA := rA6.cells
  have lA := rA6.lt
  have zB := rB6.cells
  have lB := rB6.lt
  have zC := rC6.cells
  have lC := rC6.lt
  have zX1 := rX16.cells
  have lX1 := rX16.lt
  have zX2 := rX26.cells
  have lX2 := rX26.lt
  have zX3 := rX36.cells
  have lX3 := rX36.lt
  have zX4 := rX46.cells
  have lX4 := rX46.lt
  have zX5 := rX56.cells
  have lX5 := rX56.lt
  go_wp2_with fail
  refine (cM1.out _).mono ?_
  rintro e w7 ⟨rfl, h7⟩
  clear zA lA zB lB zC lC zX1 lX1 zX2 lX2 zX3 lX3 zX4 lX4 zX5 lX5
  have rA7 := rA6.keep h7
  have rB7 := rB6.keep h7
  have rC7 := rC6.keep h7
  have rX17 := rX16.keep h7
  have rX27 := rX26.keep h7
  have rX37 := rX36.keep h7
  have rX47 := rX46.keep h7
  have rX57 := rX56.keep h7
  have b7 := chain b6 h7
  have zA := rA7.cells
  have lA := rA7.lt
  have zB := rB7.cells
  have lB := rB7.lt
  have zC := rC7.cells
  have lC := rC7.lt
  have zX1 := rX17.cells
  have lX1 := rX17.lt
  have zX2 := rX27.cells
  have lX2 := rX27.lt
  have zX3 := rX37.cells
  have lX3 := rX37.lt
  have zX4 := rX47.cells
  have lX4 := rX47.lt
  have zX5 := rX57.cells
  have lX5 := rX57.lt
  go_wp2_with fail
  refine (cM2.out _).mono ?_
  rintro e w8 ⟨rfl, h8⟩
  clear zA lA zB lB zC lC zX1 lX1 zX2 lX2 zX3 lX3 zX4 lX4 zX5 lX5
  have rA8 := (rA7.alloc _).keep h8
  have rB8 := (rB7.alloc _).keep h8
  have rC8 := (rC7.alloc _).keep h8
  have rX18 := (rX17.alloc _).keep h8
  have rX28 := (rX27.alloc _).keep h8
  have rX38 := (rX37.alloc _).keep h8
  have rX48 := (rX47.alloc _).keep h8
  have rX58 := (rX57.alloc _).keep h8
  have rX78 := (Res.new _ _ _).keep h8
  have b8 := chain (b7.alloc b7.size _) h8
  have zA := rA8.cells
  have lA := rA8.lt
  have zB := rB8.cells
  have lB := rB8.lt
  have zC := rC8.cells
  have lC := rC8.lt
  have zX1 := rX18.cells
  have lX1 := rX18.lt
  have zX2 := rX28.cells
  have lX2 := rX28.lt
  have zX3 := rX38.cells
  have lX3 := rX38.lt
  have zX4 := rX48.cells
  have lX4 := rX48.lt
  have zX5 := rX58.cells
  have lX5 := rX58.lt
  have zX7 := rX78.cells
  have lX7 := rX78.lt
  go_wp2_with fail
  refine (cM3.out _).mono ?_
  rintro e w9 ⟨rfl, h9⟩
  clear zA lA zB lB zC lC zX1 lX1 zX2 lX2 zX3 lX3 zX4 lX4 zX5 lX5 zX7 lX7
  have rA9 := (rA8.alloc _).keep h9
  have rB9 := (rB8.alloc _).keep h9
  have rC9 := (rC8.alloc _).keep h9
  have rX19 := (rX18.alloc _).keep h9
  have rX29 := (rX28.alloc _).keep h9
  have rX39 := (rX38.alloc _).keep h9
  have rX49 := (rX48.alloc _).keep h9
  have rX59 := (rX58.alloc _).keep h9
  have rX79 := (rX78.alloc _).keep h9
  have rX89 := (Res.new _ _ _).keep h9
  have b9 := chain (b8.alloc b8.size _) h9
  have zA := rA9.cells
  have lA := rA9.lt
  have zB := rB9.cells
  have lB := rB9.lt
  have zC := rC9.cells
  have lC := rC9.lt
  have zX1 := rX19.cells
  have lX1 := rX19.lt
  have zX2 := rX29.cells
  have lX2 := rX29.lt
  have zX3 := rX39.cells
  have lX3 := rX39.lt
  have zX4 := rX49.cells
  have lX4 := rX49.lt
  have zX5 := rX59.cells
  have lX5 := rX59.lt
  have zX7 := rX79.cells
  have lX7 := rX79.lt
  have zX8 := rX89.cells
  have lX8 := rX89.lt
  go_wp2_with fail
  refine (awake_any _).mono ?_
  rintro e wz ⟨rfl, hz⟩
  clear zA lA zB lB zC lC zX1 lX1 zX2 lX2 zX3 lX3 zX4 lX4 zX5 lX5 zX7 lX7 zX8 lX8
  have bz := chain (b9.alloc b9.size _) hz
  go_wp2
  go_ret
  exact ⟨rfl, bz⟩

set_option maxHeartbeats 4000000 in
theorem alg_ejg (a b c s p l m n : Nat) (q : Int) (w : World) (ha : a < B256) (hs : s < B256) (hp : p < B256) (hq : 0 ≤ q) (hl : l < B256)
    (cAdd : Hid (∀ w, Calls Try.prog 13 #[U a, U b] w fun e w' => e = .returned (.tuple #[(U s), .int .i64 0]) ∧ Below w.heap.size w w'))
    (cAdd' : Hid (∀ w, Calls Try.prog 13 #[U b, U a] w fun e w' => e = .returned (.tuple #[(U s), .int .i64 0]) ∧ Below w.heap.size w w'))
    (cMul : Hid (∀ w, Calls Try.prog 18 #[U a, U b] w fun e w' => e = .returned (.tuple #[(U p), .int .i64 0]) ∧ Below w.heap.size w w'))
    (cMul' : Hid (∀ w, Calls Try.prog 18 #[U b, U a] w fun e w' => e = .returned (.tuple #[(U p), .int .i64 0]) ∧ Below w.heap.size w w'))
    (cSub : Hid (∀ w, Calls Try.prog 15 #[U s, U b] w fun e w' => e = .returned (.tuple #[U a, .int .i64 0]) ∧ Below w.heap.size w w'))
    (cCmp : Hid (∀ w, Calls Try.prog 25 #[U s, U a] w fun e w' => e = .returned (.int .i64 q) ∧ Below w.heap.size w w'))
    (cM1 : Hid (∀ w, Calls Try.prog 18 #[U s, U c] w fun e w' => e = .returned (.tuple #[(U l), .int .i64 0]) ∧ Below w.heap.size w w'))
    (cM2 : Hid (∀ w, Calls Try.prog 18 #[U a, U c] w fun e w' => e = .returned (.tuple #[U m, .int .i64 0]) ∧ Below w.heap.size w w'))
    (cM3 : Hid (∀ w, Calls Try.prog 18 #[U b, U c] w fun e w' => e = .returned (.tuple #[U n, .int .i64 0]) ∧ Below w.heap.size w w'))
    (cA2 : Hid (∀ w, Calls Try.prog 13 #[U m, U n] w fun e w' => e = .returned (.tuple #[U l, .int .i64 0]) ∧ Below w.heap.size w w')) :
    Calls Try.prog 6 #[U a, U b, U c] w fun e w' => e = .returned (.bool true) ∧ Below w.heap.size w w' := by
  have EZ : ∀ w, (Op.equalIn 10000 24 (.agg #[.int .u64 0, .int .u64 0, .int .u64 0, .int .u64 0]) (.agg #[.int .u64 0, .int .u64 0, .int .u64 0, .int .u64 0])).run Try.prog w = .ok true w := fun w => eq4_run 0 0 0 0 0 0 0 0 w
  have ES := eqSame s hs
  have EA := eqSame a ha
  have EL := eqSame l hl
  have EP := eqSame p hp
  have rA0 : Res w.heap.size 24 (arr a) (((w.alloc (.cells (arr a) 24)).alloc (.cells (arr b) 24)).alloc (.cells (arr c) 24)) := ((Res.new w 24 (arr a)).alloc _).alloc _
  have rB0 : Res (w.heap.size + 1) 24 (arr b) (((w.alloc (.cells (arr a) 24)).alloc (.cells (arr b) 24)).alloc (.cells (arr c) 24)) := by
    have h := (Res.new (w.alloc (.cells (arr a) 24)) 24 (arr b)).alloc (.cells (arr c) 24)
    rw [World.size_alloc] at h
    exact h
  have rC0 : Res (w.heap.size + 1 + 1) 24 (arr c) (((w.alloc (.cells (arr a) 24)).alloc (.cells (arr b) 24)).alloc (.cells (arr c) 24)) := by
    have h := Res.new ((w.alloc (.cells (arr a) 24)).alloc (.cells (arr b) 24)) 24 (arr c)
    rw [World.size_alloc, World.size_alloc] at h
    exact h
  have b0 : Below w.heap.size w (((w.alloc (.cells (arr a) 24)).alloc (.cells (arr b) 24)).alloc (.cells (arr c) 24)) := by go_grown
  go_enter Try.func6, Try.ntmps6
  go_wp2_with fail
  refine (cAdd.out _).mono ?_
  rintro e w1 ⟨rfl, h1⟩
  have rA1 := rA0.keep h1
  have rB1 := rB0.keep h1
  have rC1 := rC0.keep h1
  have b1 := chain b0 h1
  have zA := rA1.cells
  have lA := rA1.lt
  have zB := rB1.cells
  have lB := rB1.lt
  have zC := rC1.cells
  have lC := rC1.lt
  go_wp2_with fail
  refine (cAdd'.out _).mono ?_
  rintro e w2 ⟨rfl, h2⟩
  clear zA lA zB lB zC lC
  have rA2 := (rA1.alloc _).keep h2
  have rB2 := (rB1.alloc _).keep h2
  have rC2 := (rC1.alloc _).keep h2
  have rX12 := (Res.new _ _ _).keep h2
  have b2 := chain (b1.alloc b1.size _) h2
  have zA := rA2.cells
  have lA := rA2.lt
  have zB := rB2.cells
  have lB := rB2.lt
  have zC := rC2.cells
  have lC := rC2.lt
  have zX1 := rX12.cells
  have lX1 := rX12.lt
  go_wp2_with fail
  refine (cMul.out _).mono ?_
  rintro e w3 ⟨rfl, h3⟩
  clear zA lA zB lB zC lC zX1 lX1
  have rA3 := (rA2.alloc _).keep h3
  have rB3 := (rB2.alloc _).keep h3
  have rC3 := (rC2.alloc _).keep h3
  have rX13 := (rX12.alloc _).keep h3
  have rX23 := (Res.new _ _ _).keep h3
  have b3 := chain (b2.alloc b2.size _) h3
  have zA := rA3.cells
  have lA := rA3.lt
  have zB := rB3.cells
  have lB := rB3.lt
  have zC := rC3.cells
  have lC := rC3.lt
  have zX1 := rX13.cells
  have lX1 := rX13.lt
  have zX2 := rX23.cells
  have lX2 := rX23.lt
  go_wp2_with fail
  refine (cMul'.out _).mono ?_
  rintro e w4 ⟨rfl, h4⟩
  clear zA lA zB lB zC lC zX1 lX1 zX2 lX2
  have rA4 := (rA3.alloc _).keep h4
  have rB4 := (rB3.alloc _).keep h4
  have rC4 := (rC3.alloc _).keep h4
  have rX14 := (rX13.alloc _).keep h4
  have rX24 := (rX23.alloc _).keep h4
  have rX34 := (Res.new _ _ _).keep h4
  have b4 := chain (b3.alloc b3.size _) h4
  have zA := rA4.cells
  have lA := rA4.lt
  have zB := rB4.cells
  have lB := rB4.lt
  have zC := rC4.cells
  have lC := rC4.lt
  have zX1 := rX14.cells
  have lX1 := rX14.lt
  have zX2 := rX24.cells
  have lX2 := rX24.lt
  have zX3 := rX34.cells
  have lX3 := rX34.lt
  go_wp2_with fail
  refine (cSub.out _).mono ?_
  rintro e w5 ⟨rfl, h5⟩
  clear zA lA zB lB zC lC zX1 lX1 zX2 lX2 zX3 lX3
  have rA5 := (rA4.alloc _).keep h5
  have rB5 := (rB4.alloc _).keep h5
  have rC5 := (rC4.alloc _).keep h5
  have rX15 := (rX14.alloc _).keep h5
  have rX25 := (rX24.alloc _).keep h5
  have rX35 := (rX34.alloc _).keep h5
  have rX45 := (Res.new _ _ _).keep h5
  have b5 := chain (b4.alloc b4.size _) h5
  have zA := rA5.cells
  have lA := rA5.lt
  have zB := rB5.cells
  have lB := rB5.lt
  have zC := rC5.cells
  have lC := rC5.lt
  have zX1 := rX15.cells
  have lX1 := rX15.lt
  have zX2 := rX25.cells
  have lX2 := rX25.lt
  have zX3 := rX35.cells
  have lX3 := rX35.lt
  have zX4 := rX45.cells
  have lX4 := rX45.lt
  go_wp2_with fail
  refine (cCmp.out _).mono ?_
  rintro e w6 ⟨rfl, h6⟩
  clear zA lA zB lB zC lC zX1 lX1 zX2 lX2 zX3 lX3 zX4 lX4
  have rA6 := (rA5.alloc _).keep h6
  have rB6 := (rB5.alloc _).keep h6
  have rC6 := (rC5.alloc _).keep h6
  have rX16 := (rX15.alloc _).keep h6
  have rX26 := (rX25.alloc _).keep h6
  have rX36 := (rX35.alloc _).keep h6
  have rX46 := (rX45.alloc _).keep h6
  have rX56 := (Res.new _ _ _).keep h6
  have b6 := chain (b5.alloc b5.size _) h6
  have zA := rA6.cells
  have lA := rA6.lt
  have zB := rB6.cells
  have lB := rB6.lt
  have zC := rC6.cells
  have lC := rC6.lt
  have zX1 := rX16.cells
  have lX1 := rX16.lt
  have zX2 := rX26.cells
  have lX2 := rX26.lt
  have zX3 := rX36.cells
  have lX3 := rX36.lt
  have zX4 := rX46.cells
  have lX4 := rX46.lt
  have zX5 := rX56.cells
  have lX5 := rX56.lt
  go_wp2_with fail
  refine (cM1.out _).mono ?_
  rintro e w7 ⟨rfl, h7⟩
  clear zA lA zB lB zC lC zX1 lX1 zX2 lX2 zX3 lX3 zX4 lX4 zX5 lX5
  have rA7 := rA6.keep h7
  have rB7 := rB6.keep h7
  have rC7 := rC6.keep h7
  have rX17 := rX16.keep h7
  have rX27 := rX26.keep h7
  have rX37 := rX36.keep h7
  have rX47 := rX46.keep h7
  have rX57 := rX56.keep h7
  have b7 := chain b6 h7
  have zA := rA7.cells
  have lA := rA7.lt
  have zB := rB7.cells
  have lB := rB7.lt
  have zC := rC7.cells
  have lC := rC7.lt
  have zX1 := rX17.cells
  have lX1 := rX17.lt
  have zX2 := rX27.cells
  have lX2 := rX27.lt
  have zX3 := rX37.cells
  have lX3 := rX37.lt
  have zX4 := rX47.cells
  have lX4 := rX47.lt
  have zX5 := rX57.cells
  have lX5 := rX57.lt
  go_wp2_with fail
  refine (cM2.out _).mono ?_
  rintro e w8 ⟨rfl, h8⟩
  clear zA lA zB lB zC lC zX1 lX1 zX2 lX2 zX3 lX3 zX4 lX4 zX5 lX5
  have rA8 := (rA7.alloc _).keep h8
  have rB8 := (rB7.alloc _).keep h8
  have rC8 := (rC7.alloc _).keep h8
  have rX18 := (rX17.alloc _).keep h8
  have rX28 := (rX27.alloc _).keep h8
  have rX38 := (rX37.alloc _).keep h8
  have rX48 := (rX47.alloc _).keep h8
  have rX58 := (rX57.alloc _).keep h8
  have rX78 := (Res.new _ _ _).keep h8
  have b8 := chain (b7.alloc b7.size _) h8
  have zA := rA8.cells
  have lA := rA8.lt
  have zB := rB8.cells
  have lB := rB8.lt
  have zC := rC8.cells
  have lC := rC8.lt
  have zX1 := rX18.cells
  have lX1 := rX18.lt
  have zX2 := rX28.cells
  have lX2 := rX28.lt
  have zX3 := rX38.cells
  have lX3 := rX38.lt
  have zX4 := rX48.cells
  have lX4 := rX48.lt
  have zX5 := rX58.cells
  have lX5 := rX58.lt
  have zX7 := rX78.cells
  have lX7 := rX78.lt
  go_wp2_with fail
  refine (cM3.out _).mono ?_
  rintro e w9 ⟨rfl, h9⟩
  clear zA lA zB lB zC lC zX1 lX1 zX2 lX2 zX3 lX3 zX4 lX4 zX5 lX5 zX7 lX7
  have rA9 := (rA8.alloc _).keep h9
  have rB9 := (rB8.alloc _).keep h9
  have rC9 := (rC8.alloc _).keep h9
  have rX19 := (rX18.alloc _).keep h9
  have rX29 := (rX28.alloc _).keep h9
  have rX39 := (rX38.alloc _).keep h9
  have rX49 := (rX48.alloc _).keep h9
  have rX59 := (rX58.alloc _).keep h9
  have rX79 := (rX78.alloc _).keep h9
  have rX89 := (Res.new _ _ _).keep h9
  have b9 := chain (b8.alloc b8.size _) h9
  have zA := rA9.cells
  have lA := rA9.lt
  have zB := rB9.cells
  have lB := rB9.lt
  have zC := rC9.cells
  have lC := rC9.lt
  have zX1 := rX19.cells
  have lX1 := rX19.lt
  have zX2 := rX29.cells
  have lX2 := rX29.lt
  have zX3 := rX39.cells
  have lX3 := rX39.lt
  have zX4 := rX49.cells
  have lX4 := rX49.lt
  have zX5 := rX59.cells
  have lX5 := rX59.lt
  have zX7 := rX79.cells
  have lX7 := rX79.lt
  have zX8 := rX89.cells
  have lX8 := rX89.lt
  go_wp2_with fail
  refine (cA2.out _).mono ?_
  rintro e w10 ⟨rfl, h10⟩
  clear zA lA zB lB zC lC zX1 lX1 zX2 lX2 zX3 lX3 zX4 lX4 zX5 lX5 zX7 lX7 zX8 lX8
  have rA10 := (rA9.alloc _).keep h10
  have rB10 := (rB9.alloc _).keep h10
  have rC10 := (rC9.alloc _).keep h10
  have rX110 := (rX19.alloc _).keep h10
  have rX210 := (rX29.alloc _).keep h10
  have rX310 := (rX39.alloc _).keep h10
  have rX410 := (rX49.alloc _).keep h10
  have rX510 := (rX59.alloc _).keep h10
  have rX710 := (rX79.alloc _).keep h10
  have rX810 := (rX89.alloc _).keep h10
  have rX910 := (Res.new _ _ _).keep h10
  have b10 := chain (b9.alloc b9.size _) h10
  have zA := rA10.cells
  have lA := rA10.lt
  have zB := rB10.cells
  have lB := rB10.lt
  have zC := rC10.cells
  have lC := rC10.lt
  have zX1 := rX110.cells
  have lX1 := rX110.lt
  have zX2 := rX210.cells
  have lX2 := rX210.lt
  have zX3 := rX310.cells
  have lX3 := rX310.lt
  have zX4 := rX410.cells
  have lX4 := rX410.lt
  have zX5 := rX510.cells
  have lX5 := rX510.lt
  have zX7 := rX710.cells
  have lX7 := rX710.lt
  have zX8 := rX810.cells
  have lX8 := rX810.lt
  have zX9 := rX910.cells
  have lX9 := rX910.lt
  go_wp2_with fail
  refine (awake_any _).mono ?_
  rintro e wz ⟨rfl, hz⟩
  clear zA lA zB lB zC lC zX1 lX1 zX2 lX2 zX3 lX3 zX4 lX4 zX5 lX5 zX7 lX7 zX8 lX8 zX9 lX9
  have bz := chain (b10.alloc b10.size _) hz
  go_wp2
  go_ret
  exact ⟨rfl, bz⟩

set_option maxHeartbeats 4000000 in
theorem alg_ejz (a b c s l m n : Nat) (q : Int) (w : World) (ha : a < B256) (hs : s < B256) (hq : 0 ≤ q) (hl : l < B256)
    (cAdd : Hid (∀ w, Calls Try.prog 13 #[U a, U b] w fun e w' => e = .returned (.tuple #[(U s), .int .i64 0]) ∧ Below w.heap.size w w'))
    (cAdd' : Hid (∀ w, Calls Try.prog 13 #[U b, U a] w fun e w' => e = .returned (.tuple #[(U s), .int .i64 0]) ∧ Below w.heap.size w w'))
    (cMul : Hid (∀ w, Calls Try.prog 18 #[U a, U b] w fun e w' => e = .returned (.tuple #[(.agg #[.int .u64 0, .int .u64 0, .int .u64 0, .int .u64 0]), .int .i64 4]) ∧ Below w.heap.size w w'))
    (cMul' : Hid (∀ w, Calls Try.prog 18 #[U b, U a] w fun e w' => e = .returned (.tuple #[(.agg #[.int .u64 0, .int .u64 0, .int .u64 0, .int .u64 0]), .int .i64 4]) ∧ Below w.heap.size w w'))
    (cSub : Hid (∀ w, Calls Try.prog 15 #[U s, U b] w fun e w' => e = .returned (.tuple #[U a, .int .i64 0]) ∧ Below w.heap.size w w'))
    (cCmp : Hid (∀ w, Calls Try.prog 25 #[U s, U a] w fun e w' => e = .returned (.int .i64 q) ∧ Below w.heap.size w w'))
    (cM1 : Hid (∀ w, Calls Try.prog 18 #[U s, U c] w fun e w' => e = .returned (.tuple #[(U l), .int .i64 0]) ∧ Below w.heap.size w w'))
    (cM2 : Hid (∀ w, Calls Try.prog 18 #[U a, U c] w fun e w' => e = .returned (.tuple #[U m, .int .i64 0]) ∧ Below w.heap.size w w'))
    (cM3 : Hid (∀ w, Calls Try.prog 18 #[U b, U c] w fun e w' => e = .returned (.tuple #[U n, .int .i64 0]) ∧ Below w.heap.size w w'))
    (cA2 : Hid (∀ w, Calls Try.prog 13 #[U m, U n] w fun e w' => e = .returned (.tuple #[U l, .int .i64 0]) ∧ Below w.heap.size w w')) :
    Calls Try.prog 6 #[U a, U b, U c] w fun e w' => e = .returned (.bool true) ∧ Below w.heap.size w w' := by
  have EZ : ∀ w, (Op.equalIn 10000 24 (.agg #[.int .u64 0, .int .u64 0, .int .u64 0, .int .u64 0]) (.agg #[.int .u64 0, .int .u64 0, .int .u64 0, .int .u64 0])).run Try.prog w = .ok true w := fun w => eq4_run 0 0 0 0 0 0 0 0 w
  have ES := eqSame s hs
  have EA := eqSame a ha
  have EL := eqSame l hl
  have rA0 : Res w.heap.size 24 (arr a) (((w.alloc (.cells (arr a) 24)).alloc (.cells (arr b) 24)).alloc (.cells (arr c) 24)) := ((Res.new w 24 (arr a)).alloc _).alloc _
  have rB0 : Res (w.heap.size + 1) 24 (arr b) (((w.alloc (.cells (arr a) 24)).alloc (.cells (arr b) 24)).alloc (.cells (arr c) 24)) := by
    have h := (Res.new (w.alloc (.cells (arr a) 24)) 24 (arr b)).alloc (.cells (arr c) 24)
    rw [World.size_alloc] at h
    exact h
  have rC0 : Res (w.heap.size + 1 + 1) 24 (arr c) (((w.alloc (.cells (arr a) 24)).alloc (.cells (arr b) 24)).alloc (.cells (arr c) 24)) := by
    have h := Res.new ((w.alloc (.cells (arr a) 24)).alloc (.cells (arr b) 24)) 24 (arr c)
    rw [World.size_alloc, World.size_alloc] at h
    exact h
  have b0 : Below w.heap.size w (((w.alloc (.cells (arr a) 24)).alloc (.cells (arr b) 24)).alloc (.cells (arr c) 24)) := by go_grown
  go_enter Try.func6, Try.ntmps6
  go_wp2_with fail
  refine (cAdd.out _).mono ?_
  rintro e w1 ⟨rfl, h1⟩
  have rA1 := rA0.keep h1
  have rB1 := rB0.keep h1
  have rC1 := rC0.keep h1
  have b1 := chain b0 h1
  have zA := rA1.cells
  have lA := rA1.lt
  have zB := rB1.cells
  have lB := rB1.lt
  have zC := rC1.cells
  have lC := rC1.lt
  go_wp2_with fail
  refine (cAdd'.out _).mono ?_
  rintro e w2 ⟨rfl, h2⟩
  clear zA lA zB lB zC lC
  have rA2 := (rA1.alloc _).keep h2
  have rB2 := (rB1.alloc _).keep h2
  have rC2 := (rC1.alloc _).keep h2
  have rX12 := (Res.new _ _ _).keep h2
  have b2 := chain (b1.alloc b1.size _) h2
  have zA := rA2.cells
  have lA := rA2.lt
  have zB := rB2.cells
  have lB := rB2.lt
  have zC := rC2.cells
  have lC := rC2.lt
  have zX1 := rX12.cells
  have lX1 := rX12.lt
  go_wp2_with fail
  refine (cMul.out _).mono ?_
  rintro e w3 ⟨rfl, h3⟩
  clear zA lA zB lB zC lC zX1 lX1
  have rA3 := (rA2.alloc _).keep h3
  have rB3 := (rB2.alloc _).keep h3
  have rC3 := (rC2.alloc _).keep h3
  have rX13 := (rX12.alloc _).keep h3
  have rX23 := (Res.new _ _ _).keep h3
  have b3 := chain (b2.alloc b2.size _) h3
  have zA := rA3.cells
  have lA := rA3.lt
  have zB := rB3.cells
  have lB := rB3.lt
  have zC := rC3.cells
  have lC := rC3.lt
  have zX1 := rX13.cells
  have lX1 := rX13.lt
  have zX2 := rX23.cells
  have lX2 := rX23.lt
  go_wp2_with fail
  refine (cMul'.out _).mono ?_
  rintro e w4 ⟨rfl, h4⟩
  clear zA lA zB lB zC lC zX1 lX1 zX2 lX2
  have rA4 := (rA3.alloc _).keep h4
  have rB4 := (rB3.alloc _).keep h4
  have rC4 := (rC3.alloc _).keep h4
  have rX14 := (rX13.alloc _).keep h4
  have rX24 := (rX23.alloc _).keep h4
  have rX34 := (Res.new _ _ _).keep h4
  have b4 := chain (b3.alloc b3.size _) h4
  have zA := rA4.cells
  have lA := rA4.lt
  have zB := rB4.cells
  have lB := rB4.lt
  have zC := rC4.cells
  have lC := rC4.lt
  have zX1 := rX14.cells
  have lX1 := rX14.lt
  have zX2 := rX24.cells
  have lX2 := rX24.lt
  have zX3 := rX34.cells
  have lX3 := rX34.lt
  go_wp2_with fail
  refine (cSub.out _).mono ?_
  rintro e w5 ⟨rfl, h5⟩
  clear zA lA zB lB zC lC zX1 lX1 zX2 lX2 zX3 lX3
  have rA5 := (rA4.alloc _).keep h5
  have rB5 := (rB4.alloc _).keep h5
  have rC5 := (rC4.alloc _).keep h5
  have rX15 := (rX14.alloc _).keep h5
  have rX25 := (rX24.alloc _).keep h5
  have rX35 := (rX34.alloc _).keep h5
  have rX45 := (Res.new _ _ _).keep h5
  have b5 := chain (b4.alloc b4.size _) h5
  have zA := rA5.cells
  have lA := rA5.lt
  have zB := rB5.cells
  have lB := rB5.lt
  have zC := rC5.cells
  have lC := rC5.lt
  have zX1 := rX15.cells
  have lX1 := rX15.lt
  have zX2 := rX25.cells
  have lX2 := rX25.lt
  have zX3 := rX35.cells
  have lX3 := rX35.lt
  have zX4 := rX45.cells
  have lX4 := rX45.lt
  go_wp2_with fail
  refine (cCmp.out _).mono ?_
  rintro e w6 ⟨rfl, h6⟩
  clear zA lA zB lB zC lC zX1 lX1 zX2 lX2 zX3 lX3 zX4 lX4
  have rA6 := (rA5.alloc _).keep h6
  have rB6 := (rB5.alloc _).keep h6
  have rC6 := (rC5.alloc _).keep h6
  have rX16 := (rX15.alloc _).keep h6
  have rX26 := (rX25.alloc _).keep h6
  have rX36 := (rX35.alloc _).keep h6
  have rX46 := (rX45.alloc _).keep h6
  have rX56 := (Res.new _ _ _).keep h6
  have b6 := chain (b5.alloc b5.size _) h6
  have zA := rA6.cells
  have lA := rA6.lt
  have zB := rB6.cells
  have lB := rB6.lt
  have zC := rC6.cells
  have lC := rC6.lt
  have zX1 := rX16.cells
  have lX1 := rX16.lt
  have zX2 := rX26.cells
  have lX2 := rX26.lt
  have zX3 := rX36.cells
  have lX3 := rX36.lt
  have zX4 := rX46.cells
  have lX4 := rX46.lt
  have zX5 := rX56.cells
  have lX5 := rX56.lt
  go_wp2_with fail
  refine (cM1.out _).mono ?_
  rintro e w7 ⟨rfl, h7⟩
  clear zA lA zB lB zC lC zX1 lX1 zX2 lX2 zX3 lX3 zX4 lX4 zX5 lX5
  have rA7 := rA6.keep h7
  have rB7 := rB6.keep h7
  have rC7 := rC6.keep h7
  have rX17 := rX16.keep h7
  have rX27 := rX26.keep h7
  have rX37 := rX36.keep h7
  have rX47 := rX46.keep h7
  have rX57 := rX56.keep h7
  have b7 := chain b6 h7
  have zA := rA7.cells
  have lA := rA7.lt
  have zB := rB7.cells
  have lB := rB7.lt
  have zC := rC7.cells
  have lC := rC7.lt
  have zX1 := rX17.cells
  have lX1 := rX17.lt
  have zX2 := rX27.cells
  have lX2 := rX27.lt
  have zX3 := rX37.cells
  have lX3 := rX37.lt
  have zX4 := rX47.cells
  have lX4 := rX47.lt
  have zX5 := rX57.cells
  have lX5 := rX57.lt
  go_wp2_with fail
  refine (cM2.out _).mono ?_
  rintro e w8 ⟨rfl, h8⟩
  clear zA lA zB lB zC lC zX1 lX1 zX2 lX2 zX3 lX3 zX4 lX4 zX5 lX5
  have rA8 := (rA7.alloc _).keep h8
  have rB8 := (rB7.alloc _).keep h8
  have rC8 := (rC7.alloc _).keep h8
  have rX18 := (rX17.alloc _).keep h8
  have rX28 := (rX27.alloc _).keep h8
  have rX38 := (rX37.alloc _).keep h8
  have rX48 := (rX47.alloc _).keep h8
  have rX58 := (rX57.alloc _).keep h8
  have rX78 := (Res.new _ _ _).keep h8
  have b8 := chain (b7.alloc b7.size _) h8
  have zA := rA8.cells
  have lA := rA8.lt
  have zB := rB8.cells
  have lB := rB8.lt
  have zC := rC8.cells
  have lC := rC8.lt
  have zX1 := rX18.cells
  have lX1 := rX18.lt
  have zX2 := rX28.cells
  have lX2 := rX28.lt
  have zX3 := rX38.cells
  have lX3 := rX38.lt
  have zX4 := rX48.cells
  have lX4 := rX48.lt
  have zX5 := rX58.cells
  have lX5 := rX58.lt
  have zX7 := rX78.cells
  have lX7 := rX78.lt
  go_wp2_with fail
  refine (cM3.out _).mono ?_
  rintro e w9 ⟨rfl, h9⟩
  clear zA lA zB lB zC lC zX1 lX1 zX2 lX2 zX3 lX3 zX4 lX4 zX5 lX5 zX7 lX7
  have rA9 := (rA8.alloc _).keep h9
  have rB9 := (rB8.alloc _).keep h9
  have rC9 := (rC8.alloc _).keep h9
  have rX19 := (rX18.alloc _).keep h9
  have rX29 := (rX28.alloc _).keep h9
  have rX39 := (rX38.alloc _).keep h9
  have rX49 := (rX48.alloc _).keep h9
  have rX59 := (rX58.alloc _).keep h9
  have rX79 := (rX78.alloc _).keep h9
  have rX89 := (Res.new _ _ _).keep h9
  have b9 := chain (b8.alloc b8.size _) h9
  have zA := rA9.cells
  have lA := rA9.lt
  have zB := rB9.cells
  have lB := rB9.lt
  have zC := rC9.cells
  have lC := rC9.lt
  have zX1 := rX19.cells
  have lX1 := rX19.lt
  have zX2 := rX29.cells
  have lX2 := rX29.lt
  have zX3 := rX39.cells
  have lX3 := rX39.lt
  have zX4 := rX49.cells
  have lX4 := rX49.lt
  have zX5 := rX59.cells
  have lX5 := rX59.lt
  have zX7 := rX79.cells
  have lX7 := rX79.lt
  have zX8 := rX89.cells
  have lX8 := rX89.lt
  go_wp2_with fail
  refine (cA2.out _).mono ?_
  rintro e w10 ⟨rfl, h10⟩
  clear zA lA zB lB zC lC zX1 lX1 zX2 lX2 zX3 lX3 zX4 lX4 zX5 lX5 zX7 lX7 zX8 lX8
  have rA10 := (rA9.alloc _).keep h10
  have rB10 := (rB9.alloc _).keep h10
  have rC10 := (rC9.alloc _).keep h10
  have rX110 := (rX19.alloc _).keep h10
  have rX210 := (rX29.alloc _).keep h10
  have rX310 := (rX39.alloc _).keep h10
  have rX410 := (rX49.alloc _).keep h10
  have rX510 := (rX59.alloc _).keep h10
  have rX710 := (rX79.alloc _).keep h10
  have rX810 := (rX89.alloc _).keep h10
  have rX910 := (Res.new _ _ _).keep h10
  have b10 := chain (b9.alloc b9.size _) h10
  have zA := rA10.cells
  have lA := rA10.lt
  have zB := rB10.cells
  have lB := rB10.lt
  have zC := rC10.cells
  have lC := rC10.lt
  have zX1 := rX110.cells
  have lX1 := rX110.lt
  have zX2 := rX210.cells
  have lX2 := rX210.lt
  have zX3 := rX310.cells
  have lX3 := rX310.lt
  have zX4 := rX410.cells
  have lX4 := rX410.lt
  have zX5 := rX510.cells
  have lX5 := rX510.lt
  have zX7 := rX710.cells
  have lX7 := rX710.lt
  have zX8 := rX810.cells
  have lX8 := rX810.lt
  have zX9 := rX910.cells
  have lX9 := rX910.lt
  go_wp2_with fail
  refine (awake_any _).mono ?_
  rintro e wz ⟨rfl, hz⟩
  clear zA lA zB lB zC lC zX1 lX1 zX2 lX2 zX3 lX3 zX4 lX4 zX5 lX5 zX7 lX7 zX8 lX8 zX9 lX9
  have bz := chain (b10.alloc b10.size _) hz
  go_wp2
  go_ret
  exact ⟨rfl, bz⟩

theorem add_in (a b : Nat) (ha : a < B256) (hb : b < B256) (h : a + b < B256) : Hid (∀ w, Calls Try.prog 13 #[U a, U b] w fun e w' => e = .returned (.tuple #[U (a + b), .int .i64 0]) ∧ Below w.heap.size w w') := fun w => by
  have k := add_any a b ha hb w
  rw [show addR a b = a + b from if_pos h, show addE a b = 0 from if_pos h] at k
  exact k
theorem add_out (a b : Nat) (ha : a < B256) (hb : b < B256) (h : ¬ a + b < B256) : Hid (∀ w, Calls Try.prog 13 #[U a, U b] w fun e w' => e = .returned (.tuple #[(.agg #[.int .u64 0, .int .u64 0, .int .u64 0, .int .u64 0]), .int .i64 4]) ∧ Below w.heap.size w w') := fun w => by
  have k := add_any a b ha hb w
  rw [show addR a b = 0 from if_neg h, show addE a b = 4 from if_neg h, U_zero] at k
  exact k
theorem mul_in (a b : Nat) (ha : a < B256) (hb : b < B256) (h : a * b < B256) : Hid (∀ w, Calls Try.prog 18 #[U a, U b] w fun e w' => e = .returned (.tuple #[U (a * b), .int .i64 0]) ∧ Below w.heap.size w w') := fun w => by
  have k := mul_any a b ha hb w
  rw [show mulR a b = a * b from if_pos h, show mulE a b = 0 from if_pos h] at k
  exact k
theorem mul_out (a b : Nat) (ha : a < B256) (hb : b < B256) (h : ¬ a * b < B256) : Hid (∀ w, Calls Try.prog 18 #[U a, U b] w fun e w' => e = .returned (.tuple #[(.agg #[.int .u64 0, .int .u64 0, .int .u64 0, .int .u64 0]), .int .i64 4]) ∧ Below w.heap.size w w') := fun w => by
  have k := mul_any a b ha hb w
  rw [show mulR a b = 0 from if_neg h, show mulE a b = 4 from if_neg h, U_zero] at k
  exact k
theorem sub_back (a b : Nat) (hs : a + b < B256) (hb : b < B256) : Hid (∀ w, Calls Try.prog 15 #[U (a + b), U b] w fun e w' => e = .returned (.tuple #[U a, .int .i64 0]) ∧ Below w.heap.size w w') := fun w => by
  have k := sub_any (a + b) b hs hb w
  rw [show subR (a + b) b = a from by unfold subR; rw [if_pos (by omega)]; omega, show subE (a + b) b = 0 from if_pos (by omega)] at k
  exact k

theorem algebra_law (a b c : Nat) (ha : a < B256) (hb : b < B256) (hc : c < B256) (w : World) :
    Calls Try.prog 6 #[U a, U b, U c] w fun e w' => e = .returned (.bool true) ∧ Below w.heap.size w w' := by
  by_cases he : a + b < B256
  · have h1 := add_in a b ha hb he
    have h1' := add_in b a hb ha (by omega)
    rw [Nat.add_comm b a] at h1'
    have hS := sub_back a b he hb
    have hC : Hid (∀ w, Calls Try.prog 25 #[U (a + b), U a] w fun e w' => e = .returned (.int .i64 (cmpI (a + b) a)) ∧ Below w.heap.size w w') := fun w => cmp_any (a + b) a he ha w
    have hq : 0 ≤ cmpI (a + b) a := by unfold cmpI; rw [if_neg (by omega)]; split <;> omega
    have m2 : Hid (∀ w, Calls Try.prog 18 #[U a, U c] w fun e w' => e = .returned (.tuple #[U (mulR a c), .int .i64 (mulE a c)]) ∧ Below w.heap.size w w') := fun w => mul_any a c ha hc w
    have m3 : Hid (∀ w, Calls Try.prog 18 #[U b, U c] w fun e w' => e = .returned (.tuple #[U (mulR b c), .int .i64 (mulE b c)]) ∧ Below w.heap.size w w') := fun w => mul_any b c hb hc w
    by_cases hj : (a + b) * c < B256
    · have hd : (a + b) * c = a * c + b * c := Nat.add_mul a b c
      have k1 := mul_in (a + b) c he hc hj
      have k2 := mul_in a c ha hc (by omega)
      have k3 := mul_in b c hb hc (by omega)
      have k4 := add_in (a * c) (b * c) (by omega) (by omega) (by omega)
      rw [← hd] at k4
      by_cases hg : a * b < B256
      · have g1 := mul_in a b ha hb hg
        have g2 := mul_in b a hb ha (by rw [Nat.mul_comm]; exact hg)
        rw [Nat.mul_comm b a] at g2
        exact alg_ejg a b c (a + b) (a * b) ((a + b) * c) (a * c) (b * c) _ w ha he hg hq hj h1 h1' g1 g2 hS hC k1 k2 k3 k4
      · have g1 := mul_out a b ha hb hg
        have g2 := mul_out b a hb ha (by rw [Nat.mul_comm]; exact hg)
        exact alg_ejz a b c (a + b) ((a + b) * c) (a * c) (b * c) _ w ha he hq hj h1 h1' g1 g2 hS hC k1 k2 k3 k4
    · have k1 := mul_out (a + b) c he hc hj
      by_cases hg : a * b < B256
      · have g1 := mul_in a b ha hb hg
        have g2 := mul_in b a hb ha (by rw [Nat.mul_comm]; exact hg)
        rw [Nat.mul_comm b a] at g2
        exact alg_eyg a b c (a + b) (a * b) _ _ _ _ _ w ha he hg hq h1 h1' g1 g2 hS hC k1 m2 m3
      · have g1 := mul_out a b ha hb hg
        have g2 := mul_out b a hb ha (by rw [Nat.mul_comm]; exact hg)
        exact alg_eyz a b c (a + b) _ _ _ _ _ w ha he hq h1 h1' g1 g2 hS hC k1 m2 m3
  · have h1 := add_out a b ha hb he
    have h1' := add_out b a hb ha (by omega)
    by_cases hg : a * b < B256
    · have g1 := mul_in a b ha hb hg
      have g2 := mul_in b a hb ha (by rw [Nat.mul_comm]; exact hg)
      rw [Nat.mul_comm b a] at g2
      exact alg_xg a b c (a * b) w hg h1 h1' g1 g2
    · have g1 := mul_out a b ha hb hg
      have g2 := mul_out b a hb ha (by rw [Nat.mul_comm]; exact hg)
      exact alg_xz a b c w h1 h1' g1 g2

end Go.Proofs.Ythhbijcddbncdaa
