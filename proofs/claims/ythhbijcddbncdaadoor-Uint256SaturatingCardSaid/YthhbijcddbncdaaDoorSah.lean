/- The walk of saturatingAgrees, continued: the cases in which the sum overflows, and all cases together. It returns true for all numbers where the package's variable holds the largest number. -/
import Derived.Test.YthhbijcddbncdaaDoorSag
namespace Go.Proofs.YthhbijcddbncdaaDoor
open Go.RowKit

set_option maxRecDepth 100000 in
set_option maxHeartbeats 8000000 in
theorem sag_xfg (a b p q r : Nat) (w : World) (hL : Lg w) (hp : p < B256) (hq : q < B256) (hr : r < B256)
    (cA : Hid (∀ w, Calls Tryd.prog 7 #[U a, U b] w fun e w' => e = .returned (.tuple #[(.agg #[.int .u64 0, .int .u64 0, .int .u64 0, .int .u64 0]), .int .i64 4]) ∧ Below w.heap.size w w'))
    (cS : Hid (∀ w, Calls Tryd.prog 9 #[U a, U b] w fun e w' => e = .returned (.tuple #[U q, .int .i64 0]) ∧ Below w.heap.size w w'))
    (cM : Hid (∀ w, Calls Tryd.prog 11 #[U a, U b] w fun e w' => e = .returned (.tuple #[U r, .int .i64 0]) ∧ Below w.heap.size w w'))
    (cP : Hid (∀ w, Calls Tryd.prog 25 #[] w fun e w' => e = .returned (U p) ∧ Below w.heap.size w w'))
    (cSA : Hid (∀ w, Lg w → Calls Tryd.prog 26 #[U a, U b] w fun e w' => e = .returned (U p) ∧ Below w.heap.size w w'))
    (cSS : Hid (∀ w, Calls Tryd.prog 27 #[U a, U b] w fun e w' => e = .returned (U q) ∧ Below w.heap.size w w'))
    (cSM : Hid (∀ w, Lg w → Calls Tryd.prog 28 #[U a, U b] w fun e w' => e = .returned (U r) ∧ Below w.heap.size w w')) :
    Calls Tryd.prog 12 #[U a, U b] w fun e w' => e = .returned (.bool true) ∧ Below w.heap.size w w' := by
  have EP := eqSame p hp
  have EQ := eqSame q hq
  have ER := eqSame r hr
  have rA0 : Res w.heap.size 24 (arr a) ((w.alloc (.cells (arr a) 24)).alloc (.cells (arr b) 24)) := (Res.new w 24 (arr a)).alloc _
  have rB0 : Res (w.heap.size + 1) 24 (arr b) ((w.alloc (.cells (arr a) 24)).alloc (.cells (arr b) 24)) := by
    have h := Res.new (w.alloc (.cells (arr a) 24)) 24 (arr b)
    rw [World.size_alloc] at h
    exact h
  have b0 : Below w.heap.size w ((w.alloc (.cells (arr a) 24)).alloc (.cells (arr b) 24)) := by go_grown
  have g0 : Lg ((w.alloc (.cells (arr a) 24)).alloc (.cells (arr b) 24)) := (hL.alloc _).alloc _
  have HL := Lib.hid hL.lt
  clear hL
  replace g0 := Lib.hid g0
  go_enter Tryd.func12, Tryd.ntmps12
  go_wp2_with fail
  refine (cA.out _).mono ?_
  rintro e w1 ⟨rfl, h1⟩
  have rA1 := rA0.keep h1
  have rB1 := rB0.keep h1
  have b1 := chain b0 h1
  have g1 := Lib.hid (g0.out.below h1)
  have zA := rA1.cells
  have lA := rA1.lt
  have zB := rB1.cells
  have lB := rB1.lt
  go_wp2_with fail
  refine (cS.out _).mono ?_
  rintro e w2 ⟨rfl, h2⟩
  clear zA lA zB lB
  have rA2 := (rA1.alloc _).keep h2
  have rB2 := (rB1.alloc _).keep h2
  have rX12 := (Res.new _ _ _).keep h2
  have b2 := chain (b1.alloc b1.size _) h2
  have g2 := Lib.hid ((g1.out.alloc _).below h2)
  have zA := rA2.cells
  have lA := rA2.lt
  have zB := rB2.cells
  have lB := rB2.lt
  have zX1 := rX12.cells
  have lX1 := rX12.lt
  go_wp2_with fail
  refine (cM.out _).mono ?_
  rintro e w3 ⟨rfl, h3⟩
  clear zA lA zB lB zX1 lX1
  have rA3 := (rA2.alloc _).keep h3
  have rB3 := (rB2.alloc _).keep h3
  have rX13 := (rX12.alloc _).keep h3
  have rX23 := (Res.new _ _ _).keep h3
  have b3 := chain (b2.alloc b2.size _) h3
  have g3 := Lib.hid ((g2.out.alloc _).below h3)
  have zA := rA3.cells
  have lA := rA3.lt
  have zB := rB3.cells
  have lB := rB3.lt
  have zX1 := rX13.cells
  have lX1 := rX13.lt
  have zX2 := rX23.cells
  have lX2 := rX23.lt
  have sB := rB1.lt
  have sX1 := rX12.lt
  have sX2 := rX23.lt
  have HL' := HL.out
  go_wp2_with fail
  refine (cP.out _).mono ?_
  rintro e w4 ⟨rfl, h4⟩
  clear zA lA zB lB zX1 lX1 zX2 lX2
  have rA4 := Res.keep (rA3.alloc _) h4
  have rB4 := Res.keep (rB3.alloc _) h4
  have rX14 := Res.keep (rX13.alloc _) h4
  have rX24 := Res.keep (rX23.alloc _) h4
  have rX34 := Res.keep (Res.newAt w3.heap.size _ _ (by simp)) h4
  have b4 := chain (belowA b3 _ (by first | exact b3.size | (simp; have := b3.size; omega))) h4
  have g4 := Lib.hid ((g3.out.alloc _).below h4)
  have zA := rA4.cells
  have lA := rA4.lt
  have zB := rB4.cells
  have lB := rB4.lt
  have zX1 := rX14.cells
  have lX1 := rX14.lt
  have zX2 := rX24.cells
  have lX2 := rX24.lt
  have zX3 := rX34.cells
  have lX3 := rX34.lt
  have s3 := rX34.lt
  have mX1 := rX14.marks
  go_wp2
  refine world_as (fun WW => Res w.heap.size 24 (arr a) WW ∧ Res (w.heap.size + 1) 24 (arr b) WW ∧ Res w1.heap.size 24 (arr p) WW ∧ Res w2.heap.size 24 (arr q) WW ∧ Res w3.heap.size 24 (arr r) WW ∧ Below w.heap.size w WW ∧ Lg WW) ⟨(rA4.far4 _ _ _ _ (by omega)), (rB4.far4 _ _ _ _ (by omega)), (rX14.put4 _ _ _ _), (rX24.far4 _ _ _ _ (by omega)), (rX34.far4 _ _ _ _ (by omega)), (below4 b4 _ _ _ _ (by omega)), (g4.out.far4 _ _ _ _ (by omega))⟩ ?_
  clear zA lA zB lB zX1 lX1 zX2 lX2 zX3 lX3 mX1
  rintro WW ⟨rA, rB, rP, rQ, rR, bz, gz⟩
  have zA := rA.cells
  have zB := rB.cells
  have zP := rP.cells
  have zQ := rQ.cells
  have zR := rR.cells
  replace bz := bz.drew
  replace gz := Lib.hid gz.drew
  go_region_held3 (fun w' => w'.cell? ⟨w.heap.size, 0, none⟩ = some (.int .u64 (limb a 0)) ∧ w'.cell? ⟨w.heap.size, 1, none⟩ = some (.int .u64 (limb a 1)) ∧ w'.cell? ⟨w.heap.size, 2, none⟩ = some (.int .u64 (limb a 2)) ∧ w'.cell? ⟨w.heap.size, 3, none⟩ = some (.int .u64 (limb a 3)) ∧ w'.cell? ⟨w.heap.size + 1, 0, none⟩ = some (.int .u64 (limb b 0)) ∧ w'.cell? ⟨w.heap.size + 1, 1, none⟩ = some (.int .u64 (limb b 1)) ∧ w'.cell? ⟨w.heap.size + 1, 2, none⟩ = some (.int .u64 (limb b 2)) ∧ w'.cell? ⟨w.heap.size + 1, 3, none⟩ = some (.int .u64 (limb b 3)) ∧ w'.cell? ⟨w1.heap.size, 0, none⟩ = some (.int .u64 (limb p 0)) ∧ w'.cell? ⟨w1.heap.size, 1, none⟩ = some (.int .u64 (limb p 1)) ∧ w'.cell? ⟨w1.heap.size, 2, none⟩ = some (.int .u64 (limb p 2)) ∧ w'.cell? ⟨w1.heap.size, 3, none⟩ = some (.int .u64 (limb p 3)) ∧ w'.cell? ⟨w2.heap.size, 0, none⟩ = some (.int .u64 (limb q 0)) ∧ w'.cell? ⟨w2.heap.size, 1, none⟩ = some (.int .u64 (limb q 1)) ∧ w'.cell? ⟨w2.heap.size, 2, none⟩ = some (.int .u64 (limb q 2)) ∧ w'.cell? ⟨w2.heap.size, 3, none⟩ = some (.int .u64 (limb q 3)) ∧ w'.cell? ⟨w3.heap.size, 0, none⟩ = some (.int .u64 (limb r 0)) ∧ w'.cell? ⟨w3.heap.size, 1, none⟩ = some (.int .u64 (limb r 1)) ∧ w'.cell? ⟨w3.heap.size, 2, none⟩ = some (.int .u64 (limb r 2)) ∧ w'.cell? ⟨w3.heap.size, 3, none⟩ = some (.int .u64 (limb r 3)))
    (first | (go_keep; done) | (go_split_ands; refine ⟨?_, ?_, ?_, ?_, ?_, ?_, ?_, ?_, ?_, ?_, ?_, ?_, ?_, ?_, ?_, ?_, ?_, ?_, ?_, ?_⟩ <;> (rw [hw.cell (World.block_lt_of_cell? _ _ (by assumption))]; assumption)))
    (first | (go_at_call 26; refine (cSA.out _ gz.out).mono ?_; rintro e w9 ⟨rfl, hw⟩; have bz := chain bz hw; have gz := Lib.hid (gz.out.below hw)) | (go_at_call 27; refine (cSS.out _).mono ?_; rintro e w9 ⟨rfl, hw⟩; have bz := chain bz hw; have gz := Lib.hid (gz.out.below hw)) | (go_at_call 28; refine (cSM.out _ gz.out).mono ?_; rintro e w9 ⟨rfl, hw⟩; have bz := chain bz hw; have gz := Lib.hid (gz.out.below hw)))
  go_wp2
  go_ret
  exact ⟨rfl, bz⟩

set_option maxRecDepth 100000 in
set_option maxHeartbeats 8000000 in
theorem sag_xfz (a b p q r : Nat) (w : World) (hL : Lg w) (hp : p < B256) (hq : q < B256) (hr : r < B256)
    (cA : Hid (∀ w, Calls Tryd.prog 7 #[U a, U b] w fun e w' => e = .returned (.tuple #[(.agg #[.int .u64 0, .int .u64 0, .int .u64 0, .int .u64 0]), .int .i64 4]) ∧ Below w.heap.size w w'))
    (cS : Hid (∀ w, Calls Tryd.prog 9 #[U a, U b] w fun e w' => e = .returned (.tuple #[U q, .int .i64 0]) ∧ Below w.heap.size w w'))
    (cM : Hid (∀ w, Calls Tryd.prog 11 #[U a, U b] w fun e w' => e = .returned (.tuple #[(.agg #[.int .u64 0, .int .u64 0, .int .u64 0, .int .u64 0]), .int .i64 4]) ∧ Below w.heap.size w w'))
    (cP : Hid (∀ w, Calls Tryd.prog 25 #[] w fun e w' => e = .returned (U p) ∧ Below w.heap.size w w'))
    (cR : Hid (∀ w, Calls Tryd.prog 25 #[] w fun e w' => e = .returned (U r) ∧ Below w.heap.size w w'))
    (cSA : Hid (∀ w, Lg w → Calls Tryd.prog 26 #[U a, U b] w fun e w' => e = .returned (U p) ∧ Below w.heap.size w w'))
    (cSS : Hid (∀ w, Calls Tryd.prog 27 #[U a, U b] w fun e w' => e = .returned (U q) ∧ Below w.heap.size w w'))
    (cSM : Hid (∀ w, Lg w → Calls Tryd.prog 28 #[U a, U b] w fun e w' => e = .returned (U r) ∧ Below w.heap.size w w')) :
    Calls Tryd.prog 12 #[U a, U b] w fun e w' => e = .returned (.bool true) ∧ Below w.heap.size w w' := by
  have EP := eqSame p hp
  have EQ := eqSame q hq
  have ER := eqSame r hr
  have rA0 : Res w.heap.size 24 (arr a) ((w.alloc (.cells (arr a) 24)).alloc (.cells (arr b) 24)) := (Res.new w 24 (arr a)).alloc _
  have rB0 : Res (w.heap.size + 1) 24 (arr b) ((w.alloc (.cells (arr a) 24)).alloc (.cells (arr b) 24)) := by
    have h := Res.new (w.alloc (.cells (arr a) 24)) 24 (arr b)
    rw [World.size_alloc] at h
    exact h
  have b0 : Below w.heap.size w ((w.alloc (.cells (arr a) 24)).alloc (.cells (arr b) 24)) := by go_grown
  have g0 : Lg ((w.alloc (.cells (arr a) 24)).alloc (.cells (arr b) 24)) := (hL.alloc _).alloc _
  have HL := Lib.hid hL.lt
  clear hL
  replace g0 := Lib.hid g0
  go_enter Tryd.func12, Tryd.ntmps12
  go_wp2_with fail
  refine (cA.out _).mono ?_
  rintro e w1 ⟨rfl, h1⟩
  have rA1 := rA0.keep h1
  have rB1 := rB0.keep h1
  have b1 := chain b0 h1
  have g1 := Lib.hid (g0.out.below h1)
  have zA := rA1.cells
  have lA := rA1.lt
  have zB := rB1.cells
  have lB := rB1.lt
  go_wp2_with fail
  refine (cS.out _).mono ?_
  rintro e w2 ⟨rfl, h2⟩
  clear zA lA zB lB
  have rA2 := (rA1.alloc _).keep h2
  have rB2 := (rB1.alloc _).keep h2
  have rX12 := (Res.new _ _ _).keep h2
  have b2 := chain (b1.alloc b1.size _) h2
  have g2 := Lib.hid ((g1.out.alloc _).below h2)
  have zA := rA2.cells
  have lA := rA2.lt
  have zB := rB2.cells
  have lB := rB2.lt
  have zX1 := rX12.cells
  have lX1 := rX12.lt
  go_wp2_with fail
  refine (cM.out _).mono ?_
  rintro e w3 ⟨rfl, h3⟩
  clear zA lA zB lB zX1 lX1
  have rA3 := (rA2.alloc _).keep h3
  have rB3 := (rB2.alloc _).keep h3
  have rX13 := (rX12.alloc _).keep h3
  have rX23 := (Res.new _ _ _).keep h3
  have b3 := chain (b2.alloc b2.size _) h3
  have g3 := Lib.hid ((g2.out.alloc _).below h3)
  have zA := rA3.cells
  have lA := rA3.lt
  have zB := rB3.cells
  have lB := rB3.lt
  have zX1 := rX13.cells
  have lX1 := rX13.lt
  have zX2 := rX23.cells
  have lX2 := rX23.lt
  have sB := rB1.lt
  have sX1 := rX12.lt
  have sX2 := rX23.lt
  have HL' := HL.out
  go_wp2_with fail
  refine (cP.out _).mono ?_
  rintro e w4 ⟨rfl, h4⟩
  clear zA lA zB lB zX1 lX1 zX2 lX2
  have rA4 := Res.keep (rA3.alloc _) h4
  have rB4 := Res.keep (rB3.alloc _) h4
  have rX14 := Res.keep (rX13.alloc _) h4
  have rX24 := Res.keep (rX23.alloc _) h4
  have rX34 := Res.keep (Res.newAt w3.heap.size _ _ (by simp)) h4
  have b4 := chain (belowA b3 _ (by first | exact b3.size | (simp; have := b3.size; omega))) h4
  have g4 := Lib.hid ((g3.out.alloc _).below h4)
  have zA := rA4.cells
  have lA := rA4.lt
  have zB := rB4.cells
  have lB := rB4.lt
  have zX1 := rX14.cells
  have lX1 := rX14.lt
  have zX2 := rX24.cells
  have lX2 := rX24.lt
  have zX3 := rX34.cells
  have lX3 := rX34.lt
  have s3 := rX34.lt
  have mX1 := rX14.marks
  go_wp2_with fail
  refine (cR.out _).mono ?_
  rintro e w5 ⟨rfl, h5⟩
  clear zA lA zB lB zX1 lX1 zX2 lX2 zX3 lX3
  have rA5 := Res.keep (rA4.far4 _ _ _ _ (by omega)) h5
  have rB5 := Res.keep (rB4.far4 _ _ _ _ (by omega)) h5
  have rX15 := Res.keep (rX14.put4 _ _ _ _) h5
  have rX25 := Res.keep (rX24.far4 _ _ _ _ (by omega)) h5
  have rX35 := Res.keep (rX34.far4 _ _ _ _ (by omega)) h5
  have b5 := chain (below4 b4 _ _ _ _ (by omega)) h5
  have g5 := Lib.hid ((g4.out.far4 _ _ _ _ (by omega)).below h5)
  have zA := rA5.cells
  have lA := rA5.lt
  have zB := rB5.cells
  have lB := rB5.lt
  have zX1 := rX15.cells
  have lX1 := rX15.lt
  have zX2 := rX25.cells
  have lX2 := rX25.lt
  have zX3 := rX35.cells
  have lX3 := rX35.lt
  clear mX1
  have mX3 := rX35.marks
  go_wp2
  refine world_as (fun WW => Res w.heap.size 24 (arr a) WW ∧ Res (w.heap.size + 1) 24 (arr b) WW ∧ Res w1.heap.size 24 (arr p) WW ∧ Res w2.heap.size 24 (arr q) WW ∧ Res w3.heap.size 24 (arr r) WW ∧ Below w.heap.size w WW ∧ Lg WW) ⟨(rA5.far4 _ _ _ _ (by omega)), (rB5.far4 _ _ _ _ (by omega)), (rX15.far4 _ _ _ _ (by omega)), (rX25.far4 _ _ _ _ (by omega)), (rX35.put4 _ _ _ _), (below4 b5 _ _ _ _ (by omega)), (g5.out.far4 _ _ _ _ (by omega))⟩ ?_
  clear zA lA zB lB zX1 lX1 zX2 lX2 zX3 lX3 mX3
  rintro WW ⟨rA, rB, rP, rQ, rR, bz, gz⟩
  have zA := rA.cells
  have zB := rB.cells
  have zP := rP.cells
  have zQ := rQ.cells
  have zR := rR.cells
  replace bz := bz.drew
  replace gz := Lib.hid gz.drew
  go_region_held3 (fun w' => w'.cell? ⟨w.heap.size, 0, none⟩ = some (.int .u64 (limb a 0)) ∧ w'.cell? ⟨w.heap.size, 1, none⟩ = some (.int .u64 (limb a 1)) ∧ w'.cell? ⟨w.heap.size, 2, none⟩ = some (.int .u64 (limb a 2)) ∧ w'.cell? ⟨w.heap.size, 3, none⟩ = some (.int .u64 (limb a 3)) ∧ w'.cell? ⟨w.heap.size + 1, 0, none⟩ = some (.int .u64 (limb b 0)) ∧ w'.cell? ⟨w.heap.size + 1, 1, none⟩ = some (.int .u64 (limb b 1)) ∧ w'.cell? ⟨w.heap.size + 1, 2, none⟩ = some (.int .u64 (limb b 2)) ∧ w'.cell? ⟨w.heap.size + 1, 3, none⟩ = some (.int .u64 (limb b 3)) ∧ w'.cell? ⟨w1.heap.size, 0, none⟩ = some (.int .u64 (limb p 0)) ∧ w'.cell? ⟨w1.heap.size, 1, none⟩ = some (.int .u64 (limb p 1)) ∧ w'.cell? ⟨w1.heap.size, 2, none⟩ = some (.int .u64 (limb p 2)) ∧ w'.cell? ⟨w1.heap.size, 3, none⟩ = some (.int .u64 (limb p 3)) ∧ w'.cell? ⟨w2.heap.size, 0, none⟩ = some (.int .u64 (limb q 0)) ∧ w'.cell? ⟨w2.heap.size, 1, none⟩ = some (.int .u64 (limb q 1)) ∧ w'.cell? ⟨w2.heap.size, 2, none⟩ = some (.int .u64 (limb q 2)) ∧ w'.cell? ⟨w2.heap.size, 3, none⟩ = some (.int .u64 (limb q 3)) ∧ w'.cell? ⟨w3.heap.size, 0, none⟩ = some (.int .u64 (limb r 0)) ∧ w'.cell? ⟨w3.heap.size, 1, none⟩ = some (.int .u64 (limb r 1)) ∧ w'.cell? ⟨w3.heap.size, 2, none⟩ = some (.int .u64 (limb r 2)) ∧ w'.cell? ⟨w3.heap.size, 3, none⟩ = some (.int .u64 (limb r 3)))
    (first | (go_keep; done) | (go_split_ands; refine ⟨?_, ?_, ?_, ?_, ?_, ?_, ?_, ?_, ?_, ?_, ?_, ?_, ?_, ?_, ?_, ?_, ?_, ?_, ?_, ?_⟩ <;> (rw [hw.cell (World.block_lt_of_cell? _ _ (by assumption))]; assumption)))
    (first | (go_at_call 26; refine (cSA.out _ gz.out).mono ?_; rintro e w9 ⟨rfl, hw⟩; have bz := chain bz hw; have gz := Lib.hid (gz.out.below hw)) | (go_at_call 27; refine (cSS.out _).mono ?_; rintro e w9 ⟨rfl, hw⟩; have bz := chain bz hw; have gz := Lib.hid (gz.out.below hw)) | (go_at_call 28; refine (cSM.out _ gz.out).mono ?_; rintro e w9 ⟨rfl, hw⟩; have bz := chain bz hw; have gz := Lib.hid (gz.out.below hw)))
  go_wp2
  go_ret
  exact ⟨rfl, bz⟩

set_option maxRecDepth 100000 in
set_option maxHeartbeats 8000000 in
theorem sag_xyg (a b p r : Nat) (w : World) (hL : Lg w) (hp : p < B256) (hr : r < B256)
    (cA : Hid (∀ w, Calls Tryd.prog 7 #[U a, U b] w fun e w' => e = .returned (.tuple #[(.agg #[.int .u64 0, .int .u64 0, .int .u64 0, .int .u64 0]), .int .i64 4]) ∧ Below w.heap.size w w'))
    (cS : Hid (∀ w, Calls Tryd.prog 9 #[U a, U b] w fun e w' => e = .returned (.tuple #[(.agg #[.int .u64 0, .int .u64 0, .int .u64 0, .int .u64 0]), .int .i64 4]) ∧ Below w.heap.size w w'))
    (cM : Hid (∀ w, Calls Tryd.prog 11 #[U a, U b] w fun e w' => e = .returned (.tuple #[U r, .int .i64 0]) ∧ Below w.heap.size w w'))
    (cP : Hid (∀ w, Calls Tryd.prog 25 #[] w fun e w' => e = .returned (U p) ∧ Below w.heap.size w w'))
    (cSA : Hid (∀ w, Lg w → Calls Tryd.prog 26 #[U a, U b] w fun e w' => e = .returned (U p) ∧ Below w.heap.size w w'))
    (cSS : Hid (∀ w, Calls Tryd.prog 27 #[U a, U b] w fun e w' => e = .returned ((.agg #[.int .u64 0, .int .u64 0, .int .u64 0, .int .u64 0])) ∧ Below w.heap.size w w'))
    (cSM : Hid (∀ w, Lg w → Calls Tryd.prog 28 #[U a, U b] w fun e w' => e = .returned (U r) ∧ Below w.heap.size w w')) :
    Calls Tryd.prog 12 #[U a, U b] w fun e w' => e = .returned (.bool true) ∧ Below w.heap.size w w' := by
  have EP := eqSame p hp
  have EQ : ∀ w, (Op.equalIn 10000 24 (.agg #[.int .u64 0, .int .u64 0, .int .u64 0, .int .u64 0]) (.agg #[.int .u64 0, .int .u64 0, .int .u64 0, .int .u64 0])).run Tryd.prog w = .ok true w := fun w => eq4_run 0 0 0 0 0 0 0 0 w
  have ER := eqSame r hr
  have rA0 : Res w.heap.size 24 (arr a) ((w.alloc (.cells (arr a) 24)).alloc (.cells (arr b) 24)) := (Res.new w 24 (arr a)).alloc _
  have rB0 : Res (w.heap.size + 1) 24 (arr b) ((w.alloc (.cells (arr a) 24)).alloc (.cells (arr b) 24)) := by
    have h := Res.new (w.alloc (.cells (arr a) 24)) 24 (arr b)
    rw [World.size_alloc] at h
    exact h
  have b0 : Below w.heap.size w ((w.alloc (.cells (arr a) 24)).alloc (.cells (arr b) 24)) := by go_grown
  have g0 : Lg ((w.alloc (.cells (arr a) 24)).alloc (.cells (arr b) 24)) := (hL.alloc _).alloc _
  have HL := Lib.hid hL.lt
  clear hL
  replace g0 := Lib.hid g0
  go_enter Tryd.func12, Tryd.ntmps12
  go_wp2_with fail
  refine (cA.out _).mono ?_
  rintro e w1 ⟨rfl, h1⟩
  have rA1 := rA0.keep h1
  have rB1 := rB0.keep h1
  have b1 := chain b0 h1
  have g1 := Lib.hid (g0.out.below h1)
  have zA := rA1.cells
  have lA := rA1.lt
  have zB := rB1.cells
  have lB := rB1.lt
  go_wp2_with fail
  refine (cS.out _).mono ?_
  rintro e w2 ⟨rfl, h2⟩
  clear zA lA zB lB
  have rA2 := (rA1.alloc _).keep h2
  have rB2 := (rB1.alloc _).keep h2
  have rX12 := (Res.new _ _ _).keep h2
  have b2 := chain (b1.alloc b1.size _) h2
  have g2 := Lib.hid ((g1.out.alloc _).below h2)
  have zA := rA2.cells
  have lA := rA2.lt
  have zB := rB2.cells
  have lB := rB2.lt
  have zX1 := rX12.cells
  have lX1 := rX12.lt
  go_wp2_with fail
  refine (cM.out _).mono ?_
  rintro e w3 ⟨rfl, h3⟩
  clear zA lA zB lB zX1 lX1
  have rA3 := (rA2.alloc _).keep h3
  have rB3 := (rB2.alloc _).keep h3
  have rX13 := (rX12.alloc _).keep h3
  have rX23 := (Res.new _ _ _).keep h3
  have b3 := chain (b2.alloc b2.size _) h3
  have g3 := Lib.hid ((g2.out.alloc _).below h3)
  have zA := rA3.cells
  have lA := rA3.lt
  have zB := rB3.cells
  have lB := rB3.lt
  have zX1 := rX13.cells
  have lX1 := rX13.lt
  have zX2 := rX23.cells
  have lX2 := rX23.lt
  have sB := rB1.lt
  have sX1 := rX12.lt
  have sX2 := rX23.lt
  have HL' := HL.out
  go_wp2_with fail
  refine (cP.out _).mono ?_
  rintro e w4 ⟨rfl, h4⟩
  clear zA lA zB lB zX1 lX1 zX2 lX2
  have rA4 := Res.keep (rA3.alloc _) h4
  have rB4 := Res.keep (rB3.alloc _) h4
  have rX14 := Res.keep (rX13.alloc _) h4
  have rX24 := Res.keep (rX23.alloc _) h4
  have rX34 := Res.keep (Res.newAt w3.heap.size _ _ (by simp)) h4
  have b4 := chain (belowA b3 _ (by first | exact b3.size | (simp; have := b3.size; omega))) h4
  have g4 := Lib.hid ((g3.out.alloc _).below h4)
  have zA := rA4.cells
  have lA := rA4.lt
  have zB := rB4.cells
  have lB := rB4.lt
  have zX1 := rX14.cells
  have lX1 := rX14.lt
  have zX2 := rX24.cells
  have lX2 := rX24.lt
  have zX3 := rX34.cells
  have lX3 := rX34.lt
  have s3 := rX34.lt
  have mX1 := rX14.marks
  have mX2 := rX24.marks
  go_wp2
  refine world_as (fun WW => Res w.heap.size 24 (arr a) WW ∧ Res (w.heap.size + 1) 24 (arr b) WW ∧ Res w1.heap.size 24 (arr p) WW ∧ Res w2.heap.size 24 #[.int .u64 0, .int .u64 0, .int .u64 0, .int .u64 0] WW ∧ Res w3.heap.size 24 (arr r) WW ∧ Below w.heap.size w WW ∧ Lg WW) ⟨((rA4.far4 _ _ _ _ (by omega)).far4 _ _ _ _ (by omega)), ((rB4.far4 _ _ _ _ (by omega)).far4 _ _ _ _ (by omega)), ((rX14.put4 _ _ _ _).far4 _ _ _ _ (by omega)), ((rX24.far4 _ _ _ _ (by omega)).put4 _ _ _ _), ((rX34.far4 _ _ _ _ (by omega)).far4 _ _ _ _ (by omega)), (below4 (below4 b4 _ _ _ _ (by omega)) _ _ _ _ (by omega)), ((g4.out.far4 _ _ _ _ (by omega)).far4 _ _ _ _ (by omega))⟩ ?_
  clear zA lA zB lB zX1 lX1 zX2 lX2 zX3 lX3 mX1 mX2
  rintro WW ⟨rA, rB, rP, rQ, rR, bz, gz⟩
  have zA := rA.cells
  have zB := rB.cells
  have zP := rP.cells
  have zQ := rQ.cells
  have zR := rR.cells
  replace bz := bz.drew
  replace gz := Lib.hid gz.drew
  go_region_held3 (fun w' => w'.cell? ⟨w.heap.size, 0, none⟩ = some (.int .u64 (limb a 0)) ∧ w'.cell? ⟨w.heap.size, 1, none⟩ = some (.int .u64 (limb a 1)) ∧ w'.cell? ⟨w.heap.size, 2, none⟩ = some (.int .u64 (limb a 2)) ∧ w'.cell? ⟨w.heap.size, 3, none⟩ = some (.int .u64 (limb a 3)) ∧ w'.cell? ⟨w.heap.size + 1, 0, none⟩ = some (.int .u64 (limb b 0)) ∧ w'.cell? ⟨w.heap.size + 1, 1, none⟩ = some (.int .u64 (limb b 1)) ∧ w'.cell? ⟨w.heap.size + 1, 2, none⟩ = some (.int .u64 (limb b 2)) ∧ w'.cell? ⟨w.heap.size + 1, 3, none⟩ = some (.int .u64 (limb b 3)) ∧ w'.cell? ⟨w1.heap.size, 0, none⟩ = some (.int .u64 (limb p 0)) ∧ w'.cell? ⟨w1.heap.size, 1, none⟩ = some (.int .u64 (limb p 1)) ∧ w'.cell? ⟨w1.heap.size, 2, none⟩ = some (.int .u64 (limb p 2)) ∧ w'.cell? ⟨w1.heap.size, 3, none⟩ = some (.int .u64 (limb p 3)) ∧ w'.cell? ⟨w2.heap.size, 0, none⟩ = some (.int .u64 0) ∧ w'.cell? ⟨w2.heap.size, 1, none⟩ = some (.int .u64 0) ∧ w'.cell? ⟨w2.heap.size, 2, none⟩ = some (.int .u64 0) ∧ w'.cell? ⟨w2.heap.size, 3, none⟩ = some (.int .u64 0) ∧ w'.cell? ⟨w3.heap.size, 0, none⟩ = some (.int .u64 (limb r 0)) ∧ w'.cell? ⟨w3.heap.size, 1, none⟩ = some (.int .u64 (limb r 1)) ∧ w'.cell? ⟨w3.heap.size, 2, none⟩ = some (.int .u64 (limb r 2)) ∧ w'.cell? ⟨w3.heap.size, 3, none⟩ = some (.int .u64 (limb r 3)))
    (first | (go_keep; done) | (go_split_ands; refine ⟨?_, ?_, ?_, ?_, ?_, ?_, ?_, ?_, ?_, ?_, ?_, ?_, ?_, ?_, ?_, ?_, ?_, ?_, ?_, ?_⟩ <;> (rw [hw.cell (World.block_lt_of_cell? _ _ (by assumption))]; assumption)))
    (first | (go_at_call 26; refine (cSA.out _ gz.out).mono ?_; rintro e w9 ⟨rfl, hw⟩; have bz := chain bz hw; have gz := Lib.hid (gz.out.below hw)) | (go_at_call 27; refine (cSS.out _).mono ?_; rintro e w9 ⟨rfl, hw⟩; have bz := chain bz hw; have gz := Lib.hid (gz.out.below hw)) | (go_at_call 28; refine (cSM.out _ gz.out).mono ?_; rintro e w9 ⟨rfl, hw⟩; have bz := chain bz hw; have gz := Lib.hid (gz.out.below hw)))
  go_wp2
  go_ret
  exact ⟨rfl, bz⟩

set_option maxRecDepth 100000 in
set_option maxHeartbeats 8000000 in
theorem sag_xyz (a b p r : Nat) (w : World) (hL : Lg w) (hp : p < B256) (hr : r < B256)
    (cA : Hid (∀ w, Calls Tryd.prog 7 #[U a, U b] w fun e w' => e = .returned (.tuple #[(.agg #[.int .u64 0, .int .u64 0, .int .u64 0, .int .u64 0]), .int .i64 4]) ∧ Below w.heap.size w w'))
    (cS : Hid (∀ w, Calls Tryd.prog 9 #[U a, U b] w fun e w' => e = .returned (.tuple #[(.agg #[.int .u64 0, .int .u64 0, .int .u64 0, .int .u64 0]), .int .i64 4]) ∧ Below w.heap.size w w'))
    (cM : Hid (∀ w, Calls Tryd.prog 11 #[U a, U b] w fun e w' => e = .returned (.tuple #[(.agg #[.int .u64 0, .int .u64 0, .int .u64 0, .int .u64 0]), .int .i64 4]) ∧ Below w.heap.size w w'))
    (cP : Hid (∀ w, Calls Tryd.prog 25 #[] w fun e w' => e = .returned (U p) ∧ Below w.heap.size w w'))
    (cR : Hid (∀ w, Calls Tryd.prog 25 #[] w fun e w' => e = .returned (U r) ∧ Below w.heap.size w w'))
    (cSA : Hid (∀ w, Lg w → Calls Tryd.prog 26 #[U a, U b] w fun e w' => e = .returned (U p) ∧ Below w.heap.size w w'))
    (cSS : Hid (∀ w, Calls Tryd.prog 27 #[U a, U b] w fun e w' => e = .returned ((.agg #[.int .u64 0, .int .u64 0, .int .u64 0, .int .u64 0])) ∧ Below w.heap.size w w'))
    (cSM : Hid (∀ w, Lg w → Calls Tryd.prog 28 #[U a, U b] w fun e w' => e = .returned (U r) ∧ Below w.heap.size w w')) :
    Calls Tryd.prog 12 #[U a, U b] w fun e w' => e = .returned (.bool true) ∧ Below w.heap.size w w' := by
  have EP := eqSame p hp
  have EQ : ∀ w, (Op.equalIn 10000 24 (.agg #[.int .u64 0, .int .u64 0, .int .u64 0, .int .u64 0]) (.agg #[.int .u64 0, .int .u64 0, .int .u64 0, .int .u64 0])).run Tryd.prog w = .ok true w := fun w => eq4_run 0 0 0 0 0 0 0 0 w
  have ER := eqSame r hr
  have rA0 : Res w.heap.size 24 (arr a) ((w.alloc (.cells (arr a) 24)).alloc (.cells (arr b) 24)) := (Res.new w 24 (arr a)).alloc _
  have rB0 : Res (w.heap.size + 1) 24 (arr b) ((w.alloc (.cells (arr a) 24)).alloc (.cells (arr b) 24)) := by
    have h := Res.new (w.alloc (.cells (arr a) 24)) 24 (arr b)
    rw [World.size_alloc] at h
    exact h
  have b0 : Below w.heap.size w ((w.alloc (.cells (arr a) 24)).alloc (.cells (arr b) 24)) := by go_grown
  have g0 : Lg ((w.alloc (.cells (arr a) 24)).alloc (.cells (arr b) 24)) := (hL.alloc _).alloc _
  have HL := Lib.hid hL.lt
  clear hL
  replace g0 := Lib.hid g0
  go_enter Tryd.func12, Tryd.ntmps12
  go_wp2_with fail
  refine (cA.out _).mono ?_
  rintro e w1 ⟨rfl, h1⟩
  have rA1 := rA0.keep h1
  have rB1 := rB0.keep h1
  have b1 := chain b0 h1
  have g1 := Lib.hid (g0.out.below h1)
  have zA := rA1.cells
  have lA := rA1.lt
  have zB := rB1.cells
  have lB := rB1.lt
  go_wp2_with fail
  refine (cS.out _).mono ?_
  rintro e w2 ⟨rfl, h2⟩
  clear zA lA zB lB
  have rA2 := (rA1.alloc _).keep h2
  have rB2 := (rB1.alloc _).keep h2
  have rX12 := (Res.new _ _ _).keep h2
  have b2 := chain (b1.alloc b1.size _) h2
  have g2 := Lib.hid ((g1.out.alloc _).below h2)
  have zA := rA2.cells
  have lA := rA2.lt
  have zB := rB2.cells
  have lB := rB2.lt
  have zX1 := rX12.cells
  have lX1 := rX12.lt
  go_wp2_with fail
  refine (cM.out _).mono ?_
  rintro e w3 ⟨rfl, h3⟩
  clear zA lA zB lB zX1 lX1
  have rA3 := (rA2.alloc _).keep h3
  have rB3 := (rB2.alloc _).keep h3
  have rX13 := (rX12.alloc _).keep h3
  have rX23 := (Res.new _ _ _).keep h3
  have b3 := chain (b2.alloc b2.size _) h3
  have g3 := Lib.hid ((g2.out.alloc _).below h3)
  have zA := rA3.cells
  have lA := rA3.lt
  have zB := rB3.cells
  have lB := rB3.lt
  have zX1 := rX13.cells
  have lX1 := rX13.lt
  have zX2 := rX23.cells
  have lX2 := rX23.lt
  have sB := rB1.lt
  have sX1 := rX12.lt
  have sX2 := rX23.lt
  have HL' := HL.out
  go_wp2_with fail
  refine (cP.out _).mono ?_
  rintro e w4 ⟨rfl, h4⟩
  clear zA lA zB lB zX1 lX1 zX2 lX2
  have rA4 := Res.keep (rA3.alloc _) h4
  have rB4 := Res.keep (rB3.alloc _) h4
  have rX14 := Res.keep (rX13.alloc _) h4
  have rX24 := Res.keep (rX23.alloc _) h4
  have rX34 := Res.keep (Res.newAt w3.heap.size _ _ (by simp)) h4
  have b4 := chain (belowA b3 _ (by first | exact b3.size | (simp; have := b3.size; omega))) h4
  have g4 := Lib.hid ((g3.out.alloc _).below h4)
  have zA := rA4.cells
  have lA := rA4.lt
  have zB := rB4.cells
  have lB := rB4.lt
  have zX1 := rX14.cells
  have lX1 := rX14.lt
  have zX2 := rX24.cells
  have lX2 := rX24.lt
  have zX3 := rX34.cells
  have lX3 := rX34.lt
  have s3 := rX34.lt
  have mX1 := rX14.marks
  have mX2 := rX24.marks
  go_wp2_with fail
  refine (cR.out _).mono ?_
  rintro e w5 ⟨rfl, h5⟩
  clear zA lA zB lB zX1 lX1 zX2 lX2 zX3 lX3
  have rA5 := Res.keep ((rA4.far4 _ _ _ _ (by omega)).far4 _ _ _ _ (by omega)) h5
  have rB5 := Res.keep ((rB4.far4 _ _ _ _ (by omega)).far4 _ _ _ _ (by omega)) h5
  have rX15 := Res.keep ((rX14.put4 _ _ _ _).far4 _ _ _ _ (by omega)) h5
  have rX25 := Res.keep ((rX24.far4 _ _ _ _ (by omega)).put4 _ _ _ _) h5
  have rX35 := Res.keep ((rX34.far4 _ _ _ _ (by omega)).far4 _ _ _ _ (by omega)) h5
  have b5 := chain (below4 (below4 b4 _ _ _ _ (by omega)) _ _ _ _ (by omega)) h5
  have g5 := Lib.hid (((g4.out.far4 _ _ _ _ (by omega)).far4 _ _ _ _ (by omega)).below h5)
  have zA := rA5.cells
  have lA := rA5.lt
  have zB := rB5.cells
  have lB := rB5.lt
  have zX1 := rX15.cells
  have lX1 := rX15.lt
  have zX2 := rX25.cells
  have lX2 := rX25.lt
  have zX3 := rX35.cells
  have lX3 := rX35.lt
  clear mX1
  clear mX2
  have mX3 := rX35.marks
  go_wp2
  refine world_as (fun WW => Res w.heap.size 24 (arr a) WW ∧ Res (w.heap.size + 1) 24 (arr b) WW ∧ Res w1.heap.size 24 (arr p) WW ∧ Res w2.heap.size 24 #[.int .u64 0, .int .u64 0, .int .u64 0, .int .u64 0] WW ∧ Res w3.heap.size 24 (arr r) WW ∧ Below w.heap.size w WW ∧ Lg WW) ⟨(rA5.far4 _ _ _ _ (by omega)), (rB5.far4 _ _ _ _ (by omega)), (rX15.far4 _ _ _ _ (by omega)), (rX25.far4 _ _ _ _ (by omega)), (rX35.put4 _ _ _ _), (below4 b5 _ _ _ _ (by omega)), (g5.out.far4 _ _ _ _ (by omega))⟩ ?_
  clear zA lA zB lB zX1 lX1 zX2 lX2 zX3 lX3 mX3
  rintro WW ⟨rA, rB, rP, rQ, rR, bz, gz⟩
  have zA := rA.cells
  have zB := rB.cells
  have zP := rP.cells
  have zQ := rQ.cells
  have zR := rR.cells
  replace bz := bz.drew
  replace gz := Lib.hid gz.drew
  go_region_held3 (fun w' => w'.cell? ⟨w.heap.size, 0, none⟩ = some (.int .u64 (limb a 0)) ∧ w'.cell? ⟨w.heap.size, 1, none⟩ = some (.int .u64 (limb a 1)) ∧ w'.cell? ⟨w.heap.size, 2, none⟩ = some (.int .u64 (limb a 2)) ∧ w'.cell? ⟨w.heap.size, 3, none⟩ = some (.int .u64 (limb a 3)) ∧ w'.cell? ⟨w.heap.size + 1, 0, none⟩ = some (.int .u64 (limb b 0)) ∧ w'.cell? ⟨w.heap.size + 1, 1, none⟩ = some (.int .u64 (limb b 1)) ∧ w'.cell? ⟨w.heap.size + 1, 2, none⟩ = some (.int .u64 (limb b 2)) ∧ w'.cell? ⟨w.heap.size + 1, 3, none⟩ = some (.int .u64 (limb b 3)) ∧ w'.cell? ⟨w1.heap.size, 0, none⟩ = some (.int .u64 (limb p 0)) ∧ w'.cell? ⟨w1.heap.size, 1, none⟩ = some (.int .u64 (limb p 1)) ∧ w'.cell? ⟨w1.heap.size, 2, none⟩ = some (.int .u64 (limb p 2)) ∧ w'.cell? ⟨w1.heap.size, 3, none⟩ = some (.int .u64 (limb p 3)) ∧ w'.cell? ⟨w2.heap.size, 0, none⟩ = some (.int .u64 0) ∧ w'.cell? ⟨w2.heap.size, 1, none⟩ = some (.int .u64 0) ∧ w'.cell? ⟨w2.heap.size, 2, none⟩ = some (.int .u64 0) ∧ w'.cell? ⟨w2.heap.size, 3, none⟩ = some (.int .u64 0) ∧ w'.cell? ⟨w3.heap.size, 0, none⟩ = some (.int .u64 (limb r 0)) ∧ w'.cell? ⟨w3.heap.size, 1, none⟩ = some (.int .u64 (limb r 1)) ∧ w'.cell? ⟨w3.heap.size, 2, none⟩ = some (.int .u64 (limb r 2)) ∧ w'.cell? ⟨w3.heap.size, 3, none⟩ = some (.int .u64 (limb r 3)))
    (first | (go_keep; done) | (go_split_ands; refine ⟨?_, ?_, ?_, ?_, ?_, ?_, ?_, ?_, ?_, ?_, ?_, ?_, ?_, ?_, ?_, ?_, ?_, ?_, ?_, ?_⟩ <;> (rw [hw.cell (World.block_lt_of_cell? _ _ (by assumption))]; assumption)))
    (first | (go_at_call 26; refine (cSA.out _ gz.out).mono ?_; rintro e w9 ⟨rfl, hw⟩; have bz := chain bz hw; have gz := Lib.hid (gz.out.below hw)) | (go_at_call 27; refine (cSS.out _).mono ?_; rintro e w9 ⟨rfl, hw⟩; have bz := chain bz hw; have gz := Lib.hid (gz.out.below hw)) | (go_at_call 28; refine (cSM.out _ gz.out).mono ?_; rintro e w9 ⟨rfl, hw⟩; have bz := chain bz hw; have gz := Lib.hid (gz.out.below hw)))
  go_wp2
  go_ret
  exact ⟨rfl, bz⟩

theorem sag_any (a b : Nat) (ha : a < B256) (hb : b < B256) (w : World) (hL : Lg w) :
    Calls Tryd.prog 12 #[U a, U b] w fun e w' => e = .returned (.bool true) ∧ Below w.heap.size w w' := by
  have cSA : Hid (∀ w, Lg w → Calls Tryd.prog 26 #[U a, U b] w fun e w' => e = .returned (U (satA a b)) ∧ Below w.heap.size w w') := fun w h => satadd_any a b ha hb w h
  have cSM : Hid (∀ w, Lg w → Calls Tryd.prog 28 #[U a, U b] w fun e w' => e = .returned (U (satM a b)) ∧ Below w.heap.size w w') := fun w h => satmul_any a b ha hb w h
  have cSS : Hid (∀ w, Calls Tryd.prog 27 #[U a, U b] w fun e w' => e = .returned (U (subR a b)) ∧ Below w.heap.size w w') := fun w => satsub_any a b ha hb w
  have cA : Hid (∀ w, Calls Tryd.prog 7 #[U a, U b] w fun e w' => e = .returned (.tuple #[U (addR a b), .int .i64 (addE a b)]) ∧ Below w.heap.size w w') := fun w => radd256 a b ha hb w
  have cS : Hid (∀ w, Calls Tryd.prog 9 #[U a, U b] w fun e w' => e = .returned (.tuple #[U (subR a b), .int .i64 (subE a b)]) ∧ Below w.heap.size w w') := fun w => rsub256_any a b ha hb w
  have cM : Hid (∀ w, Calls Tryd.prog 11 #[U a, U b] w fun e w' => e = .returned (.tuple #[U (mulR a b), .int .i64 (mulE a b)]) ∧ Below w.heap.size w w') := fun w => rmul256 a b ha hb w
  have cX : Hid (∀ w, Calls Tryd.prog 25 #[] w fun e w' => e = .returned (U M256) ∧ Below w.heap.size w w') := fun w => max256_any w
  have hp := satA_lt a b
  have hr := satM_lt a b
  have hq := subR_lt b ha
  by_cases he : a + b < B256
  · by_cases hf : b ≤ a
    · by_cases hg : a * b < B256
      · skip
        rw [show addR a b = satA a b from (if_pos he).trans (if_pos he).symm, show addE a b = 0 from if_pos he] at cA
        rw [show subE a b = 0 from if_pos hf] at cS
        rw [show mulR a b = satM a b from (if_pos hg).trans (if_pos hg).symm, show mulE a b = 0 from if_pos hg] at cM
        exact sag_efg a b _ _ _ w hL hp hq hr cA cS cM cSA cSS cSM
      · skip
        rw [show addR a b = satA a b from (if_pos he).trans (if_pos he).symm, show addE a b = 0 from if_pos he] at cA
        rw [show subE a b = 0 from if_pos hf] at cS
        rw [show mulR a b = 0 from if_neg hg, show mulE a b = 4 from if_neg hg, U_zero] at cM; have cR := cX; rw [show M256 = satM a b from (if_neg hg).symm] at cR
        exact sag_efz a b _ _ _ w hL hp hq hr cA cS cM cR cSA cSS cSM
    · by_cases hg : a * b < B256
      · skip
        rw [show addR a b = satA a b from (if_pos he).trans (if_pos he).symm, show addE a b = 0 from if_pos he] at cA
        rw [show subR a b = 0 from if_neg hf, show subE a b = 4 from if_neg hf, U_zero] at cS; rw [show subR a b = 0 from if_neg hf, U_zero] at cSS
        rw [show mulR a b = satM a b from (if_pos hg).trans (if_pos hg).symm, show mulE a b = 0 from if_pos hg] at cM
        exact sag_eyg a b _ _ w hL hp hr cA cS cM cSA cSS cSM
      · skip
        rw [show addR a b = satA a b from (if_pos he).trans (if_pos he).symm, show addE a b = 0 from if_pos he] at cA
        rw [show subR a b = 0 from if_neg hf, show subE a b = 4 from if_neg hf, U_zero] at cS; rw [show subR a b = 0 from if_neg hf, U_zero] at cSS
        rw [show mulR a b = 0 from if_neg hg, show mulE a b = 4 from if_neg hg, U_zero] at cM; have cR := cX; rw [show M256 = satM a b from (if_neg hg).symm] at cR
        exact sag_eyz a b _ _ w hL hp hr cA cS cM cR cSA cSS cSM
  · by_cases hf : b ≤ a
    · by_cases hg : a * b < B256
      · skip
        rw [show addR a b = 0 from if_neg he, show addE a b = 4 from if_neg he, U_zero] at cA; have cP := cX; rw [show M256 = satA a b from (if_neg he).symm] at cP
        rw [show subE a b = 0 from if_pos hf] at cS
        rw [show mulR a b = satM a b from (if_pos hg).trans (if_pos hg).symm, show mulE a b = 0 from if_pos hg] at cM
        exact sag_xfg a b _ _ _ w hL hp hq hr cA cS cM cP cSA cSS cSM
      · skip
        rw [show addR a b = 0 from if_neg he, show addE a b = 4 from if_neg he, U_zero] at cA; have cP := cX; rw [show M256 = satA a b from (if_neg he).symm] at cP
        rw [show subE a b = 0 from if_pos hf] at cS
        rw [show mulR a b = 0 from if_neg hg, show mulE a b = 4 from if_neg hg, U_zero] at cM; have cR := cX; rw [show M256 = satM a b from (if_neg hg).symm] at cR
        exact sag_xfz a b _ _ _ w hL hp hq hr cA cS cM cP cR cSA cSS cSM
    · by_cases hg : a * b < B256
      · skip
        rw [show addR a b = 0 from if_neg he, show addE a b = 4 from if_neg he, U_zero] at cA; have cP := cX; rw [show M256 = satA a b from (if_neg he).symm] at cP
        rw [show subR a b = 0 from if_neg hf, show subE a b = 4 from if_neg hf, U_zero] at cS; rw [show subR a b = 0 from if_neg hf, U_zero] at cSS
        rw [show mulR a b = satM a b from (if_pos hg).trans (if_pos hg).symm, show mulE a b = 0 from if_pos hg] at cM
        exact sag_xyg a b _ _ w hL hp hr cA cS cM cP cSA cSS cSM
      · skip
        rw [show addR a b = 0 from if_neg he, show addE a b = 4 from if_neg he, U_zero] at cA; have cP := cX; rw [show M256 = satA a b from (if_neg he).symm] at cP
        rw [show subR a b = 0 from if_neg hf, show subE a b = 4 from if_neg hf, U_zero] at cS; rw [show subR a b = 0 from if_neg hf, U_zero] at cSS
        rw [show mulR a b = 0 from if_neg hg, show mulE a b = 4 from if_neg hg, U_zero] at cM; have cR := cX; rw [show M256 = satM a b from (if_neg hg).symm] at cR
        exact sag_xyz a b _ _ w hL hp hr cA cS cM cP cR cSA cSS cSM

end Go.Proofs.YthhbijcddbncdaaDoor
