/- The walk of saturatingAgrees over this translation: it returns true for all numbers where the package's variable holds the largest number. -/
import Derived.Test.YthhbijcddbncdaaDoorSat
import Derived.Test.YthhbijcddbncdaaDoorRefh
namespace Go.Proofs.YthhbijcddbncdaaDoor
open Go.RowKit

theorem eqSame (r : Nat) (hr : r < B256) (w : World) : (Op.equalIn 10000 24 (U r) (U r)).run Tryd.prog w = .ok true w := (eqU_run r r hr hr w).trans (by simp)
/-- The world under a name: what is known of it is all that is used. -/
theorem world_as {P : Program} {c : Code} {Q : Exit → Act → World → Prop} {a : Act} {W : World} (F : World → Prop) (hF : F W) (h : ∀ WW, F WW → c.wp P Q a WW) : c.wp P Q a W := h W hF
theorem Res.newAt {w : World} (g : Nat) (t : TypeId) (c : Array Value) (hg : g = w.heap.size) : Res g t c (w.alloc (.cells c t)) := by subst hg; exact Res.new w t c
theorem below4 {B g : Nat} {a w : World} (h : Below B a w) (x0 x1 x2 x3 : Value) (hg : B ≤ g) : Below B a ((((w.setCell ⟨g, 0, none⟩ x0).setCell ⟨g, 1, none⟩ x1).setCell ⟨g, 2, none⟩ x2).setCell ⟨g, 3, none⟩ x3) :=
  (((h.setCell (p := ⟨g, 0, none⟩) hg _).setCell (p := ⟨g, 1, none⟩) hg _).setCell (p := ⟨g, 2, none⟩) hg _).setCell (p := ⟨g, 3, none⟩) hg _
theorem belowA {B : Nat} {a w : World} (h : Below B a w) (o : Obj) (hB : B ≤ w.heap.size) : Below B a (w.alloc o) := h.alloc hB o
theorem Lg.far4 {g : Nat} {w : World} (h : Lg w) (x0 x1 x2 x3 : Value) (hg : 0 ≠ g) : Lg ((((w.setCell ⟨g, 0, none⟩ x0).setCell ⟨g, 1, none⟩ x1).setCell ⟨g, 2, none⟩ x2).setCell ⟨g, 3, none⟩ x3) := fun k => by
  have hg' : g ≠ 0 := fun e => hg e.symm
  rw [World.cell?_setCell_far _ ⟨g, 3, none⟩ _ _ hg', World.cell?_setCell_far _ ⟨g, 2, none⟩ _ _ hg', World.cell?_setCell_far _ ⟨g, 1, none⟩ _ _ hg', World.cell?_setCell_far _ ⟨g, 0, none⟩ _ _ hg']
  exact h k

set_option maxRecDepth 100000 in
set_option maxHeartbeats 8000000 in
theorem sag_efg (a b p q r : Nat) (w : World) (hL : Lg w) (hp : p < B256) (hq : q < B256) (hr : r < B256)
    (cA : Hid (∀ w, Calls Tryd.prog 7 #[U a, U b] w fun e w' => e = .returned (.tuple #[U p, .int .i64 0]) ∧ Below w.heap.size w w'))
    (cS : Hid (∀ w, Calls Tryd.prog 9 #[U a, U b] w fun e w' => e = .returned (.tuple #[U q, .int .i64 0]) ∧ Below w.heap.size w w'))
    (cM : Hid (∀ w, Calls Tryd.prog 11 #[U a, U b] w fun e w' => e = .returned (.tuple #[U r, .int .i64 0]) ∧ Below w.heap.size w w'))
    (cSA : Hid (∀ w, Lg w → Calls Tryd.prog 26 #[U a, U b] w fun e w' => e = .returned (U p) ∧ Below w.heap.size w w'))
    (cSS : Hid (∀ w, Calls Tryd.prog 27 #[U a, U b] w fun e w' => e = .returned (U q) ∧ Below w.heap.size w w'))
    (cSM : Hid (∀ w, Lg w → Calls Tryd.prog 28 #[U a, U b] w fun e w' => e = .returned (U r) ∧ Below w.heap.size w w')) :
    Calls Tryd.prog 12 #[U a, U b] w fun e w' => e = .returned (.bool true) ∧ Below w.heap.size w w' := by
  have EP := eqSame p hp
  have EQ := eqSame q hq
  have ER := eqSame r hr
  have rA0 : Res w.heap.size 24 (arr a) ((w.alloc (.cells (arr a) 24)).alloc (.cells (arr b) 24)) := (Res.new w 24 (arr a)).alloc _
  have rB0 : Res (w.heap.size + 1) 24 (arr b) ((w.alloc (.cells (arr a) 24)).alloc (.cells (arr b) 24)) := by
    have h := Res.new (w.alloc (.cells (arr a) 24)) 24 (arr b)
    rw [World.size_alloc] at h
    exact h
  have b0 : Below w.heap.size w ((w.alloc (.cells (arr a) 24)).alloc (.cells (arr b) 24)) := by go_grown
  have g0 : Lg ((w.alloc (.cells (arr a) 24)).alloc (.cells (arr b) 24)) := (hL.alloc _).alloc _
  have HL := Lib.hid hL.lt
  clear hL
  replace g0 := Lib.hid g0
  go_enter Tryd.func12, Tryd.ntmps12
  go_wp2_with fail
  refine (cA.out _).mono ?_
  rintro e w1 ⟨rfl, h1⟩
  have rA1 := rA0.keep h1
  have rB1 := rB0.keep h1
  have b1 := chain b0 h1
  have g1 := Lib.hid (g0.out.below h1)
  have zA := rA1.cells
  have lA := rA1.lt
  have zB := rB1.cells
  have lB := rB1.lt
  go_wp2_with fail
  refine (cS.out _).mono ?_
  rintro e w2 ⟨rfl, h2⟩
  clear zA lA zB lB
  have rA2 := (rA1.alloc _).keep h2
  have rB2 := (rB1.alloc _).keep h2
  have rX12 := (Res.new _ _ _).keep h2
  have b2 := chain (b1.alloc b1.size _) h2
  have g2 := Lib.hid ((g1.out.alloc _).below h2)
  have zA := rA2.cells
  have lA := rA2.lt
  have zB := rB2.cells
  have lB := rB2.lt
  have zX1 := rX12.cells
  have lX1 := rX12.lt
  go_wp2_with fail
  refine (cM.out _).mono ?_
  rintro e w3 ⟨rfl, h3⟩
  clear zA lA zB lB zX1 lX1
  have rA3 := (rA2.alloc _).keep h3
  have rB3 := (rB2.alloc _).keep h3
  have rX13 := (rX12.alloc _).keep h3
  have rX23 := (Res.new _ _ _).keep h3
  have b3 := chain (b2.alloc b2.size _) h3
  have g3 := Lib.hid ((g2.out.alloc _).below h3)
  have zA := rA3.cells
  have lA := rA3.lt
  have zB := rB3.cells
  have lB := rB3.lt
  have zX1 := rX13.cells
  have lX1 := rX13.lt
  have zX2 := rX23.cells
  have lX2 := rX23.lt
  have sB := rB1.lt
  have sX1 := rX12.lt
  have sX2 := rX23.lt
  have HL' := HL.out
  go_wp2
  refine world_as (fun WW => Res w.heap.size 24 (arr a) WW ∧ Res (w.heap.size + 1) 24 (arr b) WW ∧ Res w1.heap.size 24 (arr p) WW ∧ Res w2.heap.size 24 (arr q) WW ∧ Res w3.heap.size 24 (arr r) WW ∧ Below w.heap.size w WW ∧ Lg WW) ⟨(rA3.alloc _), (rB3.alloc _), (rX13.alloc _), (rX23.alloc _), (Res.newAt _ _ _ (by simp)), (belowA b3 _ (by first | exact b3.size | (simp; have := b3.size; omega))), (g3.out.alloc _)⟩ ?_
  clear zA lA zB lB zX1 lX1 zX2 lX2
  rintro WW ⟨rA, rB, rP, rQ, rR, bz, gz⟩
  have zA := rA.cells
  have zB := rB.cells
  have zP := rP.cells
  have zQ := rQ.cells
  have zR := rR.cells
  replace bz := bz.drew
  replace gz := Lib.hid gz.drew
  go_region_held3 (fun w' => w'.cell? ⟨w.heap.size, 0, none⟩ = some (.int .u64 (limb a 0)) ∧ w'.cell? ⟨w.heap.size, 1, none⟩ = some (.int .u64 (limb a 1)) ∧ w'.cell? ⟨w.heap.size, 2, none⟩ = some (.int .u64 (limb a 2)) ∧ w'.cell? ⟨w.heap.size, 3, none⟩ = some (.int .u64 (limb a 3)) ∧ w'.cell? ⟨w.heap.size + 1, 0, none⟩ = some (.int .u64 (limb b 0)) ∧ w'.cell? ⟨w.heap.size + 1, 1, none⟩ = some (.int .u64 (limb b 1)) ∧ w'.cell? ⟨w.heap.size + 1, 2, none⟩ = some (.int .u64 (limb b 2)) ∧ w'.cell? ⟨w.heap.size + 1, 3, none⟩ = some (.int .u64 (limb b 3)) ∧ w'.cell? ⟨w1.heap.size, 0, none⟩ = some (.int .u64 (limb p 0)) ∧ w'.cell? ⟨w1.heap.size, 1, none⟩ = some (.int .u64 (limb p 1)) ∧ w'.cell? ⟨w1.heap.size, 2, none⟩ = some (.int .u64 (limb p 2)) ∧ w'.cell? ⟨w1.heap.size, 3, none⟩ = some (.int .u64 (limb p 3)) ∧ w'.cell? ⟨w2.heap.size, 0, none⟩ = some (.int .u64 (limb q 0)) ∧ w'.cell? ⟨w2.heap.size, 1, none⟩ = some (.int .u64 (limb q 1)) ∧ w'.cell? ⟨w2.heap.size, 2, none⟩ = some (.int .u64 (limb q 2)) ∧ w'.cell? ⟨w2.heap.size, 3, none⟩ = some (.int .u64 (limb q 3)) ∧ w'.cell? ⟨w3.heap.size, 0, none⟩ = some (.int .u64 (limb r 0)) ∧ w'.cell? ⟨w3.heap.size, 1, none⟩ = some (.int .u64 (limb r 1)) ∧ w'.cell? ⟨w3.heap.size, 2, none⟩ = some (.int .u64 (limb r 2)) ∧ w'.cell? ⟨w3.heap.size, 3, none⟩ = some (.int .u64 (limb r 3)))
    (first | (go_keep; done) | (go_split_ands; refine ⟨?_, ?_, ?_, ?_, ?_, ?_, ?_, ?_, ?_, ?_, ?_, ?_, ?_, ?_, ?_, ?_, ?_, ?_, ?_, ?_⟩ <;> (rw [hw.cell (World.block_lt_of_cell? _ _ (by assumption))]; assumption)))
    (first | (go_at_call 26; refine (cSA.out _ gz.out).mono ?_; rintro e w9 ⟨rfl, hw⟩; have bz := chain bz hw; have gz := Lib.hid (gz.out.below hw)) | (go_at_call 27; refine (cSS.out _).mono ?_; rintro e w9 ⟨rfl, hw⟩; have bz := chain bz hw; have gz := Lib.hid (gz.out.below hw)) | (go_at_call 28; refine (cSM.out _ gz.out).mono ?_; rintro e w9 ⟨rfl, hw⟩; have bz := chain bz hw; have gz := Lib.hid (gz.out.below hw)))
  go_wp2
  go_ret
  exact ⟨rfl, bz⟩

set_option maxRecDepth 100000 in
set_option maxHeartbeats 8000000 in
theorem sag_efz (a b p q r : Nat) (w : World) (hL : Lg w) (hp : p < B256) (hq : q < B256) (hr : r < B256)
    (cA : Hid (∀ w, Calls Tryd.prog 7 #[U a, U b] w fun e w' => e = .returned (.tuple #[U p, .int .i64 0]) ∧ Below w.heap.size w w'))
    (cS : Hid (∀ w, Calls Tryd.prog 9 #[U a, U b] w fun e w' => e = .returned (.tuple #[U q, .int .i64 0]) ∧ Below w.heap.size w w'))
    (cM : Hid (∀ w, Calls Tryd.prog 11 #[U a, U b] w fun e w' => e = .returned (.tuple #[(.agg #[.int .u64 0, .int .u64 0, .int .u64 0, .int .u64 0]), .int .i64 4]) ∧ Below w.heap.size w w'))
    (cR : Hid (∀ w, Calls Tryd.prog 25 #[] w fun e w' => e = .returned (U r) ∧ Below w.heap.size w w'))
    (cSA : Hid (∀ w, Lg w → Calls Tryd.prog 26 #[U a, U b] w fun e w' => e = .returned (U p) ∧ Below w.heap.size w w'))
    (cSS : Hid (∀ w, Calls Tryd.prog 27 #[U a, U b] w fun e w' => e = .returned (U q) ∧ Below w.heap.size w w'))
    (cSM : Hid (∀ w, Lg w → Calls Tryd.prog 28 #[U a, U b] w fun e w' => e = .returned (U r) ∧ Below w.heap.size w w')) :
    Calls Tryd.prog 12 #[U a, U b] w fun e w' => e = .returned (.bool true) ∧ Below w.heap.size w w' := by
  have EP := eqSame p hp
  have EQ := eqSame q hq
  have ER := eqSame r hr
  have rA0 : Res w.heap.size 24 (arr a) ((w.alloc (.cells (arr a) 24)).alloc (.cells (arr b) 24)) := (Res.new w 24 (arr a)).alloc _
  have rB0 : Res (w.heap.size + 1) 24 (arr b) ((w.alloc (.cells (arr a) 24)).alloc (.cells (arr b) 24)) := by
    have h := Res.new (w.alloc (.cells (arr a) 24)) 24 (arr b)
    rw [World.size_alloc] at h
    exact h
  have b0 : Below w.heap.size w ((w.alloc (.cells (arr a) 24)).alloc (.cells (arr b) 24)) := by go_grown
  have g0 : Lg ((w.alloc (.cells (arr a) 24)).alloc (.cells (arr b) 24)) := (hL.alloc _).alloc _
  have HL := Lib.hid hL.lt
  clear hL
  replace g0 := Lib.hid g0
  go_enter Tryd.func12, Tryd.ntmps12
  go_wp2_with fail
  refine (cA.out _).mono ?_
  rintro e w1 ⟨rfl, h1⟩
  have rA1 := rA0.keep h1
  have rB1 := rB0.keep h1
  have b1 := chain b0 h1
  have g1 := Lib.hid (g0.out.below h1)
  have zA := rA1.cells
  have lA := rA1.lt
  have zB := rB1.cells
  have lB := rB1.lt
  go_wp2_with fail
  refine (cS.out _).mono ?_
  rintro e w2 ⟨rfl, h2⟩
  clear zA lA zB lB
  have rA2 := (rA1.alloc _).keep h2
  have rB2 := (rB1.alloc _).keep h2
  have rX12 := (Res.new _ _ _).keep h2
  have b2 := chain (b1.alloc b1.size _) h2
  have g2 := Lib.hid ((g1.out.alloc _).below h2)
  have zA := rA2.cells
  have lA := rA2.lt
  have zB := rB2.cells
  have lB := rB2.lt
  have zX1 := rX12.cells
  have lX1 := rX12.lt
  go_wp2_with fail
  refine (cM.out _).mono ?_
  rintro e w3 ⟨rfl, h3⟩
  clear zA lA zB lB zX1 lX1
  have rA3 := (rA2.alloc _).keep h3
  have rB3 := (rB2.alloc _).keep h3
  have rX13 := (rX12.alloc _).keep h3
  have rX23 := (Res.new _ _ _).keep h3
  have b3 := chain (b2.alloc b2.size _) h3
  have g3 := Lib.hid ((g2.out.alloc _).below h3)
  have zA := rA3.cells
  have lA := rA3.lt
  have zB := rB3.cells
  have lB := rB3.lt
  have zX1 := rX13.cells
  have lX1 := rX13.lt
  have zX2 := rX23.cells
  have lX2 := rX23.lt
  have sB := rB1.lt
  have sX1 := rX12.lt
  have sX2 := rX23.lt
  have HL' := HL.out
  go_wp2_with fail
  refine (cR.out _).mono ?_
  rintro e w4 ⟨rfl, h4⟩
  clear zA lA zB lB zX1 lX1 zX2 lX2
  have rA4 := Res.keep (rA3.alloc _) h4
  have rB4 := Res.keep (rB3.alloc _) h4
  have rX14 := Res.keep (rX13.alloc _) h4
  have rX24 := Res.keep (rX23.alloc _) h4
  have rX34 := Res.keep (Res.newAt w3.heap.size _ _ (by simp)) h4
  have b4 := chain (belowA b3 _ (by first | exact b3.size | (simp; have := b3.size; omega))) h4
  have g4 := Lib.hid ((g3.out.alloc _).below h4)
  have zA := rA4.cells
  have lA := rA4.lt
  have zB := rB4.cells
  have lB := rB4.lt
  have zX1 := rX14.cells
  have lX1 := rX14.lt
  have zX2 := rX24.cells
  have lX2 := rX24.lt
  have zX3 := rX34.cells
  have lX3 := rX34.lt
  have s3 := rX34.lt
  have mX3 := rX34.marks
  go_wp2
  refine world_as (fun WW => Res w.heap.size 24 (arr a) WW ∧ Res (w.heap.size + 1) 24 (arr b) WW ∧ Res w1.heap.size 24 (arr p) WW ∧ Res w2.heap.size 24 (arr q) WW ∧ Res w3.heap.size 24 (arr r) WW ∧ Below w.heap.size w WW ∧ Lg WW) ⟨(rA4.far4 _ _ _ _ (by omega)), (rB4.far4 _ _ _ _ (by omega)), (rX14.far4 _ _ _ _ (by omega)), (rX24.far4 _ _ _ _ (by omega)), (rX34.put4 _ _ _ _), (below4 b4 _ _ _ _ (by omega)), (g4.out.far4 _ _ _ _ (by omega))⟩ ?_
  clear zA lA zB lB zX1 lX1 zX2 lX2 zX3 lX3 mX3
  rintro WW ⟨rA, rB, rP, rQ, rR, bz, gz⟩
  have zA := rA.cells
  have zB := rB.cells
  have zP := rP.cells
  have zQ := rQ.cells
  have zR := rR.cells
  replace bz := bz.drew
  replace gz := Lib.hid gz.drew
  go_region_held3 (fun w' => w'.cell? ⟨w.heap.size, 0, none⟩ = some (.int .u64 (limb a 0)) ∧ w'.cell? ⟨w.heap.size, 1, none⟩ = some (.int .u64 (limb a 1)) ∧ w'.cell? ⟨w.heap.size, 2, none⟩ = some (.int .u64 (limb a 2)) ∧ w'.cell? ⟨w.heap.size, 3, none⟩ = some (.int .u64 (limb a 3)) ∧ w'.cell? ⟨w.heap.size + 1, 0, none⟩ = some (.int .u64 (limb b 0)) ∧ w'.cell? ⟨w.heap.size + 1, 1, none⟩ = some (.int .u64 (limb b 1)) ∧ w'.cell? ⟨w.heap.size + 1, 2, none⟩ = some (.int .u64 (limb b 2)) ∧ w'.cell? ⟨w.heap.size + 1, 3, none⟩ = some (.int .u64 (limb b 3)) ∧ w'.cell? ⟨w1.heap.size, 0, none⟩ = some (.int .u64 (limb p 0)) ∧ w'.cell? ⟨w1.heap.size, 1, none⟩ = some (.int .u64 (limb p 1)) ∧ w'.cell? ⟨w1.heap.size, 2, none⟩ = some (.int .u64 (limb p 2)) ∧ w'.cell? ⟨w1.heap.size, 3, none⟩ = some (.int .u64 (limb p 3)) ∧ w'.cell? ⟨w2.heap.size, 0, none⟩ = some (.int .u64 (limb q 0)) ∧ w'.cell? ⟨w2.heap.size, 1, none⟩ = some (.int .u64 (limb q 1)) ∧ w'.cell? ⟨w2.heap.size, 2, none⟩ = some (.int .u64 (limb q 2)) ∧ w'.cell? ⟨w2.heap.size, 3, none⟩ = some (.int .u64 (limb q 3)) ∧ w'.cell? ⟨w3.heap.size, 0, none⟩ = some (.int .u64 (limb r 0)) ∧ w'.cell? ⟨w3.heap.size, 1, none⟩ = some (.int .u64 (limb r 1)) ∧ w'.cell? ⟨w3.heap.size, 2, none⟩ = some (.int .u64 (limb r 2)) ∧ w'.cell? ⟨w3.heap.size, 3, none⟩ = some (.int .u64 (limb r 3)))
    (first | (go_keep; done) | (go_split_ands; refine ⟨?_, ?_, ?_, ?_, ?_, ?_, ?_, ?_, ?_, ?_, ?_, ?_, ?_, ?_, ?_, ?_, ?_, ?_, ?_, ?_⟩ <;> (rw [hw.cell (World.block_lt_of_cell? _ _ (by assumption))]; assumption)))
    (first | (go_at_call 26; refine (cSA.out _ gz.out).mono ?_; rintro e w9 ⟨rfl, hw⟩; have bz := chain bz hw; have gz := Lib.hid (gz.out.below hw)) | (go_at_call 27; refine (cSS.out _).mono ?_; rintro e w9 ⟨rfl, hw⟩; have bz := chain bz hw; have gz := Lib.hid (gz.out.below hw)) | (go_at_call 28; refine (cSM.out _ gz.out).mono ?_; rintro e w9 ⟨rfl, hw⟩; have bz := chain bz hw; have gz := Lib.hid (gz.out.below hw)))
  go_wp2
  go_ret
  exact ⟨rfl, bz⟩

set_option maxRecDepth 100000 in
set_option maxHeartbeats 8000000 in
theorem sag_eyg (a b p r : Nat) (w : World) (hL : Lg w) (hp : p < B256) (hr : r < B256)
    (cA : Hid (∀ w, Calls Tryd.prog 7 #[U a, U b] w fun e w' => e = .returned (.tuple #[U p, .int .i64 0]) ∧ Below w.heap.size w w'))
    (cS : Hid (∀ w, Calls Tryd.prog 9 #[U a, U b] w fun e w' => e = .returned (.tuple #[(.agg #[.int .u64 0, .int .u64 0, .int .u64 0, .int .u64 0]), .int .i64 4]) ∧ Below w.heap.size w w'))
    (cM : Hid (∀ w, Calls Tryd.prog 11 #[U a, U b] w fun e w' => e = .returned (.tuple #[U r, .int .i64 0]) ∧ Below w.heap.size w w'))
    (cSA : Hid (∀ w, Lg w → Calls Tryd.prog 26 #[U a, U b] w fun e w' => e = .returned (U p) ∧ Below w.heap.size w w'))
    (cSS : Hid (∀ w, Calls Tryd.prog 27 #[U a, U b] w fun e w' => e = .returned ((.agg #[.int .u64 0, .int .u64 0, .int .u64 0, .int .u64 0])) ∧ Below w.heap.size w w'))
    (cSM : Hid (∀ w, Lg w → Calls Tryd.prog 28 #[U a, U b] w fun e w' => e = .returned (U r) ∧ Below w.heap.size w w')) :
    Calls Tryd.prog 12 #[U a, U b] w fun e w' => e = .returned (.bool true) ∧ Below w.heap.size w w' := by
  have EP := eqSame p hp
  have EQ : ∀ w, (Op.equalIn 10000 24 (.agg #[.int .u64 0, .int .u64 0, .int .u64 0, .int .u64 0]) (.agg #[.int .u64 0, .int .u64 0, .int .u64 0, .int .u64 0])).run Tryd.prog w = .ok true w := fun w => eq4_run 0 0 0 0 0 0 0 0 w
  have ER := eqSame r hr
  have rA0 : Res w.heap.size 24 (arr a) ((w.alloc (.cells (arr a) 24)).alloc (.cells (arr b) 24)) := (Res.new w 24 (arr a)).alloc _
  have rB0 : Res (w.heap.size + 1) 24 (arr b) ((w.alloc (.cells (arr a) 24)).alloc (.cells (arr b) 24)) := by
    have h := Res.new (w.alloc (.cells (arr a) 24)) 24 (arr b)
    rw [World.size_alloc] at h
    exact h
  have b0 : Below w.heap.size w ((w.alloc (.cells (arr a) 24)).alloc (.cells (arr b) 24)) := by go_grown
  have g0 : Lg ((w.alloc (.cells (arr a) 24)).alloc (.cells (arr b) 24)) := (hL.alloc _).alloc _
  have HL := Lib.hid hL.lt
  clear hL
  replace g0 := Lib.hid g0
  go_enter Tryd.func12, Tryd.ntmps12
  go_wp2_with fail
  refine (cA.out _).mono ?_
  rintro e w1 ⟨rfl, h1⟩
  have rA1 := rA0.keep h1
  have rB1 := rB0.keep h1
  have b1 := chain b0 h1
  have g1 := Lib.hid (g0.out.below h1)
  have zA := rA1.cells
  have lA := rA1.lt
  have zB := rB1.cells
  have lB := rB1.lt
  go_wp2_with fail
  refine (cS.out _).mono ?_
  rintro e w2 ⟨rfl, h2⟩
  clear zA lA zB lB
  have rA2 := (rA1.alloc _).keep h2
  have rB2 := (rB1.alloc _).keep h2
  have rX12 := (Res.new _ _ _).keep h2
  have b2 := chain (b1.alloc b1.size _) h2
  have g2 := Lib.hid ((g1.out.alloc _).below h2)
  have zA := rA2.cells
  have lA := rA2.lt
  have zB := rB2.cells
  have lB := rB2.lt
  have zX1 := rX12.cells
  have lX1 := rX12.lt
  go_wp2_with fail
  refine (cM.out _).mono ?_
  rintro e w3 ⟨rfl, h3⟩
  clear zA lA zB lB zX1 lX1
  have rA3 := (rA2.alloc _).keep h3
  have rB3 := (rB2.alloc _).keep h3
  have rX13 := (rX12.alloc _).keep h3
  have rX23 := (Res.new _ _ _).keep h3
  have b3 := chain (b2.alloc b2.size _) h3
  have g3 := Lib.hid ((g2.out.alloc _).below h3)
  have zA := rA3.cells
  have lA := rA3.lt
  have zB := rB3.cells
  have lB := rB3.lt
  have zX1 := rX13.cells
  have lX1 := rX13.lt
  have zX2 := rX23.cells
  have lX2 := rX23.lt
  have sB := rB1.lt
  have sX1 := rX12.lt
  have sX2 := rX23.lt
  have HL' := HL.out
  have mX2 := rX23.marks
  go_wp2
  refine world_as (fun WW => Res w.heap.size 24 (arr a) WW ∧ Res (w.heap.size + 1) 24 (arr b) WW ∧ Res w1.heap.size 24 (arr p) WW ∧ Res w2.heap.size 24 #[.int .u64 0, .int .u64 0, .int .u64 0, .int .u64 0] WW ∧ Res w3.heap.size 24 (arr r) WW ∧ Below w.heap.size w WW ∧ Lg WW) ⟨((rA3.far4 _ _ _ _ (by omega)).alloc _), ((rB3.far4 _ _ _ _ (by omega)).alloc _), ((rX13.far4 _ _ _ _ (by omega)).alloc _), ((rX23.put4 _ _ _ _).alloc _), (Res.newAt _ _ _ (by simp)), (belowA (below4 b3 _ _ _ _ (by omega)) _ (by first | exact b3.size | (simp; have := b3.size; omega))), ((g3.out.far4 _ _ _ _ (by omega)).alloc _)⟩ ?_
  clear zA lA zB lB zX1 lX1 zX2 lX2 mX2
  rintro WW ⟨rA, rB, rP, rQ, rR, bz, gz⟩
  have zA := rA.cells
  have zB := rB.cells
  have zP := rP.cells
  have zQ := rQ.cells
  have zR := rR.cells
  replace bz := bz.drew
  replace gz := Lib.hid gz.drew
  go_region_held3 (fun w' => w'.cell? ⟨w.heap.size, 0, none⟩ = some (.int .u64 (limb a 0)) ∧ w'.cell? ⟨w.heap.size, 1, none⟩ = some (.int .u64 (limb a 1)) ∧ w'.cell? ⟨w.heap.size, 2, none⟩ = some (.int .u64 (limb a 2)) ∧ w'.cell? ⟨w.heap.size, 3, none⟩ = some (.int .u64 (limb a 3)) ∧ w'.cell? ⟨w.heap.size + 1, 0, none⟩ = some (.int .u64 (limb b 0)) ∧ w'.cell? ⟨w.heap.size + 1, 1, none⟩ = some (.int .u64 (limb b 1)) ∧ w'.cell? ⟨w.heap.size + 1, 2, none⟩ = some (.int .u64 (limb b 2)) ∧ w'.cell? ⟨w.heap.size + 1, 3, none⟩ = some (.int .u64 (limb b 3)) ∧ w'.cell? ⟨w1.heap.size, 0, none⟩ = some (.int .u64 (limb p 0)) ∧ w'.cell? ⟨w1.heap.size, 1, none⟩ = some (.int .u64 (limb p 1)) ∧ w'.cell? ⟨w1.heap.size, 2, none⟩ = some (.int .u64 (limb p 2)) ∧ w'.cell? ⟨w1.heap.size, 3, none⟩ = some (.int .u64 (limb p 3)) ∧ w'.cell? ⟨w2.heap.size, 0, none⟩ = some (.int .u64 0) ∧ w'.cell? ⟨w2.heap.size, 1, none⟩ = some (.int .u64 0) ∧ w'.cell? ⟨w2.heap.size, 2, none⟩ = some (.int .u64 0) ∧ w'.cell? ⟨w2.heap.size, 3, none⟩ = some (.int .u64 0) ∧ w'.cell? ⟨w3.heap.size, 0, none⟩ = some (.int .u64 (limb r 0)) ∧ w'.cell? ⟨w3.heap.size, 1, none⟩ = some (.int .u64 (limb r 1)) ∧ w'.cell? ⟨w3.heap.size, 2, none⟩ = some (.int .u64 (limb r 2)) ∧ w'.cell? ⟨w3.heap.size, 3, none⟩ = some (.int .u64 (limb r 3)))
    (first | (go_keep; done) | (go_split_ands; refine ⟨?_, ?_, ?_, ?_, ?_, ?_, ?_, ?_, ?_, ?_, ?_, ?_, ?_, ?_, ?_, ?_, ?_, ?_, ?_, ?_⟩ <;> (rw [hw.cell (World.block_lt_of_cell? _ _ (by assumption))]; assumption)))
    (first | (go_at_call 26; refine (cSA.out _ gz.out).mono ?_; rintro e w9 ⟨rfl, hw⟩; have bz := chain bz hw; have gz := Lib.hid (gz.out.below hw)) | (go_at_call 27; refine (cSS.out _).mono ?_; rintro e w9 ⟨rfl, hw⟩; have bz := chain bz hw; have gz := Lib.hid (gz.out.below hw)) | (go_at_call 28; refine (cSM.out _ gz.out).mono ?_; rintro e w9 ⟨rfl, hw⟩; have bz := chain bz hw; have gz := Lib.hid (gz.out.below hw)))
  go_wp2
  go_ret
  exact ⟨rfl, bz⟩

set_option maxRecDepth 100000 in
set_option maxHeartbeats 8000000 in
theorem sag_eyz (a b p r : Nat) (w : World) (hL : Lg w) (hp : p < B256) (hr : r < B256)
    (cA : Hid (∀ w, Calls Tryd.prog 7 #[U a, U b] w fun e w' => e = .returned (.tuple #[U p, .int .i64 0]) ∧ Below w.heap.size w w'))
    (cS : Hid (∀ w, Calls Tryd.prog 9 #[U a, U b] w fun e w' => e = .returned (.tuple #[(.agg #[.int .u64 0, .int .u64 0, .int .u64 0, .int .u64 0]), .int .i64 4]) ∧ Below w.heap.size w w'))
    (cM : Hid (∀ w, Calls Tryd.prog 11 #[U a, U b] w fun e w' => e = .returned (.tuple #[(.agg #[.int .u64 0, .int .u64 0, .int .u64 0, .int .u64 0]), .int .i64 4]) ∧ Below w.heap.size w w'))
    (cR : Hid (∀ w, Calls Tryd.prog 25 #[] w fun e w' => e = .returned (U r) ∧ Below w.heap.size w w'))
    (cSA : Hid (∀ w, Lg w → Calls Tryd.prog 26 #[U a, U b] w fun e w' => e = .returned (U p) ∧ Below w.heap.size w w'))
    (cSS : Hid (∀ w, Calls Tryd.prog 27 #[U a, U b] w fun e w' => e = .returned ((.agg #[.int .u64 0, .int .u64 0, .int .u64 0, .int .u64 0])) ∧ Below w.heap.size w w'))
    (cSM : Hid (∀ w, Lg w → Calls Tryd.prog 28 #[U a, U b] w fun e w' => e = .returned (U r) ∧ Below w.heap.size w w')) :
    Calls Tryd.prog 12 #[U a, U b] w fun e w' => e = .returned (.bool true) ∧ Below w.heap.size w w' := by
  have EP := eqSame p hp
  have EQ : ∀ w, (Op.equalIn 10000 24 (.agg #[.int .u64 0, .int .u64 0, .int .u64 0, .int .u64 0]) (.agg #[.int .u64 0, .int .u64 0, .int .u64 0, .int .u64 0])).run Tryd.prog w = .ok true w := fun w => eq4_run 0 0 0 0 0 0 0 0 w
  have ER := eqSame r hr
  have rA0 : Res w.heap.size 24 (arr a) ((w.alloc (.cells (arr a) 24)).alloc (.cells (arr b) 24)) := (Res.new w 24 (arr a)).alloc _
  have rB0 : Res (w.heap.size + 1) 24 (arr b) ((w.alloc (.cells (arr a) 24)).alloc (.cells (arr b) 24)) := by
    have h := Res.new (w.alloc (.cells (arr a) 24)) 24 (arr b)
    rw [World.size_alloc] at h
    exact h
  have b0 : Below w.heap.size w ((w.alloc (.cells (arr a) 24)).alloc (.cells (arr b) 24)) := by go_grown
  have g0 : Lg ((w.alloc (.cells (arr a) 24)).alloc (.cells (arr b) 24)) := (hL.alloc _).alloc _
  have HL := Lib.hid hL.lt
  clear hL
  replace g0 := Lib.hid g0
  go_enter Tryd.func12, Tryd.ntmps12
  go_wp2_with fail
  refine (cA.out _).mono ?_
  rintro e w1 ⟨rfl, h1⟩
  have rA1 := rA0.keep h1
  have rB1 := rB0.keep h1
  have b1 := chain b0 h1
  have g1 := Lib.hid (g0.out.below h1)
  have zA := rA1.cells
  have lA := rA1.lt
  have zB := rB1.cells
  have lB := rB1.lt
  go_wp2_with fail
  refine (cS.out _).mono ?_
  rintro e w2 ⟨rfl, h2⟩
  clear zA lA zB lB
  have rA2 := (rA1.alloc _).keep h2
  have rB2 := (rB1.alloc _).keep h2
  have rX12 := (Res.new _ _ _).keep h2
  have b2 := chain (b1.alloc b1.size _) h2
  have g2 := Lib.hid ((g1.out.alloc _).below h2)
  have zA := rA2.cells
  have lA := rA2.lt
  have zB := rB2.cells
  have lB := rB2.lt
  have zX1 := rX12.cells
  have lX1 := rX12.lt
  go_wp2_with fail
  refine (cM.out _).mono ?_
  rintro e w3 ⟨rfl, h3⟩
  clear zA lA zB lB zX1 lX1
  have rA3 := (rA2.alloc _).keep h3
  have rB3 := (rB2.alloc _).keep h3
  have rX13 := (rX12.alloc _).keep h3
  have rX23 := (Res.new _ _ _).keep h3
  have b3 := chain (b2.alloc b2.size _) h3
  have g3 := Lib.hid ((g2.out.alloc _).below h3)
  have zA := rA3.cells
  have lA := rA3.lt
  have zB := rB3.cells
  have lB := rB3.lt
  have zX1 := rX13.cells
  have lX1 := rX13.lt
  have zX2 := rX23.cells
  have lX2 := rX23.lt
  have sB := rB1.lt
  have sX1 := rX12.lt
  have sX2 := rX23.lt
  have HL' := HL.out
  have mX2 := rX23.marks
  go_wp2_with fail
  refine (cR.out _).mono ?_
  rintro e w4 ⟨rfl, h4⟩
  clear zA lA zB lB zX1 lX1 zX2 lX2
  have rA4 := Res.keep ((rA3.far4 _ _ _ _ (by omega)).alloc _) h4
  have rB4 := Res.keep ((rB3.far4 _ _ _ _ (by omega)).alloc _) h4
  have rX14 := Res.keep ((rX13.far4 _ _ _ _ (by omega)).alloc _) h4
  have rX24 := Res.keep ((rX23.put4 _ _ _ _).alloc _) h4
  have rX34 := Res.keep (Res.newAt w3.heap.size _ _ (by simp)) h4
  have b4 := chain (belowA (below4 b3 _ _ _ _ (by omega)) _ (by first | exact b3.size | (simp; have := b3.size; omega))) h4
  have g4 := Lib.hid (((g3.out.far4 _ _ _ _ (by omega)).alloc _).below h4)
  have zA := rA4.cells
  have lA := rA4.lt
  have zB := rB4.cells
  have lB := rB4.lt
  have zX1 := rX14.cells
  have lX1 := rX14.lt
  have zX2 := rX24.cells
  have lX2 := rX24.lt
  have zX3 := rX34.cells
  have lX3 := rX34.lt
  clear mX2
  have s3 := rX34.lt
  have mX3 := rX34.marks
  go_wp2
  refine world_as (fun WW => Res w.heap.size 24 (arr a) WW ∧ Res (w.heap.size + 1) 24 (arr b) WW ∧ Res w1.heap.size 24 (arr p) WW ∧ Res w2.heap.size 24 #[.int .u64 0, .int .u64 0, .int .u64 0, .int .u64 0] WW ∧ Res w3.heap.size 24 (arr r) WW ∧ Below w.heap.size w WW ∧ Lg WW) ⟨(rA4.far4 _ _ _ _ (by omega)), (rB4.far4 _ _ _ _ (by omega)), (rX14.far4 _ _ _ _ (by omega)), (rX24.far4 _ _ _ _ (by omega)), (rX34.put4 _ _ _ _), (below4 b4 _ _ _ _ (by omega)), (g4.out.far4 _ _ _ _ (by omega))⟩ ?_
  clear zA lA zB lB zX1 lX1 zX2 lX2 zX3 lX3 mX3
  rintro WW ⟨rA, rB, rP, rQ, rR, bz, gz⟩
  have zA := rA.cells
  have zB := rB.cells
  have zP := rP.cells
  have zQ := rQ.cells
  have zR := rR.cells
  replace bz := bz.drew
  replace gz := Lib.hid gz.drew
  go_region_held3 (fun w' => w'.cell? ⟨w.heap.size, 0, none⟩ = some (.int .u64 (limb a 0)) ∧ w'.cell? ⟨w.heap.size, 1, none⟩ = some (.int .u64 (limb a 1)) ∧ w'.cell? ⟨w.heap.size, 2, none⟩ = some (.int .u64 (limb a 2)) ∧ w'.cell? ⟨w.heap.size, 3, none⟩ = some (.int .u64 (limb a 3)) ∧ w'.cell? ⟨w.heap.size + 1, 0, none⟩ = some (.int .u64 (limb b 0)) ∧ w'.cell? ⟨w.heap.size + 1, 1, none⟩ = some (.int .u64 (limb b 1)) ∧ w'.cell? ⟨w.heap.size + 1, 2, none⟩ = some (.int .u64 (limb b 2)) ∧ w'.cell? ⟨w.heap.size + 1, 3, none⟩ = some (.int .u64 (limb b 3)) ∧ w'.cell? ⟨w1.heap.size, 0, none⟩ = some (.int .u64 (limb p 0)) ∧ w'.cell? ⟨w1.heap.size, 1, none⟩ = some (.int .u64 (limb p 1)) ∧ w'.cell? ⟨w1.heap.size, 2, none⟩ = some (.int .u64 (limb p 2)) ∧ w'.cell? ⟨w1.heap.size, 3, none⟩ = some (.int .u64 (limb p 3)) ∧ w'.cell? ⟨w2.heap.size, 0, none⟩ = some (.int .u64 0) ∧ w'.cell? ⟨w2.heap.size, 1, none⟩ = some (.int .u64 0) ∧ w'.cell? ⟨w2.heap.size, 2, none⟩ = some (.int .u64 0) ∧ w'.cell? ⟨w2.heap.size, 3, none⟩ = some (.int .u64 0) ∧ w'.cell? ⟨w3.heap.size, 0, none⟩ = some (.int .u64 (limb r 0)) ∧ w'.cell? ⟨w3.heap.size, 1, none⟩ = some (.int .u64 (limb r 1)) ∧ w'.cell? ⟨w3.heap.size, 2, none⟩ = some (.int .u64 (limb r 2)) ∧ w'.cell? ⟨w3.heap.size, 3, none⟩ = some (.int .u64 (limb r 3)))
    (first | (go_keep; done) | (go_split_ands; refine ⟨?_, ?_, ?_, ?_, ?_, ?_, ?_, ?_, ?_, ?_, ?_, ?_, ?_, ?_, ?_, ?_, ?_, ?_, ?_, ?_⟩ <;> (rw [hw.cell (World.block_lt_of_cell? _ _ (by assumption))]; assumption)))
    (first | (go_at_call 26; refine (cSA.out _ gz.out).mono ?_; rintro e w9 ⟨rfl, hw⟩; have bz := chain bz hw; have gz := Lib.hid (gz.out.below hw)) | (go_at_call 27; refine (cSS.out _).mono ?_; rintro e w9 ⟨rfl, hw⟩; have bz := chain bz hw; have gz := Lib.hid (gz.out.below hw)) | (go_at_call 28; refine (cSM.out _ gz.out).mono ?_; rintro e w9 ⟨rfl, hw⟩; have bz := chain bz hw; have gz := Lib.hid (gz.out.below hw)))
  go_wp2
  go_ret
  exact ⟨rfl, bz⟩

end Go.Proofs.YthhbijcddbncdaaDoor
