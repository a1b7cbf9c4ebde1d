/- The walks of the law MulDivInverse over this translation, from the contracts of what it calls: it returns true, and memory that was there is as it was. -/
import Derived.Test.YtahkgkcbcadnoaaLaw2a
namespace Go.Proofs.Ytahkgkcbcadnoaa
open Go.RowKit

theorem put4R {g : Nat} {t : TypeId} {c0 c1 c2 c3 : Value} {w : World} (h : Res g t #[c0, c1, c2, c3] w) (x0 x1 x2 x3 : Value) :
    Res g t #[x0, x1, x2, x3] ((((w.setCell ⟨g, 0, none⟩ x0).setCell ⟨g, 1, none⟩ x1).setCell ⟨g, 2, none⟩ x2).setCell ⟨g, 3, none⟩ x3) := by
  have e : ∀ (w : World) (c : Array Value) (i : Nat) (x : Value), Res g t c w → Res g t (c.setIfInBounds i x) (w.setCell ⟨g, i, none⟩ x) := fun w c i x h => by
    unfold Res at h ⊢
    simp [World.setCell, Array.getElem?_modify, h]
  exact e _ _ 3 x3 (e _ _ 2 x2 (e _ _ 1 x1 (e _ _ 0 x0 h)))
theorem far4R {g g' : Nat} {t : TypeId} {c : Array Value} {w : World} (h : Res g t c w) (hg : g ≠ g') (x0 x1 x2 x3 : Value) :
    Res g t c ((((w.setCell ⟨g', 0, none⟩ x0).setCell ⟨g', 1, none⟩ x1).setCell ⟨g', 2, none⟩ x2).setCell ⟨g', 3, none⟩ x3) := by
  unfold Res at h ⊢
  rw [Below.heap_setCell _ _ _ _ hg, Below.heap_setCell _ _ _ _ hg, Below.heap_setCell _ _ _ _ hg, Below.heap_setCell _ _ _ _ hg]
  exact h
theorem put4B {B g : Nat} {w w1 : World} (h : Below B w w1) (hg : B ≤ g) (x0 x1 x2 x3 : Value) :
    Below B w ((((w1.setCell ⟨g, 0, none⟩ x0).setCell ⟨g, 1, none⟩ x1).setCell ⟨g, 2, none⟩ x2).setCell ⟨g, 3, none⟩ x3) :=
  (((h.setCell (by exact hg) _).setCell (by exact hg) _).setCell (by exact hg) _).setCell (by exact hg) _

set_option maxRecDepth 100000 in
set_option maxHeartbeats 4000000 in
theorem inv_zero (a b l h : Nat) (w : World)
    (c1 : Hid (∀ w, Calls Try.prog 10 #[U a, U b] w fun e w' => e = .returned (.tuple #[U l, U h]) ∧ Below w.heap.size w w'))
    (c2 : Hid (∀ w, Calls Try.prog 13 #[U l, U h, U 0] w fun e w' => e = .returned (.tuple #[.agg #[.int .u64 0, .int .u64 0, .int .u64 0, .int .u64 0], .agg #[.int .u64 0, .int .u64 0, .int .u64 0, .int .u64 0], .int .i64 5]) ∧ Below w.heap.size w w'))
    (aw : Hid (∀ w, Calls Try.prog 12 #[] w fun e w' => e = .returned (.bool true) ∧ Below w.heap.size w w')) :
    Calls Try.prog 7 #[U a, U b, U 0] w fun e w' => e = .returned (.bool true) ∧ Below w.heap.size w w' := by
  have E1 := fun w => eq4_run 0 0 0 0 0 0 0 0 w
  have E5 := eqZ 0 (by decide)
  rw [decide_eq_true rfl] at E5
  have rA0 : Res (w.heap.size) 24 (arr a) (((w.alloc (.cells (arr a) 24)).alloc (.cells (arr b) 24)).alloc (.cells (arr 0) 24)) := by
    have h := ((Res.new w 24 (arr a)).alloc (.cells (arr b) 24)).alloc (.cells (arr 0) 24)
    exact h
  have rA1 : Res (w.heap.size + 1) 24 (arr b) (((w.alloc (.cells (arr a) 24)).alloc (.cells (arr b) 24)).alloc (.cells (arr 0) 24)) := by
    have h := (Res.new (w.alloc (.cells (arr a) 24)) 24 (arr b)).alloc (.cells (arr 0) 24)
    rw [World.size_alloc] at h
    exact h
  have rA2 : Res (w.heap.size + 1 + 1) 24 (arr 0) (((w.alloc (.cells (arr a) 24)).alloc (.cells (arr b) 24)).alloc (.cells (arr 0) 24)) := by
    have h := Res.new ((w.alloc (.cells (arr a) 24)).alloc (.cells (arr b) 24)) 24 (arr 0)
    rw [World.size_alloc, World.size_alloc] at h
    exact h
  have bb : Below w.heap.size w (((w.alloc (.cells (arr a) 24)).alloc (.cells (arr b) 24)).alloc (.cells (arr 0) 24)) := by go_grown
  go_enter Try.func7, Try.ntmps7
  go_wp2_with fail
  with_reducible refine (c1.out _).mono ?_
  rintro e w1 ⟨rfl, h1⟩
  replace rA0 := (rA0).keep h1
  replace rA1 := (rA1).keep h1
  replace rA2 := (rA2).keep h1
  replace bb := chain bb h1
  have zA0 := rA0.cells; have lA0 := rA0.lt
  have zA1 := rA1.cells; have lA1 := rA1.lt
  have zA2 := rA2.cells; have lA2 := rA2.lt
  go_wp2_with fail
  with_reducible refine (c2.out _).mono ?_
  rintro e w2 ⟨rfl, h2⟩
  clear zA0 lA0 zA1 lA1 zA2 lA2
  replace rA0 := (((rA0.alloc _).alloc _)).keep h2
  replace rA1 := (((rA1.alloc _).alloc _)).keep h2
  replace rA2 := (((rA2.alloc _).alloc _)).keep h2
  have rLo := (((Res.new _ _ _).alloc _)).keep h2
  have rHi := ((Res.new _ _ _)).keep h2; simp only [World.size_alloc] at rHi
  replace bb := chain (balloc (balloc bb _) _) h2
  have zA0 := rA0.cells; have lA0 := rA0.lt
  have zA1 := rA1.cells; have lA1 := rA1.lt
  have zA2 := rA2.cells; have lA2 := rA2.lt
  have zLo := rLo.cells; have lLo := rLo.lt
  have zHi := rHi.cells; have lHi := rHi.lt
  go_wp2_with fail
  with_reducible refine (aw.out _).mono ?_
  rintro e w3 ⟨rfl, h3⟩
  clear zA0 lA0 zA1 lA1 zA2 lA2 zLo lLo zHi lHi
  replace rA0 := (((rA0.alloc _).alloc _)).keep h3
  replace rA1 := (((rA1.alloc _).alloc _)).keep h3
  replace rA2 := (((rA2.alloc _).alloc _)).keep h3
  replace rLo := (((rLo.alloc _).alloc _)).keep h3
  replace rHi := (((rHi.alloc _).alloc _)).keep h3
  have rQ := (((Res.new _ _ _).alloc _)).keep h3
  have rR := ((Res.new _ _ _)).keep h3; simp only [World.size_alloc] at rR
  replace bb := chain (balloc (balloc bb _) _) h3
  have zA0 := rA0.cells; have lA0 := rA0.lt
  have zA1 := rA1.cells; have lA1 := rA1.lt
  have zA2 := rA2.cells; have lA2 := rA2.lt
  have zLo := rLo.cells; have lLo := rLo.lt
  have zHi := rHi.cells; have lHi := rHi.lt
  have zQ := rQ.cells; have lQ := rQ.lt
  have zR := rR.cells; have lR := rR.lt
  clear zA0 lA0 zA1 lA1 zA2 lA2 zLo lLo zHi lHi zQ lQ zR lR
  go_wp2
  go_ret
  exact ⟨rfl, bb⟩

set_option maxRecDepth 100000 in
set_option maxHeartbeats 4000000 in
theorem inv_over (a b c l h : Nat) (hc : c < B256) (hc0 : c ≠ 0) (w : World)
    (c1 : Hid (∀ w, Calls Try.prog 10 #[U a, U b] w fun e w' => e = .returned (.tuple #[U l, U h]) ∧ Below w.heap.size w w'))
    (c2 : Hid (∀ w, Calls Try.prog 13 #[U l, U h, U c] w fun e w' => e = .returned (.tuple #[.agg #[.int .u64 0, .int .u64 0, .int .u64 0, .int .u64 0], .agg #[.int .u64 0, .int .u64 0, .int .u64 0, .int .u64 0], .int .i64 4]) ∧ Below w.heap.size w w'))
    (aw : Hid (∀ w, Calls Try.prog 12 #[] w fun e w' => e = .returned (.bool true) ∧ Below w.heap.size w w')) :
    Calls Try.prog 7 #[U a, U b, U c] w fun e w' => e = .returned (.bool true) ∧ Below w.heap.size w w' := by
  have E1 := fun w => eq4_run 0 0 0 0 0 0 0 0 w
  have E5 := eqZ c hc
  rw [decide_eq_false hc0] at E5
  have rA0 : Res (w.heap.size) 24 (arr a) (((w.alloc (.cells (arr a) 24)).alloc (.cells (arr b) 24)).alloc (.cells (arr c) 24)) := by
    have h := ((Res.new w 24 (arr a)).alloc (.cells (arr b) 24)).alloc (.cells (arr c) 24)
    exact h
  have rA1 : Res (w.heap.size + 1) 24 (arr b) (((w.alloc (.cells (arr a) 24)).alloc (.cells (arr b) 24)).alloc (.cells (arr c) 24)) := by
    have h := (Res.new (w.alloc (.cells (arr a) 24)) 24 (arr b)).alloc (.cells (arr c) 24)
    rw [World.size_alloc] at h
    exact h
  have rA2 : Res (w.heap.size + 1 + 1) 24 (arr c) (((w.alloc (.cells (arr a) 24)).alloc (.cells (arr b) 24)).alloc (.cells (arr c) 24)) := by
    have h := Res.new ((w.alloc (.cells (arr a) 24)).alloc (.cells (arr b) 24)) 24 (arr c)
    rw [World.size_alloc, World.size_alloc] at h
    exact h
  have bb : Below w.heap.size w (((w.alloc (.cells (arr a) 24)).alloc (.cells (arr b) 24)).alloc (.cells (arr c) 24)) := by go_grown
  go_enter Try.func7, Try.ntmps7
  go_wp2_with fail
  with_reducible refine (c1.out _).mono ?_
  rintro e w1 ⟨rfl, h1⟩
  replace rA0 := (rA0).keep h1
  replace rA1 := (rA1).keep h1
  replace rA2 := (rA2).keep h1
  replace bb := chain bb h1
  have zA0 := rA0.cells; have lA0 := rA0.lt
  have zA1 := rA1.cells; have lA1 := rA1.lt
  have zA2 := rA2.cells; have lA2 := rA2.lt
  go_wp2_with fail
  with_reducible refine (c2.out _).mono ?_
  rintro e w2 ⟨rfl, h2⟩
  clear zA0 lA0 zA1 lA1 zA2 lA2
  replace rA0 := (((rA0.alloc _).alloc _)).keep h2
  replace rA1 := (((rA1.alloc _).alloc _)).keep h2
  replace rA2 := (((rA2.alloc _).alloc _)).keep h2
  have rLo := (((Res.new _ _ _).alloc _)).keep h2
  have rHi := ((Res.new _ _ _)).keep h2; simp only [World.size_alloc] at rHi
  replace bb := chain (balloc (balloc bb _) _) h2
  have zA0 := rA0.cells; have lA0 := rA0.lt
  have zA1 := rA1.cells; have lA1 := rA1.lt
  have zA2 := rA2.cells; have lA2 := rA2.lt
  have zLo := rLo.cells; have lLo := rLo.lt
  have zHi := rHi.cells; have lHi := rHi.lt
  go_wp2_with fail
  with_reducible refine (aw.out _).mono ?_
  rintro e w3 ⟨rfl, h3⟩
  clear zA0 lA0 zA1 lA1 zA2 lA2 zLo lLo zHi lHi
  replace rA0 := (((rA0.alloc _).alloc _)).keep h3
  replace rA1 := (((rA1.alloc _).alloc _)).keep h3
  replace rA2 := (((rA2.alloc _).alloc _)).keep h3
  replace rLo := (((rLo.alloc _).alloc _)).keep h3
  replace rHi := (((rHi.alloc _).alloc _)).keep h3
  have rQ := (((Res.new _ _ _).alloc _)).keep h3
  have rR := ((Res.new _ _ _)).keep h3; simp only [World.size_alloc] at rR
  replace bb := chain (balloc (balloc bb _) _) h3
  have zA0 := rA0.cells; have lA0 := rA0.lt
  have zA1 := rA1.cells; have lA1 := rA1.lt
  have zA2 := rA2.cells; have lA2 := rA2.lt
  have zLo := rLo.cells; have lLo := rLo.lt
  have zHi := rHi.cells; have lHi := rHi.lt
  have zQ := rQ.cells; have lQ := rQ.lt
  have zR := rR.cells; have lR := rR.lt
  clear zA0 lA0 zA1 lA1 zA2 lA2 zLo lLo zHi lHi zQ lQ zR lR
  go_wp2
  go_ret
  exact ⟨rfl, bb⟩

set_option maxRecDepth 100000 in
set_option maxHeartbeats 4000000 in
theorem inv_plain (a b c l h q r x : Nat) (hl : l < B256) (hh : h < B256) (w : World)
    (c1 : Hid (∀ w, Calls Try.prog 10 #[U a, U b] w fun e w' => e = .returned (.tuple #[U l, U h]) ∧ Below w.heap.size w w'))
    (c2 : Hid (∀ w, Calls Try.prog 13 #[U l, U h, U c] w fun e w' => e = .returned (.tuple #[U q, U r, .int .i64 0]) ∧ Below w.heap.size w w'))
    (c3 : Hid (∀ w, Calls Try.prog 10 #[U q, U c] w fun e w' => e = .returned (.tuple #[U x, U h]) ∧ Below w.heap.size w w'))
    (c4 : Hid (∀ w, Calls Try.prog 21 #[U x, U r] w fun e w' => e = .returned (.tuple #[U l, .int .i64 0]) ∧ Below w.heap.size w w'))
    (c5 : Hid (∀ w, Calls Try.prog 23 #[U r, U c] w fun e w' => e = .returned (.int .i64 (-1)) ∧ Below w.heap.size w w'))
    (aw : Hid (∀ w, Calls Try.prog 12 #[] w fun e w' => e = .returned (.bool true) ∧ Below w.heap.size w w')) :
    Calls Try.prog 7 #[U a, U b, U c] w fun e w' => e = .returned (.bool true) ∧ Below w.heap.size w w' := by
  have E1 := eqSame l hl
  have E2 := eqSame h hh
  have rA0 : Res (w.heap.size) 24 (arr a) (((w.alloc (.cells (arr a) 24)).alloc (.cells (arr b) 24)).alloc (.cells (arr c) 24)) := by
    have h := ((Res.new w 24 (arr a)).alloc (.cells (arr b) 24)).alloc (.cells (arr c) 24)
    exact h
  have rA1 : Res (w.heap.size + 1) 24 (arr b) (((w.alloc (.cells (arr a) 24)).alloc (.cells (arr b) 24)).alloc (.cells (arr c) 24)) := by
    have h := (Res.new (w.alloc (.cells (arr a) 24)) 24 (arr b)).alloc (.cells (arr c) 24)
    rw [World.size_alloc] at h
    exact h
  have rA2 : Res (w.heap.size + 1 + 1) 24 (arr c) (((w.alloc (.cells (arr a) 24)).alloc (.cells (arr b) 24)).alloc (.cells (arr c) 24)) := by
    have h := Res.new ((w.alloc (.cells (arr a) 24)).alloc (.cells (arr b) 24)) 24 (arr c)
    rw [World.size_alloc, World.size_alloc] at h
    exact h
  have bb : Below w.heap.size w (((w.alloc (.cells (arr a) 24)).alloc (.cells (arr b) 24)).alloc (.cells (arr c) 24)) := by go_grown
  go_enter Try.func7, Try.ntmps7
  go_wp2_with fail
  with_reducible refine (c1.out _).mono ?_
  rintro e w1 ⟨rfl, h1⟩
  replace rA0 := (rA0).keep h1
  replace rA1 := (rA1).keep h1
  replace rA2 := (rA2).keep h1
  replace bb := chain bb h1
  have zA0 := rA0.cells; have lA0 := rA0.lt
  have zA1 := rA1.cells; have lA1 := rA1.lt
  have zA2 := rA2.cells; have lA2 := rA2.lt
  go_wp2_with fail
  with_reducible refine (c2.out _).mono ?_
  rintro e w2 ⟨rfl, h2⟩
  clear zA0 lA0 zA1 lA1 zA2 lA2
  replace rA0 := (((rA0.alloc _).alloc _)).keep h2
  replace rA1 := (((rA1.alloc _).alloc _)).keep h2
  replace rA2 := (((rA2.alloc _).alloc _)).keep h2
  have rLo := (((Res.new _ _ _).alloc _)).keep h2
  have rHi := ((Res.new _ _ _)).keep h2; simp only [World.size_alloc] at rHi
  replace bb := chain (balloc (balloc bb _) _) h2
  have zA0 := rA0.cells; have lA0 := rA0.lt
  have zA1 := rA1.cells; have lA1 := rA1.lt
  have zA2 := rA2.cells; have lA2 := rA2.lt
  have zLo := rLo.cells; have lLo := rLo.lt
  have zHi := rHi.cells; have lHi := rHi.lt
  go_wp2_with fail
  with_reducible refine (c3.out _).mono ?_
  rintro e w3 ⟨rfl, h3⟩
  clear zA0 lA0 zA1 lA1 zA2 lA2 zLo lLo zHi lHi
  replace rA0 := (((rA0.alloc _).alloc _)).keep h3
  replace rA1 := (((rA1.alloc _).alloc _)).keep h3
  replace rA2 := (((rA2.alloc _).alloc _)).keep h3
  replace rLo := (((rLo.alloc _).alloc _)).keep h3
  replace rHi := (((rHi.alloc _).alloc _)).keep h3
  have rQ := (((Res.new _ _ _).alloc _)).keep h3
  have rR := ((Res.new _ _ _)).keep h3; simp only [World.size_alloc] at rR
  replace bb := chain (balloc (balloc bb _) _) h3
  have zA0 := rA0.cells; have lA0 := rA0.lt
  have zA1 := rA1.cells; have lA1 := rA1.lt
  have zA2 := rA2.cells; have lA2 := rA2.lt
  have zLo := rLo.cells; have lLo := rLo.lt
  have zHi := rHi.cells; have lHi := rHi.lt
  have zQ := rQ.cells; have lQ := rQ.lt
  have zR := rR.cells; have lR := rR.lt
  go_wp2_with fail
  with_reducible refine (c4.out _).mono ?_
  rintro e w4 ⟨rfl, h4⟩
  clear zA0 lA0 zA1 lA1 zA2 lA2 zLo lLo zHi lHi zQ lQ zR lR
  replace rA0 := (((rA0.alloc _).alloc _)).keep h4
  replace rA1 := (((rA1.alloc _).alloc _)).keep h4
  replace rA2 := (((rA2.alloc _).alloc _)).keep h4
  replace rLo := (((rLo.alloc _).alloc _)).keep h4
  replace rHi := (((rHi.alloc _).alloc _)).keep h4
  replace rQ := (((rQ.alloc _).alloc _)).keep h4
  replace rR := (((rR.alloc _).alloc _)).keep h4
  have rX := (((Res.new _ _ _).alloc _)).keep h4
  have rY := ((Res.new _ _ _)).keep h4; simp only [World.size_alloc] at rY
  replace bb := chain (balloc (balloc bb _) _) h4
  have zA0 := rA0.cells; have lA0 := rA0.lt
  have zA1 := rA1.cells; have lA1 := rA1.lt
  have zA2 := rA2.cells; have lA2 := rA2.lt
  have zLo := rLo.cells; have lLo := rLo.lt
  have zHi := rHi.cells; have lHi := rHi.lt
  have zQ := rQ.cells; have lQ := rQ.lt
  have zR := rR.cells; have lR := rR.lt
  have zX := rX.cells; have lX := rX.lt
  have zY := rY.cells; have lY := rY.lt
  go_wp2_with fail
  with_reducible refine (c5.out _).mono ?_
  rintro e w5 ⟨rfl, h5⟩
  clear zA0 lA0 zA1 lA1 zA2 lA2 zLo lLo zHi lHi zQ lQ zR lR zX lX zY lY
  replace rA0 := ((rA0.alloc _)).keep h5
  replace rA1 := ((rA1.alloc _)).keep h5
  replace rA2 := ((rA2.alloc _)).keep h5
  replace rLo := ((rLo.alloc _)).keep h5
  replace rHi := ((rHi.alloc _)).keep h5
  replace rQ := ((rQ.alloc _)).keep h5
  replace rR := ((rR.alloc _)).keep h5
  replace rX := ((rX.alloc _)).keep h5
  replace rY := ((rY.alloc _)).keep h5
  have rZ := ((Res.new _ _ _)).keep h5
  replace bb := chain (balloc bb _) h5
  have zA0 := rA0.cells; have lA0 := rA0.lt
  have zA1 := rA1.cells; have lA1 := rA1.lt
  have zA2 := rA2.cells; have lA2 := rA2.lt
  have zLo := rLo.cells; have lLo := rLo.lt
  have zHi := rHi.cells; have lHi := rHi.lt
  have zQ := rQ.cells; have lQ := rQ.lt
  have zR := rR.cells; have lR := rR.lt
  have zX := rX.cells; have lX := rX.lt
  have zY := rY.cells; have lY := rY.lt
  have zZ := rZ.cells; have lZ := rZ.lt
  go_wp2_with fail
  with_reducible refine (aw.out _).mono ?_
  rintro e w6 ⟨rfl, h6⟩
  clear zA0 lA0 zA1 lA1 zA2 lA2 zLo lLo zHi lHi zQ lQ zR lR zX lX zY lY zZ lZ
  replace rA0 := (rA0).keep h6
  replace rA1 := (rA1).keep h6
  replace rA2 := (rA2).keep h6
  replace rLo := (rLo).keep h6
  replace rHi := (rHi).keep h6
  replace rQ := (rQ).keep h6
  replace rR := (rR).keep h6
  replace rX := (rX).keep h6
  replace rY := (rY).keep h6
  replace rZ := (rZ).keep h6
  replace bb := chain bb h6
  have zA0 := rA0.cells; have lA0 := rA0.lt
  have zA1 := rA1.cells; have lA1 := rA1.lt
  have zA2 := rA2.cells; have lA2 := rA2.lt
  have zLo := rLo.cells; have lLo := rLo.lt
  have zHi := rHi.cells; have lHi := rHi.lt
  have zQ := rQ.cells; have lQ := rQ.lt
  have zR := rR.cells; have lR := rR.lt
  have zX := rX.cells; have lX := rX.lt
  have zY := rY.cells; have lY := rY.lt
  have zZ := rZ.cells; have lZ := rZ.lt
  clear zA0 lA0 zA1 lA1 zA2 lA2 zLo lLo zHi lHi zQ lQ zR lR zX lX zY lY zZ lZ
  go_wp2
  go_ret
  exact ⟨rfl, bb⟩

set_option maxRecDepth 100000 in
set_option maxHeartbeats 8000000 in
theorem inv_carry (a b c l h q r x y s1 s2 : Nat) (hl : l < B256) (hh : h < B256) (w : World)
    (c1 : Hid (∀ w, Calls Try.prog 10 #[U a, U b] w fun e w' => e = .returned (.tuple #[U l, U h]) ∧ Below w.heap.size w w'))
    (c2 : Hid (∀ w, Calls Try.prog 13 #[U l, U h, U c] w fun e w' => e = .returned (.tuple #[U q, U r, .int .i64 0]) ∧ Below w.heap.size w w'))
    (c3 : Hid (∀ w, Calls Try.prog 10 #[U q, U c] w fun e w' => e = .returned (.tuple #[U x, U y]) ∧ Below w.heap.size w w'))
    (c4 : Hid (∀ w, Calls Try.prog 21 #[U x, U r] w fun e w' => e = .returned (.tuple #[.agg #[.int .u64 0, .int .u64 0, .int .u64 0, .int .u64 0], .int .i64 4]) ∧ Below w.heap.size w w'))
    (c5 : Hid (∀ w, Calls Try.prog 21 #[U y, .agg #[.int .u64 1, .int .u64 0, .int .u64 0, .int .u64 0]] w fun e w' => e = .returned (.tuple #[U h, .int .i64 0]) ∧ Below w.heap.size w w'))
    (c6 : Hid (∀ w, Calls Try.prog 22 #[.agg #[.int .u64 18446744073709551615, .int .u64 18446744073709551615, .int .u64 18446744073709551615, .int .u64 18446744073709551615], U x] w fun e w' => e = .returned (U s1) ∧ Below w.heap.size w w'))
    (c7 : Hid (∀ w, Calls Try.prog 22 #[U r, U s1] w fun e w' => e = .returned (U s2) ∧ Below w.heap.size w w'))
    (c8 : Hid (∀ w, Calls Try.prog 22 #[U s2, .agg #[.int .u64 1, .int .u64 0, .int .u64 0, .int .u64 0]] w fun e w' => e = .returned (U l) ∧ Below w.heap.size w w'))
    (c9 : Hid (∀ w, Calls Try.prog 23 #[U r, U c] w fun e w' => e = .returned (.int .i64 (-1)) ∧ Below w.heap.size w w'))
    (aw : Hid (∀ w, Calls Try.prog 12 #[] w fun e w' => e = .returned (.bool true) ∧ Below w.heap.size w w')) :
    Calls Try.prog 7 #[U a, U b, U c] w fun e w' => e = .returned (.bool true) ∧ Below w.heap.size w w' := by
  have E1 := eqSame l hl
  have E2 := eqSame h hh
  have rA0 : Res (w.heap.size) 24 (arr a) (((w.alloc (.cells (arr a) 24)).alloc (.cells (arr b) 24)).alloc (.cells (arr c) 24)) := by
    have h := ((Res.new w 24 (arr a)).alloc (.cells (arr b) 24)).alloc (.cells (arr c) 24)
    exact h
  have rA1 : Res (w.heap.size + 1) 24 (arr b) (((w.alloc (.cells (arr a) 24)).alloc (.cells (arr b) 24)).alloc (.cells (arr c) 24)) := by
    have h := (Res.new (w.alloc (.cells (arr a) 24)) 24 (arr b)).alloc (.cells (arr c) 24)
    rw [World.size_alloc] at h
    exact h
  have rA2 : Res (w.heap.size + 1 + 1) 24 (arr c) (((w.alloc (.cells (arr a) 24)).alloc (.cells (arr b) 24)).alloc (.cells (arr c) 24)) := by
    have h := Res.new ((w.alloc (.cells (arr a) 24)).alloc (.cells (arr b) 24)) 24 (arr c)
    rw [World.size_alloc, World.size_alloc] at h
    exact h
  have bb : Below w.heap.size w (((w.alloc (.cells (arr a) 24)).alloc (.cells (arr b) 24)).alloc (.cells (arr c) 24)) := by go_grown
  go_enter Try.func7, Try.ntmps7
  go_wp2_with fail
  with_reducible refine (c1.out _).mono ?_
  rintro e w1 ⟨rfl, h1⟩
  replace rA0 := (rA0).keep h1
  replace rA1 := (rA1).keep h1
  replace rA2 := (rA2).keep h1
  replace bb := chain bb h1
  have zA0 := rA0.cells; have lA0 := rA0.lt
  have zA1 := rA1.cells; have lA1 := rA1.lt
  have zA2 := rA2.cells; have lA2 := rA2.lt
  go_wp2_with fail
  with_reducible refine (c2.out _).mono ?_
  rintro e w2 ⟨rfl, h2⟩
  clear zA0 lA0 zA1 lA1 zA2 lA2
  replace rA0 := (((rA0.alloc _).alloc _)).keep h2
  replace rA1 := (((rA1.alloc _).alloc _)).keep h2
  replace rA2 := (((rA2.alloc _).alloc _)).keep h2
  have rLo := (((Res.new _ _ _).alloc _)).keep h2
  have rHi := ((Res.new _ _ _)).keep h2; simp only [World.size_alloc] at rHi
  replace bb := chain (balloc (balloc bb _) _) h2
  have zA0 := rA0.cells; have lA0 := rA0.lt
  have zA1 := rA1.cells; have lA1 := rA1.lt
  have zA2 := rA2.cells; have lA2 := rA2.lt
  have zLo := rLo.cells; have lLo := rLo.lt
  have zHi := rHi.cells; have lHi := rHi.lt
  go_wp2_with fail
  with_reducible refine (c3.out _).mono ?_
  rintro e w3 ⟨rfl, h3⟩
  clear zA0 lA0 zA1 lA1 zA2 lA2 zLo lLo zHi lHi
  replace rA0 := (((rA0.alloc _).alloc _)).keep h3
  replace rA1 := (((rA1.alloc _).alloc _)).keep h3
  replace rA2 := (((rA2.alloc _).alloc _)).keep h3
  replace rLo := (((rLo.alloc _).alloc _)).keep h3
  replace rHi := (((rHi.alloc _).alloc _)).keep h3
  have rQ := (((Res.new _ _ _).alloc _)).keep h3
  have rR := ((Res.new _ _ _)).keep h3; simp only [World.size_alloc] at rR
  replace bb := chain (balloc (balloc bb _) _) h3
  have zA0 := rA0.cells; have lA0 := rA0.lt
  have zA1 := rA1.cells; have lA1 := rA1.lt
  have zA2 := rA2.cells; have lA2 := rA2.lt
  have zLo := rLo.cells; have lLo := rLo.lt
  have zHi := rHi.cells; have lHi := rHi.lt
  have zQ := rQ.cells; have lQ := rQ.lt
  have zR := rR.cells; have lR := rR.lt
  go_wp2_with fail
  with_reducible refine (c4.out _).mono ?_
  rintro e w4 ⟨rfl, h4⟩
  clear zA0 lA0 zA1 lA1 zA2 lA2 zLo lLo zHi lHi zQ lQ zR lR
  replace rA0 := (((rA0.alloc _).alloc _)).keep h4
  replace rA1 := (((rA1.alloc _).alloc _)).keep h4
  replace rA2 := (((rA2.alloc _).alloc _)).keep h4
  replace rLo := (((rLo.alloc _).alloc _)).keep h4
  replace rHi := (((rHi.alloc _).alloc _)).keep h4
  replace rQ := (((rQ.alloc _).alloc _)).keep h4
  replace rR := (((rR.alloc _).alloc _)).keep h4
  have rX := (((Res.new _ _ _).alloc _)).keep h4
  have rY := ((Res.new _ _ _)).keep h4; simp only [World.size_alloc] at rY
  replace bb := chain (balloc (balloc bb _) _) h4
  have zA0 := rA0.cells; have lA0 := rA0.lt
  have zA1 := rA1.cells; have lA1 := rA1.lt
  have zA2 := rA2.cells; have lA2 := rA2.lt
  have zLo := rLo.cells; have lLo := rLo.lt
  have zHi := rHi.cells; have lHi := rHi.lt
  have zQ := rQ.cells; have lQ := rQ.lt
  have zR := rR.cells; have lR := rR.lt
  have zX := rX.cells; have lX := rX.lt
  have zY := rY.cells; have lY := rY.lt
  go_wp2_with fail
  with_reducible refine (c5.out _).mono ?_
  rintro e w5 ⟨rfl, h5⟩
  clear zA0 lA0 zA1 lA1 zA2 lA2 zLo lLo zHi lHi zQ lQ zR lR zX lX zY lY
  replace rA0 := ((rA0.alloc _)).keep h5
  replace rA1 := ((rA1.alloc _)).keep h5
  replace rA2 := ((rA2.alloc _)).keep h5
  replace rLo := ((rLo.alloc _)).keep h5
  replace rHi := ((rHi.alloc _)).keep h5
  replace rQ := ((rQ.alloc _)).keep h5
  replace rR := ((rR.alloc _)).keep h5
  replace rX := ((rX.alloc _)).keep h5
  replace rY := ((rY.alloc _)).keep h5
  have rZ := ((Res.new _ _ _)).keep h5
  replace bb := chain (balloc bb _) h5
  have zA0 := rA0.cells; have lA0 := rA0.lt
  have zA1 := rA1.cells; have lA1 := rA1.lt
  have zA2 := rA2.cells; have lA2 := rA2.lt
  have zLo := rLo.cells; have lLo := rLo.lt
  have zHi := rHi.cells; have lHi := rHi.lt
  have zQ := rQ.cells; have lQ := rQ.lt
  have zR := rR.cells; have lR := rR.lt
  have zX := rX.cells; have lX := rX.lt
  have zY := rY.cells; have lY := rY.lt
  have zZ := rZ.cells; have lZ := rZ.lt
  have mY := rY.marks; have mZ := rZ.marks
  have o1 := h1.size; simp only [World.size_alloc] at o1
  have o2 := h2.size; simp only [World.size_alloc] at o2
  have o3 := h3.size; simp only [World.size_alloc] at o3
  have o4 := h4.size; simp only [World.size_alloc] at o4
  have o5 := h5.size; simp only [World.size_alloc] at o5
  go_wp2
  clear mY mZ
  clear zA0 lA0 zA1 lA1 zA2 lA2 zLo lLo zHi lHi zQ lQ zR lR zX lX zY lY zZ lZ
  replace rA0 := far4R rA0 (by omega : _ ≠ w3.heap.size + 1) (.int .u64 (limb h 0)) (.int .u64 (limb h 1)) (.int .u64 (limb h 2)) (.int .u64 (limb h 3))
  replace rA1 := far4R rA1 (by omega : _ ≠ w3.heap.size + 1) (.int .u64 (limb h 0)) (.int .u64 (limb h 1)) (.int .u64 (limb h 2)) (.int .u64 (limb h 3))
  replace rA2 := far4R rA2 (by omega : _ ≠ w3.heap.size + 1) (.int .u64 (limb h 0)) (.int .u64 (limb h 1)) (.int .u64 (limb h 2)) (.int .u64 (limb h 3))
  replace rLo := far4R rLo (by omega : _ ≠ w3.heap.size + 1) (.int .u64 (limb h 0)) (.int .u64 (limb h 1)) (.int .u64 (limb h 2)) (.int .u64 (limb h 3))
  replace rHi := far4R rHi (by omega : _ ≠ w3.heap.size + 1) (.int .u64 (limb h 0)) (.int .u64 (limb h 1)) (.int .u64 (limb h 2)) (.int .u64 (limb h 3))
  replace rQ := far4R rQ (by omega : _ ≠ w3.heap.size + 1) (.int .u64 (limb h 0)) (.int .u64 (limb h 1)) (.int .u64 (limb h 2)) (.int .u64 (limb h 3))
  replace rR := far4R rR (by omega : _ ≠ w3.heap.size + 1) (.int .u64 (limb h 0)) (.int .u64 (limb h 1)) (.int .u64 (limb h 2)) (.int .u64 (limb h 3))
  replace rX := far4R rX (by omega : _ ≠ w3.heap.size + 1) (.int .u64 (limb h 0)) (.int .u64 (limb h 1)) (.int .u64 (limb h 2)) (.int .u64 (limb h 3))
  replace rY := put4R rY (.int .u64 (limb h 0)) (.int .u64 (limb h 1)) (.int .u64 (limb h 2)) (.int .u64 (limb h 3))
  replace rZ := far4R rZ (by omega : _ ≠ w3.heap.size + 1) (.int .u64 (limb h 0)) (.int .u64 (limb h 1)) (.int .u64 (limb h 2)) (.int .u64 (limb h 3))
  replace bb := put4B (g := w3.heap.size + 1) bb (by omega) (.int .u64 (limb h 0)) (.int .u64 (limb h 1)) (.int .u64 (limb h 2)) (.int .u64 (limb h 3))
  generalize ((((w5.setCell ⟨w3.heap.size + 1, 0, none⟩ (.int .u64 (limb h 0))).setCell ⟨w3.heap.size + 1, 1, none⟩ (.int .u64 (limb h 1))).setCell ⟨w3.heap.size + 1, 2, none⟩ (.int .u64 (limb h 2))).setCell ⟨w3.heap.size + 1, 3, none⟩ (.int .u64 (limb h 3))) = W at *
  replace bb := bb.drew
  replace rA0 := rA0.drew
  replace rA1 := rA1.drew
  replace rA2 := rA2.drew
  replace rLo := rLo.drew
  replace rHi := rHi.drew
  replace rQ := rQ.drew
  replace rR := rR.drew
  replace rX := rX.drew
  replace rY := rY.drew
  replace rZ := rZ.drew
  have q0 : W.cell? ⟨w2.heap.size + 1, 0, none⟩ = some (.int .u64 (limb r 0)) := rR.cells 0
  have p0 : W.cell? ⟨w3.heap.size, 0, none⟩ = some (.int .u64 (limb x 0)) := rX.cells 0
  have q1 : W.cell? ⟨w2.heap.size + 1, 1, none⟩ = some (.int .u64 (limb r 1)) := rR.cells 1
  have p1 : W.cell? ⟨w3.heap.size, 1, none⟩ = some (.int .u64 (limb x 1)) := rX.cells 1
  have q2 : W.cell? ⟨w2.heap.size + 1, 2, none⟩ = some (.int .u64 (limb r 2)) := rR.cells 2
  have p2 : W.cell? ⟨w3.heap.size, 2, none⟩ = some (.int .u64 (limb x 2)) := rX.cells 2
  have q3 : W.cell? ⟨w2.heap.size + 1, 3, none⟩ = some (.int .u64 (limb r 3)) := rR.cells 3
  have p3 : W.cell? ⟨w3.heap.size, 3, none⟩ = some (.int .u64 (limb x 3)) := rX.cells 3
  go_region_held3 (fun w' => w'.cell? ⟨w2.heap.size + 1, 0, none⟩ = some (.int .u64 (limb r 0)) ∧ w'.cell? ⟨w2.heap.size + 1, 1, none⟩ = some (.int .u64 (limb r 1)) ∧ w'.cell? ⟨w2.heap.size + 1, 2, none⟩ = some (.int .u64 (limb r 2)) ∧ w'.cell? ⟨w2.heap.size + 1, 3, none⟩ = some (.int .u64 (limb r 3)) ∧ w'.cell? ⟨w3.heap.size, 0, none⟩ = some (.int .u64 (limb x 0)) ∧ w'.cell? ⟨w3.heap.size, 1, none⟩ = some (.int .u64 (limb x 1)) ∧ w'.cell? ⟨w3.heap.size, 2, none⟩ = some (.int .u64 (limb x 2)) ∧ w'.cell? ⟨w3.heap.size, 3, none⟩ = some (.int .u64 (limb x 3)))
    (first | (go_keep; done) | (go_split_ands; refine ⟨?_, ?_, ?_, ?_, ?_, ?_, ?_, ?_⟩ <;> (rw [hw.cell (World.block_lt_of_cell? _ _ (by assumption))]; assumption)) | (go_split_ands; with_reducible refine ⟨far4 ?_ ?_, far4 ?_ ?_, far4 ?_ ?_, far4 ?_ ?_, far4 ?_ ?_, far4 ?_ ?_, far4 ?_ ?_, far4 ?_ ?_⟩ <;> first | assumption | (dsimp only; omega)))
    (first | (go_at_call 22; with_reducible refine (c6.out _).mono ?_; rintro e w6 ⟨rfl, hw⟩; have bb := chain bb hw; have rA0 := Res.keep rA0 hw; have rA1 := Res.keep rA1 hw; have rA2 := Res.keep rA2 hw; have rLo := Res.keep rLo hw; have rHi := Res.keep rHi hw; have rQ := Res.keep rQ hw; have rR := Res.keep rR hw; have rX := Res.keep rX hw; have rY := Res.keep rY hw; have rZ := Res.keep rZ hw; have o6 := hw.size) | (go_at_call 22; with_reducible refine (c7.out _).mono ?_; rintro e w7 ⟨rfl, hw⟩; have bb := chain bb hw; have rA0 := Res.keep rA0 hw; have rA1 := Res.keep rA1 hw; have rA2 := Res.keep rA2 hw; have rLo := Res.keep rLo hw; have rHi := Res.keep rHi hw; have rQ := Res.keep rQ hw; have rR := Res.keep rR hw; have rX := Res.keep rX hw; have rY := Res.keep rY hw; have rZ := Res.keep rZ hw; have zZ := rZ.cells; have mZ := rZ.marks))
  clear zZ mZ
  replace rA0 := far4R rA0 (by omega : _ ≠ w4.heap.size) (.int .u64 (limb s2 0)) (.int .u64 (limb s2 1)) (.int .u64 (limb s2 2)) (.int .u64 (limb s2 3))
  replace rA1 := far4R rA1 (by omega : _ ≠ w4.heap.size) (.int .u64 (limb s2 0)) (.int .u64 (limb s2 1)) (.int .u64 (limb s2 2)) (.int .u64 (limb s2 3))
  replace rA2 := far4R rA2 (by omega : _ ≠ w4.heap.size) (.int .u64 (limb s2 0)) (.int .u64 (limb s2 1)) (.int .u64 (limb s2 2)) (.int .u64 (limb s2 3))
  replace rLo := far4R rLo (by omega : _ ≠ w4.heap.size) (.int .u64 (limb s2 0)) (.int .u64 (limb s2 1)) (.int .u64 (limb s2 2)) (.int .u64 (limb s2 3))
  replace rHi := far4R rHi (by omega : _ ≠ w4.heap.size) (.int .u64 (limb s2 0)) (.int .u64 (limb s2 1)) (.int .u64 (limb s2 2)) (.int .u64 (limb s2 3))
  replace rQ := far4R rQ (by omega : _ ≠ w4.heap.size) (.int .u64 (limb s2 0)) (.int .u64 (limb s2 1)) (.int .u64 (limb s2 2)) (.int .u64 (limb s2 3))
  replace rR := far4R rR (by omega : _ ≠ w4.heap.size) (.int .u64 (limb s2 0)) (.int .u64 (limb s2 1)) (.int .u64 (limb s2 2)) (.int .u64 (limb s2 3))
  replace rX := far4R rX (by omega : _ ≠ w4.heap.size) (.int .u64 (limb s2 0)) (.int .u64 (limb s2 1)) (.int .u64 (limb s2 2)) (.int .u64 (limb s2 3))
  replace rY := far4R rY (by omega : _ ≠ w4.heap.size) (.int .u64 (limb s2 0)) (.int .u64 (limb s2 1)) (.int .u64 (limb s2 2)) (.int .u64 (limb s2 3))
  replace rZ := put4R rZ (.int .u64 (limb s2 0)) (.int .u64 (limb s2 1)) (.int .u64 (limb s2 2)) (.int .u64 (limb s2 3))
  replace bb := put4B (g := w4.heap.size) bb (by omega) (.int .u64 (limb s2 0)) (.int .u64 (limb s2 1)) (.int .u64 (limb s2 2)) (.int .u64 (limb s2 3))
  have zA0 := rA0.cells; have lA0 := rA0.lt
  have zA1 := rA1.cells; have lA1 := rA1.lt
  have zA2 := rA2.cells; have lA2 := rA2.lt
  have zLo := rLo.cells; have lLo := rLo.lt
  have zHi := rHi.cells; have lHi := rHi.lt
  have zQ := rQ.cells; have lQ := rQ.lt
  have zR := rR.cells; have lR := rR.lt
  have zX := rX.cells; have lX := rX.lt
  have zY := rY.cells; have lY := rY.lt
  have zZ := rZ.cells; have lZ := rZ.lt
  go_wp2_with fail
  with_reducible refine (c8.out _).mono ?_
  rintro e w6 ⟨rfl, h6⟩
  clear zA0 lA0 zA1 lA1 zA2 lA2 zLo lLo zHi lHi zQ lQ zR lR zX lX zY lY zZ lZ
  replace rA0 := (rA0).keep h6
  replace rA1 := (rA1).keep h6
  replace rA2 := (rA2).keep h6
  replace rLo := (rLo).keep h6
  replace rHi := (rHi).keep h6
  replace rQ := (rQ).keep h6
  replace rR := (rR).keep h6
  replace rX := (rX).keep h6
  replace rY := (rY).keep h6
  replace rZ := (rZ).keep h6
  replace bb := chain bb h6
  have zA0 := rA0.cells; have lA0 := rA0.lt
  have zA1 := rA1.cells; have lA1 := rA1.lt
  have zA2 := rA2.cells; have lA2 := rA2.lt
  have zLo := rLo.cells; have lLo := rLo.lt
  have zHi := rHi.cells; have lHi := rHi.lt
  have zQ := rQ.cells; have lQ := rQ.lt
  have zR := rR.cells; have lR := rR.lt
  have zX := rX.cells; have lX := rX.lt
  have zY := rY.cells; have lY := rY.lt
  have zZ := rZ.cells; have lZ := rZ.lt
  have mZ := rZ.marks; have yZ := rZ.cells; have o8 := h6.size
  clear zA0 lA0 zA1 lA1 zA2 lA2 zLo lLo zHi lHi zQ lQ zR lR zX lX zY lY zZ lZ
  replace rA0 := far4R rA0 (by omega : _ ≠ w4.heap.size) (.int .u64 (limb l 0)) (.int .u64 (limb l 1)) (.int .u64 (limb l 2)) (.int .u64 (limb l 3))
  replace rA1 := far4R rA1 (by omega : _ ≠ w4.heap.size) (.int .u64 (limb l 0)) (.int .u64 (limb l 1)) (.int .u64 (limb l 2)) (.int .u64 (limb l 3))
  replace rA2 := far4R rA2 (by omega : _ ≠ w4.heap.size) (.int .u64 (limb l 0)) (.int .u64 (limb l 1)) (.int .u64 (limb l 2)) (.int .u64 (limb l 3))
  replace rLo := far4R rLo (by omega : _ ≠ w4.heap.size) (.int .u64 (limb l 0)) (.int .u64 (limb l 1)) (.int .u64 (limb l 2)) (.int .u64 (limb l 3))
  replace rHi := far4R rHi (by omega : _ ≠ w4.heap.size) (.int .u64 (limb l 0)) (.int .u64 (limb l 1)) (.int .u64 (limb l 2)) (.int .u64 (limb l 3))
  replace rQ := far4R rQ (by omega : _ ≠ w4.heap.size) (.int .u64 (limb l 0)) (.int .u64 (limb l 1)) (.int .u64 (limb l 2)) (.int .u64 (limb l 3))
  replace rR := far4R rR (by omega : _ ≠ w4.heap.size) (.int .u64 (limb l 0)) (.int .u64 (limb l 1)) (.int .u64 (limb l 2)) (.int .u64 (limb l 3))
  replace rX := far4R rX (by omega : _ ≠ w4.heap.size) (.int .u64 (limb l 0)) (.int .u64 (limb l 1)) (.int .u64 (limb l 2)) (.int .u64 (limb l 3))
  replace rY := far4R rY (by omega : _ ≠ w4.heap.size) (.int .u64 (limb l 0)) (.int .u64 (limb l 1)) (.int .u64 (limb l 2)) (.int .u64 (limb l 3))
  replace rZ := put4R rZ (.int .u64 (limb l 0)) (.int .u64 (limb l 1)) (.int .u64 (limb l 2)) (.int .u64 (limb l 3))
  replace bb := put4B (g := w4.heap.size) bb (by omega) (.int .u64 (limb l 0)) (.int .u64 (limb l 1)) (.int .u64 (limb l 2)) (.int .u64 (limb l 3))
  have zA0 := rA0.cells; have lA0 := rA0.lt
  have zA1 := rA1.cells; have lA1 := rA1.lt
  have zA2 := rA2.cells; have lA2 := rA2.lt
  have zLo := rLo.cells; have lLo := rLo.lt
  have zHi := rHi.cells; have lHi := rHi.lt
  have zQ := rQ.cells; have lQ := rQ.lt
  have zR := rR.cells; have lR := rR.lt
  have zX := rX.cells; have lX := rX.lt
  have zY := rY.cells; have lY := rY.lt
  have zZ := rZ.cells; have lZ := rZ.lt
  go_wp2_with fail
  with_reducible refine (c9.out _).mono ?_
  rintro e w7 ⟨rfl, h7⟩
  clear zA0 lA0 zA1 lA1 zA2 lA2 zLo lLo zHi lHi zQ lQ zR lR zX lX zY lY zZ lZ
  replace rA0 := (rA0).keep h7
  replace rA1 := (rA1).keep h7
  replace rA2 := (rA2).keep h7
  replace rLo := (rLo).keep h7
  replace rHi := (rHi).keep h7
  replace rQ := (rQ).keep h7
  replace rR := (rR).keep h7
  replace rX := (rX).keep h7
  replace rY := (rY).keep h7
  replace rZ := (rZ).keep h7
  replace bb := chain bb h7
  have zA0 := rA0.cells; have lA0 := rA0.lt
  have zA1 := rA1.cells; have lA1 := rA1.lt
  have zA2 := rA2.cells; have lA2 := rA2.lt
  have zLo := rLo.cells; have lLo := rLo.lt
  have zHi := rHi.cells; have lHi := rHi.lt
  have zQ := rQ.cells; have lQ := rQ.lt
  have zR := rR.cells; have lR := rR.lt
  have zX := rX.cells; have lX := rX.lt
  have zY := rY.cells; have lY := rY.lt
  have zZ := rZ.cells; have lZ := rZ.lt
  clear mZ yZ
  go_wp2_with fail
  with_reducible refine (aw.out _).mono ?_
  rintro e w8 ⟨rfl, h8⟩
  clear zA0 lA0 zA1 lA1 zA2 lA2 zLo lLo zHi lHi zQ lQ zR lR zX lX zY lY zZ lZ
  replace rA0 := (rA0).keep h8
  replace rA1 := (rA1).keep h8
  replace rA2 := (rA2).keep h8
  replace rLo := (rLo).keep h8
  replace rHi := (rHi).keep h8
  replace rQ := (rQ).keep h8
  replace rR := (rR).keep h8
  replace rX := (rX).keep h8
  replace rY := (rY).keep h8
  replace rZ := (rZ).keep h8
  replace bb := chain bb h8
  have zA0 := rA0.cells; have lA0 := rA0.lt
  have zA1 := rA1.cells; have lA1 := rA1.lt
  have zA2 := rA2.cells; have lA2 := rA2.lt
  have zLo := rLo.cells; have lLo := rLo.lt
  have zHi := rHi.cells; have lHi := rHi.lt
  have zQ := rQ.cells; have lQ := rQ.lt
  have zR := rR.cells; have lR := rR.lt
  have zX := rX.cells; have lX := rX.lt
  have zY := rY.cells; have lY := rY.lt
  have zZ := rZ.cells; have lZ := rZ.lt
  clear zA0 lA0 zA1 lA1 zA2 lA2 zLo lLo zHi lHi zQ lQ zR lR zX lX zY lY zZ lZ
  go_wp2
  go_ret
  exact ⟨rfl, bb⟩

end Go.Proofs.Ytahkgkcbcadnoaa
