/- The walks of the law MulDivCeilMinusFloor over this translation, from the contracts of what it calls: it returns true, and memory that was there is as it was. -/
import Derived.Test.YtahkgkcbcadnoaaLaw2a
import Derived.StillTailTactics
namespace Go.Proofs.Ytahkgkcbcadnoaa
open Go.RowKit

set_option maxRecDepth 100000 in
set_option maxHeartbeats 4000000 in
theorem cmf_zero (a b d u : Nat) (w : World)
    (c1 : Hid (∀ w, Calls Try.prog 16 #[U a, U b, U 0] w fun e w' => e = .returned (.tuple #[U d, .int .i64 5]) ∧ Below w.heap.size w w'))
    (c2 : Hid (∀ w, Calls Try.prog 18 #[U a, U b, U 0] w fun e w' => e = .returned (.tuple #[U u, .int .i64 5]) ∧ Below w.heap.size w w'))
    (aw : Hid (∀ w, Calls Try.prog 12 #[] w fun e w' => e = .returned (.bool true) ∧ Below w.heap.size w w')) :
    Calls Try.prog 8 #[U a, U b, U 0] w fun e w' => e = .returned (.bool true) ∧ Below w.heap.size w w' := by
  have E5 := eqZ 0 (by decide)
  rw [decide_eq_true rfl] at E5
  have rA0 : Res (w.heap.size) 24 (arr a) (((w.alloc (.cells (arr a) 24)).alloc (.cells (arr b) 24)).alloc (.cells (arr 0) 24)) := by
    have h := ((Res.new w 24 (arr a)).alloc (.cells (arr b) 24)).alloc (.cells (arr 0) 24)
    exact h
  have rA1 : Res (w.heap.size + 1) 24 (arr b) (((w.alloc (.cells (arr a) 24)).alloc (.cells (arr b) 24)).alloc (.cells (arr 0) 24)) := by
    have h := (Res.new (w.alloc (.cells (arr a) 24)) 24 (arr b)).alloc (.cells (arr 0) 24)
    rw [World.size_alloc] at h
    exact h
  have rA2 : Res (w.heap.size + 1 + 1) 24 (arr 0) (((w.alloc (.cells (arr a) 24)).alloc (.cells (arr b) 24)).alloc (.cells (arr 0) 24)) := by
    have h := Res.new ((w.alloc (.cells (arr a) 24)).alloc (.cells (arr b) 24)) 24 (arr 0)
    rw [World.size_alloc, World.size_alloc] at h
    exact h
  have bb : Below w.heap.size w (((w.alloc (.cells (arr a) 24)).alloc (.cells (arr b) 24)).alloc (.cells (arr 0) 24)) := by go_grown
  go_enter Try.func8, Try.ntmps8
  go_wp2_with fail
  with_reducible refine (c1.out _).mono ?_
  rintro e w1 ⟨rfl, h1⟩
  replace rA0 := (rA0).keep h1
  replace rA1 := (rA1).keep h1
  replace rA2 := (rA2).keep h1
  replace bb := chain bb h1
  have zA0 := rA0.cells; have lA0 := rA0.lt
  have zA1 := rA1.cells; have lA1 := rA1.lt
  have zA2 := rA2.cells; have lA2 := rA2.lt
  go_wp2_with fail
  with_reducible refine (c2.out _).mono ?_
  rintro e w2 ⟨rfl, h2⟩
  clear zA0 lA0 zA1 lA1 zA2 lA2
  replace rA0 := ((rA0.alloc _)).keep h2
  replace rA1 := ((rA1.alloc _)).keep h2
  replace rA2 := ((rA2.alloc _)).keep h2
  have rD := ((Res.new _ _ _)).keep h2
  replace bb := chain (balloc bb _) h2
  have zA0 := rA0.cells; have lA0 := rA0.lt
  have zA1 := rA1.cells; have lA1 := rA1.lt
  have zA2 := rA2.cells; have lA2 := rA2.lt
  have zD := rD.cells; have lD := rD.lt
  go_wp2_with fail
  with_reducible refine (aw.out _).mono ?_
  rintro e w3 ⟨rfl, h3⟩
  clear zA0 lA0 zA1 lA1 zA2 lA2 zD lD
  replace rA0 := ((rA0.alloc _)).keep h3
  replace rA1 := ((rA1.alloc _)).keep h3
  replace rA2 := ((rA2.alloc _)).keep h3
  replace rD := ((rD.alloc _)).keep h3
  have rK := ((Res.new _ _ _)).keep h3
  replace bb := chain (balloc bb _) h3
  have zA0 := rA0.cells; have lA0 := rA0.lt
  have zA1 := rA1.cells; have lA1 := rA1.lt
  have zA2 := rA2.cells; have lA2 := rA2.lt
  have zD := rD.cells; have lD := rD.lt
  have zK := rK.cells; have lK := rK.lt
  clear zA0 lA0 zA1 lA1 zA2 lA2 zD lD zK lK
  go_wp2
  go_ret
  exact ⟨rfl, bb⟩

set_option maxRecDepth 100000 in
set_option maxHeartbeats 8000000 in
theorem cmf_over (a b c l h q d u r : Nat) (hc : c < B256) (hc0 : c ≠ 0) (w : World)
    (c1 : Hid (∀ w, Calls Try.prog 16 #[U a, U b, U c] w fun e w' => e = .returned (.tuple #[U d, .int .i64 4]) ∧ Below w.heap.size w w'))
    (c2 : Hid (∀ w, Calls Try.prog 18 #[U a, U b, U c] w fun e w' => e = .returned (.tuple #[U u, .int .i64 4]) ∧ Below w.heap.size w w'))
    (c3 : Hid (∀ w, Calls Try.prog 10 #[U a, U b] w fun e w' => e = .returned (.tuple #[U l, U h]) ∧ Below w.heap.size w w'))
    (c4 : Hid (∀ w, Calls Try.prog 13 #[U l, U h, U c] w fun e w' => e = .returned (.tuple #[U q, U r, .int .i64 4]) ∧ Below w.heap.size w w'))
    (aw : Hid (∀ w, Calls Try.prog 12 #[] w fun e w' => e = .returned (.bool true) ∧ Below w.heap.size w w')) :
    Calls Try.prog 8 #[U a, U b, U c] w fun e w' => e = .returned (.bool true) ∧ Below w.heap.size w w' := by
  have E5 := eqZ c hc
  rw [decide_eq_false hc0] at E5
  have rA0 : Res (w.heap.size) 24 (arr a) (((w.alloc (.cells (arr a) 24)).alloc (.cells (arr b) 24)).alloc (.cells (arr c) 24)) := by
    have h := ((Res.new w 24 (arr a)).alloc (.cells (arr b) 24)).alloc (.cells (arr c) 24)
    exact h
  have rA1 : Res (w.heap.size + 1) 24 (arr b) (((w.alloc (.cells (arr a) 24)).alloc (.cells (arr b) 24)).alloc (.cells (arr c) 24)) := by
    have h := (Res.new (w.alloc (.cells (arr a) 24)) 24 (arr b)).alloc (.cells (arr c) 24)
    rw [World.size_alloc] at h
    exact h
  have rA2 : Res (w.heap.size + 1 + 1) 24 (arr c) (((w.alloc (.cells (arr a) 24)).alloc (.cells (arr b) 24)).alloc (.cells (arr c) 24)) := by
    have h := Res.new ((w.alloc (.cells (arr a) 24)).alloc (.cells (arr b) 24)) 24 (arr c)
    rw [World.size_alloc, World.size_alloc] at h
    exact h
  have bb : Below w.heap.size w (((w.alloc (.cells (arr a) 24)).alloc (.cells (arr b) 24)).alloc (.cells (arr c) 24)) := by go_grown
  go_enter Try.func8, Try.ntmps8
  go_wp2_with fail
  with_reducible refine (c1.out _).mono ?_
  rintro e w1 ⟨rfl, h1⟩
  replace rA0 := (rA0).keep h1
  replace rA1 := (rA1).keep h1
  replace rA2 := (rA2).keep h1
  replace bb := chain bb h1
  have zA0 := rA0.cells; have lA0 := rA0.lt
  have zA1 := rA1.cells; have lA1 := rA1.lt
  have zA2 := rA2.cells; have lA2 := rA2.lt
  go_wp2_with fail
  with_reducible refine (c2.out _).mono ?_
  rintro e w2 ⟨rfl, h2⟩
  clear zA0 lA0 zA1 lA1 zA2 lA2
  replace rA0 := ((rA0.alloc _)).keep h2
  replace rA1 := ((rA1.alloc _)).keep h2
  replace rA2 := ((rA2.alloc _)).keep h2
  have rD := ((Res.new _ _ _)).keep h2
  replace bb := chain (balloc bb _) h2
  have zA0 := rA0.cells; have lA0 := rA0.lt
  have zA1 := rA1.cells; have lA1 := rA1.lt
  have zA2 := rA2.cells; have lA2 := rA2.lt
  have zD := rD.cells; have lD := rD.lt
  go_wp2_with fail
  with_reducible refine (c3.out _).mono ?_
  rintro e w3 ⟨rfl, h3⟩
  clear zA0 lA0 zA1 lA1 zA2 lA2 zD lD
  replace rA0 := ((rA0.alloc _)).keep h3
  replace rA1 := ((rA1.alloc _)).keep h3
  replace rA2 := ((rA2.alloc _)).keep h3
  replace rD := ((rD.alloc _)).keep h3
  have rK := ((Res.new _ _ _)).keep h3
  replace bb := chain (balloc bb _) h3
  have zA0 := rA0.cells; have lA0 := rA0.lt
  have zA1 := rA1.cells; have lA1 := rA1.lt
  have zA2 := rA2.cells; have lA2 := rA2.lt
  have zD := rD.cells; have lD := rD.lt
  have zK := rK.cells; have lK := rK.lt
  go_wp2_with fail
  with_reducible refine (c4.out _).mono ?_
  rintro e w4 ⟨rfl, h4⟩
  clear zA0 lA0 zA1 lA1 zA2 lA2 zD lD zK lK
  replace rA0 := (((rA0.alloc _).alloc _)).keep h4
  replace rA1 := (((rA1.alloc _).alloc _)).keep h4
  replace rA2 := (((rA2.alloc _).alloc _)).keep h4
  replace rD := (((rD.alloc _).alloc _)).keep h4
  replace rK := (((rK.alloc _).alloc _)).keep h4
  have rLo := (((Res.new _ _ _).alloc _)).keep h4
  have rHi := ((Res.new _ _ _)).keep h4; simp only [World.size_alloc] at rHi
  replace bb := chain (balloc (balloc bb _) _) h4
  have zA0 := rA0.cells; have lA0 := rA0.lt
  have zA1 := rA1.cells; have lA1 := rA1.lt
  have zA2 := rA2.cells; have lA2 := rA2.lt
  have zD := rD.cells; have lD := rD.lt
  have zK := rK.cells; have lK := rK.lt
  have zLo := rLo.cells; have lLo := rLo.lt
  have zHi := rHi.cells; have lHi := rHi.lt
  go_wp2
  clear zA0 lA0 zA1 lA1 zA2 lA2 zD lD zK lK zLo lLo zHi lHi
  replace bb := (balloc (balloc bb (.cells (arr q) 24)) (.cells (arr r) 24))
  generalize ((w4.alloc (.cells (arr q) 24)).alloc (.cells (arr r) 24)) = W at *
  replace bb := bb.drew
  go_still_tail 27, (by kernel_rfl)
  change wpList _ _ _ _ _ W.drew
  generalize W.drew = V at *
  go_wp2_with fail
  with_reducible refine (aw.out _).mono ?_
  rintro e w9 ⟨rfl, hw⟩
  replace bb := chain bb hw
  go_wp2
  go_ret
  exact ⟨rfl, bb⟩

set_option maxRecDepth 100000 in
set_option maxHeartbeats 8000000 in
theorem cmf_edge (a b c l h q d u r : Nat) (hd : d < B256) (hr : r < B256) (hr0 : r ≠ 0) (hc : c < B256) (hc0 : c ≠ 0) (w : World)
    (c1 : Hid (∀ w, Calls Try.prog 16 #[U a, U b, U c] w fun e w' => e = .returned (.tuple #[U d, .int .i64 0]) ∧ Below w.heap.size w w'))
    (c2 : Hid (∀ w, Calls Try.prog 18 #[U a, U b, U c] w fun e w' => e = .returned (.tuple #[U u, .int .i64 4]) ∧ Below w.heap.size w w'))
    (c3 : Hid (∀ w, Calls Try.prog 10 #[U a, U b] w fun e w' => e = .returned (.tuple #[U l, U h]) ∧ Below w.heap.size w w'))
    (c4 : Hid (∀ w, Calls Try.prog 13 #[U l, U h, U c] w fun e w' => e = .returned (.tuple #[U q, U r, .int .i64 0]) ∧ Below w.heap.size w w'))
    (c5 : Hid (∀ w, Calls Try.prog 24 #[] w fun e w' => e = .returned (U d) ∧ Below w.heap.size w w'))
    (aw : Hid (∀ w, Calls Try.prog 12 #[] w fun e w' => e = .returned (.bool true) ∧ Below w.heap.size w w')) :
    Calls Try.prog 8 #[U a, U b, U c] w fun e w' => e = .returned (.bool true) ∧ Below w.heap.size w w' := by
  have E5 := eqZ c hc
  rw [decide_eq_false hc0] at E5
  have E1 := eqSame d hd
  have E6 := eqZ r hr
  rw [decide_eq_false hr0] at E6
  have rA0 : Res (w.heap.size) 24 (arr a) (((w.alloc (.cells (arr a) 24)).alloc (.cells (arr b) 24)).alloc (.cells (arr c) 24)) := by
    have h := ((Res.new w 24 (arr a)).alloc (.cells (arr b) 24)).alloc (.cells (arr c) 24)
    exact h
  have rA1 : Res (w.heap.size + 1) 24 (arr b) (((w.alloc (.cells (arr a) 24)).alloc (.cells (arr b) 24)).alloc (.cells (arr c) 24)) := by
    have h := (Res.new (w.alloc (.cells (arr a) 24)) 24 (arr b)).alloc (.cells (arr c) 24)
    rw [World.size_alloc] at h
    exact h
  have rA2 : Res (w.heap.size + 1 + 1) 24 (arr c) (((w.alloc (.cells (arr a) 24)).alloc (.cells (arr b) 24)).alloc (.cells (arr c) 24)) := by
    have h := Res.new ((w.alloc (.cells (arr a) 24)).alloc (.cells (arr b) 24)) 24 (arr c)
    rw [World.size_alloc, World.size_alloc] at h
    exact h
  have bb : Below w.heap.size w (((w.alloc (.cells (arr a) 24)).alloc (.cells (arr b) 24)).alloc (.cells (arr c) 24)) := by go_grown
  go_enter Try.func8, Try.ntmps8
  go_wp2_with fail
  with_reducible refine (c1.out _).mono ?_
  rintro e w1 ⟨rfl, h1⟩
  replace rA0 := (rA0).keep h1
  replace rA1 := (rA1).keep h1
  replace rA2 := (rA2).keep h1
  replace bb := chain bb h1
  have zA0 := rA0.cells; have lA0 := rA0.lt
  have zA1 := rA1.cells; have lA1 := rA1.lt
  have zA2 := rA2.cells; have lA2 := rA2.lt
  go_wp2_with fail
  with_reducible refine (c2.out _).mono ?_
  rintro e w2 ⟨rfl, h2⟩
  clear zA0 lA0 zA1 lA1 zA2 lA2
  replace rA0 := ((rA0.alloc _)).keep h2
  replace rA1 := ((rA1.alloc _)).keep h2
  replace rA2 := ((rA2.alloc _)).keep h2
  have rD := ((Res.new _ _ _)).keep h2
  replace bb := chain (balloc bb _) h2
  have zA0 := rA0.cells; have lA0 := rA0.lt
  have zA1 := rA1.cells; have lA1 := rA1.lt
  have zA2 := rA2.cells; have lA2 := rA2.lt
  have zD := rD.cells; have lD := rD.lt
  go_wp2_with fail
  with_reducible refine (c3.out _).mono ?_
  rintro e w3 ⟨rfl, h3⟩
  clear zA0 lA0 zA1 lA1 zA2 lA2 zD lD
  replace rA0 := ((rA0.alloc _)).keep h3
  replace rA1 := ((rA1.alloc _)).keep h3
  replace rA2 := ((rA2.alloc _)).keep h3
  replace rD := ((rD.alloc _)).keep h3
  have rK := ((Res.new _ _ _)).keep h3
  replace bb := chain (balloc bb _) h3
  have zA0 := rA0.cells; have lA0 := rA0.lt
  have zA1 := rA1.cells; have lA1 := rA1.lt
  have zA2 := rA2.cells; have lA2 := rA2.lt
  have zD := rD.cells; have lD := rD.lt
  have zK := rK.cells; have lK := rK.lt
  go_wp2_with fail
  with_reducible refine (c4.out _).mono ?_
  rintro e w4 ⟨rfl, h4⟩
  clear zA0 lA0 zA1 lA1 zA2 lA2 zD lD zK lK
  replace rA0 := (((rA0.alloc _).alloc _)).keep h4
  replace rA1 := (((rA1.alloc _).alloc _)).keep h4
  replace rA2 := (((rA2.alloc _).alloc _)).keep h4
  replace rD := (((rD.alloc _).alloc _)).keep h4
  replace rK := (((rK.alloc _).alloc _)).keep h4
  have rLo := (((Res.new _ _ _).alloc _)).keep h4
  have rHi := ((Res.new _ _ _)).keep h4; simp only [World.size_alloc] at rHi
  replace bb := chain (balloc (balloc bb _) _) h4
  have zA0 := rA0.cells; have lA0 := rA0.lt
  have zA1 := rA1.cells; have lA1 := rA1.lt
  have zA2 := rA2.cells; have lA2 := rA2.lt
  have zD := rD.cells; have lD := rD.lt
  have zK := rK.cells; have lK := rK.lt
  have zLo := rLo.cells; have lLo := rLo.lt
  have zHi := rHi.cells; have lHi := rHi.lt
  go_wp2
  clear zA0 lA0 zA1 lA1 zA2 lA2 zD lD zK lK zLo lLo zHi lHi
  replace rD := ((rD.alloc (.cells (arr q) 24)).alloc (.cells (arr r) 24))
  have rR := Res.new (w4.alloc (.cells (arr q) 24)) 24 (arr r); simp only [World.size_alloc] at rR
  replace bb := (balloc (balloc bb (.cells (arr q) 24)) (.cells (arr r) 24))
  generalize ((w4.alloc (.cells (arr q) 24)).alloc (.cells (arr r) 24)) = W at *
  have qD0 : W.cell? ⟨w1.heap.size, 0, none⟩ = some (.int .u64 (limb d 0)) := rD.cells 0
  have qD1 : W.cell? ⟨w1.heap.size, 1, none⟩ = some (.int .u64 (limb d 1)) := rD.cells 1
  have qD2 : W.cell? ⟨w1.heap.size, 2, none⟩ = some (.int .u64 (limb d 2)) := rD.cells 2
  have qD3 : W.cell? ⟨w1.heap.size, 3, none⟩ = some (.int .u64 (limb d 3)) := rD.cells 3
  have qR0 : W.cell? ⟨w4.heap.size + 1, 0, none⟩ = some (.int .u64 (limb r 0)) := rR.cells 0
  have qR1 : W.cell? ⟨w4.heap.size + 1, 1, none⟩ = some (.int .u64 (limb r 1)) := rR.cells 1
  have qR2 : W.cell? ⟨w4.heap.size + 1, 2, none⟩ = some (.int .u64 (limb r 2)) := rR.cells 2
  have qR3 : W.cell? ⟨w4.heap.size + 1, 3, none⟩ = some (.int .u64 (limb r 3)) := rR.cells 3
  replace bb := bb.drew
  go_region_held3 (fun w' => w'.cell? ⟨w1.heap.size, 0, none⟩ = some (.int .u64 (limb d 0)) ∧ w'.cell? ⟨w1.heap.size, 1, none⟩ = some (.int .u64 (limb d 1)) ∧ w'.cell? ⟨w1.heap.size, 2, none⟩ = some (.int .u64 (limb d 2)) ∧ w'.cell? ⟨w1.heap.size, 3, none⟩ = some (.int .u64 (limb d 3)) ∧ w'.cell? ⟨w4.heap.size + 1, 0, none⟩ = some (.int .u64 (limb r 0)) ∧ w'.cell? ⟨w4.heap.size + 1, 1, none⟩ = some (.int .u64 (limb r 1)) ∧ w'.cell? ⟨w4.heap.size + 1, 2, none⟩ = some (.int .u64 (limb r 2)) ∧ w'.cell? ⟨w4.heap.size + 1, 3, none⟩ = some (.int .u64 (limb r 3)))
    (first | (go_keep; done) | (go_split_ands; refine ⟨?_, ?_, ?_, ?_, ?_, ?_, ?_, ?_⟩ <;> (rw [hw.cell (World.block_lt_of_cell? _ _ (by assumption))]; assumption)))
    (first | (go_at_call 24; with_reducible refine (c5.out _).mono ?_; rintro e w9 ⟨rfl, hw⟩; have bb := chain bb hw) | (go_at_call 12; with_reducible refine (aw.out _).mono ?_; rintro e w9 ⟨rfl, hw⟩; have bb := chain bb hw))
  go_wp2
  go_ret
  exact ⟨rfl, bb⟩

set_option maxRecDepth 100000 in
set_option maxHeartbeats 8000000 in
theorem cmf_even (a b c l h q d u : Nat) (x : Int) (hx : x ≤ 0) (hc : c < B256) (hc0 : c ≠ 0) (w : World)
    (c1 : Hid (∀ w, Calls Try.prog 16 #[U a, U b, U c] w fun e w' => e = .returned (.tuple #[U d, .int .i64 0]) ∧ Below w.heap.size w w'))
    (c2 : Hid (∀ w, Calls Try.prog 18 #[U a, U b, U c] w fun e w' => e = .returned (.tuple #[U u, .int .i64 0]) ∧ Below w.heap.size w w'))
    (c3 : Hid (∀ w, Calls Try.prog 10 #[U a, U b] w fun e w' => e = .returned (.tuple #[U l, U h]) ∧ Below w.heap.size w w'))
    (c4 : Hid (∀ w, Calls Try.prog 13 #[U l, U h, U c] w fun e w' => e = .returned (.tuple #[U q, U 0, .int .i64 0]) ∧ Below w.heap.size w w'))
    (c5 : Hid (∀ w, Calls Try.prog 22 #[U u, U d] w fun e w' => e = .returned (U 0) ∧ Below w.heap.size w w'))
    (c6 : Hid (∀ w, Calls Try.prog 23 #[U 0, .agg #[.int .u64 1, .int .u64 0, .int .u64 0, .int .u64 0]] w fun e w' => e = .returned (.int .i64 x) ∧ Below w.heap.size w w'))
    (aw : Hid (∀ w, Calls Try.prog 12 #[] w fun e w' => e = .returned (.bool true) ∧ Below w.heap.size w w')) :
    Calls Try.prog 8 #[U a, U b, U c] w fun e w' => e = .returned (.bool true) ∧ Below w.heap.size w w' := by
  have E5 := eqZ c hc
  rw [decide_eq_false hc0] at E5
  have E6 := eqZ 0 (by decide)
  rw [decide_eq_true rfl] at E6
  have rA0 : Res (w.heap.size) 24 (arr a) (((w.alloc (.cells (arr a) 24)).alloc (.cells (arr b) 24)).alloc (.cells (arr c) 24)) := by
    have h := ((Res.new w 24 (arr a)).alloc (.cells (arr b) 24)).alloc (.cells (arr c) 24)
    exact h
  have rA1 : Res (w.heap.size + 1) 24 (arr b) (((w.alloc (.cells (arr a) 24)).alloc (.cells (arr b) 24)).alloc (.cells (arr c) 24)) := by
    have h := (Res.new (w.alloc (.cells (arr a) 24)) 24 (arr b)).alloc (.cells (arr c) 24)
    rw [World.size_alloc] at h
    exact h
  have rA2 : Res (w.heap.size + 1 + 1) 24 (arr c) (((w.alloc (.cells (arr a) 24)).alloc (.cells (arr b) 24)).alloc (.cells (arr c) 24)) := by
    have h := Res.new ((w.alloc (.cells (arr a) 24)).alloc (.cells (arr b) 24)) 24 (arr c)
    rw [World.size_alloc, World.size_alloc] at h
    exact h
  have bb : Below w.heap.size w (((w.alloc (.cells (arr a) 24)).alloc (.cells (arr b) 24)).alloc (.cells (arr c) 24)) := by go_grown
  go_enter Try.func8, Try.ntmps8
  go_wp2_with fail
  with_reducible refine (c1.out _).mono ?_
  rintro e w1 ⟨rfl, h1⟩
  replace rA0 := (rA0).keep h1
  replace rA1 := (rA1).keep h1
  replace rA2 := (rA2).keep h1
  replace bb := chain bb h1
  have zA0 := rA0.cells; have lA0 := rA0.lt
  have zA1 := rA1.cells; have lA1 := rA1.lt
  have zA2 := rA2.cells; have lA2 := rA2.lt
  go_wp2_with fail
  with_reducible refine (c2.out _).mono ?_
  rintro e w2 ⟨rfl, h2⟩
  clear zA0 lA0 zA1 lA1 zA2 lA2
  replace rA0 := ((rA0.alloc _)).keep h2
  replace rA1 := ((rA1.alloc _)).keep h2
  replace rA2 := ((rA2.alloc _)).keep h2
  have rD := ((Res.new _ _ _)).keep h2
  replace bb := chain (balloc bb _) h2
  have zA0 := rA0.cells; have lA0 := rA0.lt
  have zA1 := rA1.cells; have lA1 := rA1.lt
  have zA2 := rA2.cells; have lA2 := rA2.lt
  have zD := rD.cells; have lD := rD.lt
  go_wp2_with fail
  with_reducible refine (c3.out _).mono ?_
  rintro e w3 ⟨rfl, h3⟩
  clear zA0 lA0 zA1 lA1 zA2 lA2 zD lD
  replace rA0 := ((rA0.alloc _)).keep h3
  replace rA1 := ((rA1.alloc _)).keep h3
  replace rA2 := ((rA2.alloc _)).keep h3
  replace rD := ((rD.alloc _)).keep h3
  have rK := ((Res.new _ _ _)).keep h3
  replace bb := chain (balloc bb _) h3
  have zA0 := rA0.cells; have lA0 := rA0.lt
  have zA1 := rA1.cells; have lA1 := rA1.lt
  have zA2 := rA2.cells; have lA2 := rA2.lt
  have zD := rD.cells; have lD := rD.lt
  have zK := rK.cells; have lK := rK.lt
  go_wp2_with fail
  with_reducible refine (c4.out _).mono ?_
  rintro e w4 ⟨rfl, h4⟩
  clear zA0 lA0 zA1 lA1 zA2 lA2 zD lD zK lK
  replace rA0 := (((rA0.alloc _).alloc _)).keep h4
  replace rA1 := (((rA1.alloc _).alloc _)).keep h4
  replace rA2 := (((rA2.alloc _).alloc _)).keep h4
  replace rD := (((rD.alloc _).alloc _)).keep h4
  replace rK := (((rK.alloc _).alloc _)).keep h4
  have rLo := (((Res.new _ _ _).alloc _)).keep h4
  have rHi := ((Res.new _ _ _)).keep h4; simp only [World.size_alloc] at rHi
  replace bb := chain (balloc (balloc bb _) _) h4
  have zA0 := rA0.cells; have lA0 := rA0.lt
  have zA1 := rA1.cells; have lA1 := rA1.lt
  have zA2 := rA2.cells; have lA2 := rA2.lt
  have zD := rD.cells; have lD := rD.lt
  have zK := rK.cells; have lK := rK.lt
  have zLo := rLo.cells; have lLo := rLo.lt
  have zHi := rHi.cells; have lHi := rHi.lt
  go_wp2_with fail
  with_reducible refine (c5.out _).mono ?_
  rintro e w5 ⟨rfl, h5⟩
  clear zA0 lA0 zA1 lA1 zA2 lA2 zD lD zK lK zLo lLo zHi lHi
  replace rA0 := (((rA0.alloc _).alloc _)).keep h5
  replace rA1 := (((rA1.alloc _).alloc _)).keep h5
  replace rA2 := (((rA2.alloc _).alloc _)).keep h5
  replace rD := (((rD.alloc _).alloc _)).keep h5
  replace rK := (((rK.alloc _).alloc _)).keep h5
  replace rLo := (((rLo.alloc _).alloc _)).keep h5
  replace rHi := (((rHi.alloc _).alloc _)).keep h5
  have rQ := (((Res.new _ _ _).alloc _)).keep h5
  have rR := ((Res.new _ _ _)).keep h5; simp only [World.size_alloc] at rR
  replace bb := chain (balloc (balloc bb _) _) h5
  have zA0 := rA0.cells; have lA0 := rA0.lt
  have zA1 := rA1.cells; have lA1 := rA1.lt
  have zA2 := rA2.cells; have lA2 := rA2.lt
  have zD := rD.cells; have lD := rD.lt
  have zK := rK.cells; have lK := rK.lt
  have zLo := rLo.cells; have lLo := rLo.lt
  have zHi := rHi.cells; have lHi := rHi.lt
  have zQ := rQ.cells; have lQ := rQ.lt
  have zR := rR.cells; have lR := rR.lt
  go_wp2
  clear zA0 lA0 zA1 lA1 zA2 lA2 zD lD zK lK zLo lLo zHi lHi zQ lQ zR lR
  replace rR := (rR.alloc (.cells (arr 0) 24))
  have rM := Res.new w5 24 (arr 0)
  replace bb := (balloc bb (.cells (arr 0) 24))
  generalize (w5.alloc (.cells (arr 0) 24)) = W at *
  have qR0 : W.cell? ⟨w4.heap.size + 1, 0, none⟩ = some (.int .u64 (limb 0 0)) := rR.cells 0
  have qR1 : W.cell? ⟨w4.heap.size + 1, 1, none⟩ = some (.int .u64 (limb 0 1)) := rR.cells 1
  have qR2 : W.cell? ⟨w4.heap.size + 1, 2, none⟩ = some (.int .u64 (limb 0 2)) := rR.cells 2
  have qR3 : W.cell? ⟨w4.heap.size + 1, 3, none⟩ = some (.int .u64 (limb 0 3)) := rR.cells 3
  have qM0 : W.cell? ⟨w5.heap.size, 0, none⟩ = some (.int .u64 (limb 0 0)) := rM.cells 0
  have qM1 : W.cell? ⟨w5.heap.size, 1, none⟩ = some (.int .u64 (limb 0 1)) := rM.cells 1
  have qM2 : W.cell? ⟨w5.heap.size, 2, none⟩ = some (.int .u64 (limb 0 2)) := rM.cells 2
  have qM3 : W.cell? ⟨w5.heap.size, 3, none⟩ = some (.int .u64 (limb 0 3)) := rM.cells 3
  replace bb := bb.drew
  go_region_held3 (fun w' => w'.cell? ⟨w4.heap.size + 1, 0, none⟩ = some (.int .u64 (limb 0 0)) ∧ w'.cell? ⟨w4.heap.size + 1, 1, none⟩ = some (.int .u64 (limb 0 1)) ∧ w'.cell? ⟨w4.heap.size + 1, 2, none⟩ = some (.int .u64 (limb 0 2)) ∧ w'.cell? ⟨w4.heap.size + 1, 3, none⟩ = some (.int .u64 (limb 0 3)) ∧ w'.cell? ⟨w5.heap.size, 0, none⟩ = some (.int .u64 (limb 0 0)) ∧ w'.cell? ⟨w5.heap.size, 1, none⟩ = some (.int .u64 (limb 0 1)) ∧ w'.cell? ⟨w5.heap.size, 2, none⟩ = some (.int .u64 (limb 0 2)) ∧ w'.cell? ⟨w5.heap.size, 3, none⟩ = some (.int .u64 (limb 0 3)))
    (first | (go_keep; done) | (go_split_ands; refine ⟨?_, ?_, ?_, ?_, ?_, ?_, ?_, ?_⟩ <;> (rw [hw.cell (World.block_lt_of_cell? _ _ (by assumption))]; assumption)))
    (first | (go_at_call 23; with_reducible refine (c6.out _).mono ?_; rintro e w9 ⟨rfl, hw⟩; have bb := chain bb hw) | (go_at_call 12; with_reducible refine (aw.out _).mono ?_; rintro e w9 ⟨rfl, hw⟩; have bb := chain bb hw))
  go_wp2
  go_ret
  exact ⟨rfl, bb⟩

set_option maxRecDepth 100000 in
set_option maxHeartbeats 8000000 in
theorem cmf_odd (a b c l h q d u r m : Nat) (x : Int) (hx : x ≤ 0) (hr : r < B256) (hr0 : r ≠ 0) (hm : m < B256) (hm0 : m ≠ 0) (hc : c < B256) (hc0 : c ≠ 0) (w : World)
    (c1 : Hid (∀ w, Calls Try.prog 16 #[U a, U b, U c] w fun e w' => e = .returned (.tuple #[U d, .int .i64 0]) ∧ Below w.heap.size w w'))
    (c2 : Hid (∀ w, Calls Try.prog 18 #[U a, U b, U c] w fun e w' => e = .returned (.tuple #[U u, .int .i64 0]) ∧ Below w.heap.size w w'))
    (c3 : Hid (∀ w, Calls Try.prog 10 #[U a, U b] w fun e w' => e = .returned (.tuple #[U l, U h]) ∧ Below w.heap.size w w'))
    (c4 : Hid (∀ w, Calls Try.prog 13 #[U l, U h, U c] w fun e w' => e = .returned (.tuple #[U q, U r, .int .i64 0]) ∧ Below w.heap.size w w'))
    (c5 : Hid (∀ w, Calls Try.prog 22 #[U u, U d] w fun e w' => e = .returned (U m) ∧ Below w.heap.size w w'))
    (c6 : Hid (∀ w, Calls Try.prog 23 #[U m, .agg #[.int .u64 1, .int .u64 0, .int .u64 0, .int .u64 0]] w fun e w' => e = .returned (.int .i64 x) ∧ Below w.heap.size w w'))
    (aw : Hid (∀ w, Calls Try.prog 12 #[] w fun e w' => e = .returned (.bool true) ∧ Below w.heap.size w w')) :
    Calls Try.prog 8 #[U a, U b, U c] w fun e w' => e = .returned (.bool true) ∧ Below w.heap.size w w' := by
  have E5 := eqZ c hc
  rw [decide_eq_false hc0] at E5
  have E6 := eqZ r hr
  rw [decide_eq_false hr0] at E6
  have E7 := eqZ m hm
  rw [decide_eq_false hm0] at E7
  have rA0 : Res (w.heap.size) 24 (arr a) (((w.alloc (.cells (arr a) 24)).alloc (.cells (arr b) 24)).alloc (.cells (arr c) 24)) := by
    have h := ((Res.new w 24 (arr a)).alloc (.cells (arr b) 24)).alloc (.cells (arr c) 24)
    exact h
  have rA1 : Res (w.heap.size + 1) 24 (arr b) (((w.alloc (.cells (arr a) 24)).alloc (.cells (arr b) 24)).alloc (.cells (arr c) 24)) := by
    have h := (Res.new (w.alloc (.cells (arr a) 24)) 24 (arr b)).alloc (.cells (arr c) 24)
    rw [World.size_alloc] at h
    exact h
  have rA2 : Res (w.heap.size + 1 + 1) 24 (arr c) (((w.alloc (.cells (arr a) 24)).alloc (.cells (arr b) 24)).alloc (.cells (arr c) 24)) := by
    have h := Res.new ((w.alloc (.cells (arr a) 24)).alloc (.cells (arr b) 24)) 24 (arr c)
    rw [World.size_alloc, World.size_alloc] at h
    exact h
  have bb : Below w.heap.size w (((w.alloc (.cells (arr a) 24)).alloc (.cells (arr b) 24)).alloc (.cells (arr c) 24)) := by go_grown
  go_enter Try.func8, Try.ntmps8
  go_wp2_with fail
  with_reducible refine (c1.out _).mono ?_
  rintro e w1 ⟨rfl, h1⟩
  replace rA0 := (rA0).keep h1
  replace rA1 := (rA1).keep h1
  replace rA2 := (rA2).keep h1
  replace bb := chain bb h1
  have zA0 := rA0.cells; have lA0 := rA0.lt
  have zA1 := rA1.cells; have lA1 := rA1.lt
  have zA2 := rA2.cells; have lA2 := rA2.lt
  go_wp2_with fail
  with_reducible refine (c2.out _).mono ?_
  rintro e w2 ⟨rfl, h2⟩
  clear zA0 lA0 zA1 lA1 zA2 lA2
  replace rA0 := ((rA0.alloc _)).keep h2
  replace rA1 := ((rA1.alloc _)).keep h2
  replace rA2 := ((rA2.alloc _)).keep h2
  have rD := ((Res.new _ _ _)).keep h2
  replace bb := chain (balloc bb _) h2
  have zA0 := rA0.cells; have lA0 := rA0.lt
  have zA1 := rA1.cells; have lA1 := rA1.lt
  have zA2 := rA2.cells; have lA2 := rA2.lt
  have zD := rD.cells; have lD := rD.lt
  go_wp2_with fail
  with_reducible refine (c3.out _).mono ?_
  rintro e w3 ⟨rfl, h3⟩
  clear zA0 lA0 zA1 lA1 zA2 lA2 zD lD
  replace rA0 := ((rA0.alloc _)).keep h3
  replace rA1 := ((rA1.alloc _)).keep h3
  replace rA2 := ((rA2.alloc _)).keep h3
  replace rD := ((rD.alloc _)).keep h3
  have rK := ((Res.new _ _ _)).keep h3
  replace bb := chain (balloc bb _) h3
  have zA0 := rA0.cells; have lA0 := rA0.lt
  have zA1 := rA1.cells; have lA1 := rA1.lt
  have zA2 := rA2.cells; have lA2 := rA2.lt
  have zD := rD.cells; have lD := rD.lt
  have zK := rK.cells; have lK := rK.lt
  go_wp2_with fail
  with_reducible refine (c4.out _).mono ?_
  rintro e w4 ⟨rfl, h4⟩
  clear zA0 lA0 zA1 lA1 zA2 lA2 zD lD zK lK
  replace rA0 := (((rA0.alloc _).alloc _)).keep h4
  replace rA1 := (((rA1.alloc _).alloc _)).keep h4
  replace rA2 := (((rA2.alloc _).alloc _)).keep h4
  replace rD := (((rD.alloc _).alloc _)).keep h4
  replace rK := (((rK.alloc _).alloc _)).keep h4
  have rLo := (((Res.new _ _ _).alloc _)).keep h4
  have rHi := ((Res.new _ _ _)).keep h4; simp only [World.size_alloc] at rHi
  replace bb := chain (balloc (balloc bb _) _) h4
  have zA0 := rA0.cells; have lA0 := rA0.lt
  have zA1 := rA1.cells; have lA1 := rA1.lt
  have zA2 := rA2.cells; have lA2 := rA2.lt
  have zD := rD.cells; have lD := rD.lt
  have zK := rK.cells; have lK := rK.lt
  have zLo := rLo.cells; have lLo := rLo.lt
  have zHi := rHi.cells; have lHi := rHi.lt
  go_wp2_with fail
  with_reducible refine (c5.out _).mono ?_
  rintro e w5 ⟨rfl, h5⟩
  clear zA0 lA0 zA1 lA1 zA2 lA2 zD lD zK lK zLo lLo zHi lHi
  replace rA0 := (((rA0.alloc _).alloc _)).keep h5
  replace rA1 := (((rA1.alloc _).alloc _)).keep h5
  replace rA2 := (((rA2.alloc _).alloc _)).keep h5
  replace rD := (((rD.alloc _).alloc _)).keep h5
  replace rK := (((rK.alloc _).alloc _)).keep h5
  replace rLo := (((rLo.alloc _).alloc _)).keep h5
  replace rHi := (((rHi.alloc _).alloc _)).keep h5
  have rQ := (((Res.new _ _ _).alloc _)).keep h5
  have rR := ((Res.new _ _ _)).keep h5; simp only [World.size_alloc] at rR
  replace bb := chain (balloc (balloc bb _) _) h5
  have zA0 := rA0.cells; have lA0 := rA0.lt
  have zA1 := rA1.cells; have lA1 := rA1.lt
  have zA2 := rA2.cells; have lA2 := rA2.lt
  have zD := rD.cells; have lD := rD.lt
  have zK := rK.cells; have lK := rK.lt
  have zLo := rLo.cells; have lLo := rLo.lt
  have zHi := rHi.cells; have lHi := rHi.lt
  have zQ := rQ.cells; have lQ := rQ.lt
  have zR := rR.cells; have lR := rR.lt
  go_wp2
  clear zA0 lA0 zA1 lA1 zA2 lA2 zD lD zK lK zLo lLo zHi lHi zQ lQ zR lR
  replace rR := (rR.alloc (.cells (arr m) 24))
  have rM := Res.new w5 24 (arr m)
  replace bb := (balloc bb (.cells (arr m) 24))
  generalize (w5.alloc (.cells (arr m) 24)) = W at *
  have qR0 : W.cell? ⟨w4.heap.size + 1, 0, none⟩ = some (.int .u64 (limb r 0)) := rR.cells 0
  have qR1 : W.cell? ⟨w4.heap.size + 1, 1, none⟩ = some (.int .u64 (limb r 1)) := rR.cells 1
  have qR2 : W.cell? ⟨w4.heap.size + 1, 2, none⟩ = some (.int .u64 (limb r 2)) := rR.cells 2
  have qR3 : W.cell? ⟨w4.heap.size + 1, 3, none⟩ = some (.int .u64 (limb r 3)) := rR.cells 3
  have qM0 : W.cell? ⟨w5.heap.size, 0, none⟩ = some (.int .u64 (limb m 0)) := rM.cells 0
  have qM1 : W.cell? ⟨w5.heap.size, 1, none⟩ = some (.int .u64 (limb m 1)) := rM.cells 1
  have qM2 : W.cell? ⟨w5.heap.size, 2, none⟩ = some (.int .u64 (limb m 2)) := rM.cells 2
  have qM3 : W.cell? ⟨w5.heap.size, 3, none⟩ = some (.int .u64 (limb m 3)) := rM.cells 3
  replace bb := bb.drew
  go_region_held3 (fun w' => w'.cell? ⟨w4.heap.size + 1, 0, none⟩ = some (.int .u64 (limb r 0)) ∧ w'.cell? ⟨w4.heap.size + 1, 1, none⟩ = some (.int .u64 (limb r 1)) ∧ w'.cell? ⟨w4.heap.size + 1, 2, none⟩ = some (.int .u64 (limb r 2)) ∧ w'.cell? ⟨w4.heap.size + 1, 3, none⟩ = some (.int .u64 (limb r 3)) ∧ w'.cell? ⟨w5.heap.size, 0, none⟩ = some (.int .u64 (limb m 0)) ∧ w'.cell? ⟨w5.heap.size, 1, none⟩ = some (.int .u64 (limb m 1)) ∧ w'.cell? ⟨w5.heap.size, 2, none⟩ = some (.int .u64 (limb m 2)) ∧ w'.cell? ⟨w5.heap.size, 3, none⟩ = some (.int .u64 (limb m 3)))
    (first | (go_keep; done) | (go_split_ands; refine ⟨?_, ?_, ?_, ?_, ?_, ?_, ?_, ?_⟩ <;> (rw [hw.cell (World.block_lt_of_cell? _ _ (by assumption))]; assumption)))
    (first | (go_at_call 23; with_reducible refine (c6.out _).mono ?_; rintro e w9 ⟨rfl, hw⟩; have bb := chain bb hw) | (go_at_call 12; with_reducible refine (aw.out _).mono ?_; rintro e w9 ⟨rfl, hw⟩; have bb := chain bb hw))
  go_wp2
  go_ret
  exact ⟨rfl, bb⟩

end Go.Proofs.Ytahkgkcbcadnoaa
