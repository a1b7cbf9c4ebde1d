/- The walks of layer 2's sanity check and of the laws MulDivBoundaries and MuldivIdentities over this translation, from the contracts of what they call: they return true, and memory that was there is as it was. -/
import Derived.Test.YtahkgkcbcadnoaaLaw2a
namespace Go.Proofs.Ytahkgkcbcadnoaa
open Go.RowKit

set_option maxRecDepth 100000 in
set_option maxHeartbeats 4000000 in
theorem awake2_core (q r : Nat) (w : World)
    (c1 : Hid (∀ w, Calls Try.prog 16 #[.agg #[.int .u64 7, .int .u64 0, .int .u64 0, .int .u64 0], .agg #[.int .u64 5, .int .u64 0, .int .u64 0, .int .u64 0], .agg #[.int .u64 10, .int .u64 0, .int .u64 0, .int .u64 0]] w fun e w' => e = .returned (.tuple #[.agg #[.int .u64 3, .int .u64 0, .int .u64 0, .int .u64 0], .int .i64 0]) ∧ Below w.heap.size w w'))
    (c2 : Hid (∀ w, Calls Try.prog 18 #[.agg #[.int .u64 7, .int .u64 0, .int .u64 0, .int .u64 0], .agg #[.int .u64 5, .int .u64 0, .int .u64 0, .int .u64 0], .agg #[.int .u64 10, .int .u64 0, .int .u64 0, .int .u64 0]] w fun e w' => e = .returned (.tuple #[.agg #[.int .u64 4, .int .u64 0, .int .u64 0, .int .u64 0], .int .i64 0]) ∧ Below w.heap.size w w'))
    (c3 : Hid (∀ w, Calls Try.prog 15 #[.agg #[.int .u64 5, .int .u64 0, .int .u64 0, .int .u64 0], .agg #[.int .u64 0, .int .u64 0, .int .u64 0, .int .u64 0]] w fun e w' => e = .returned (.tuple #[U q, U r, .int .i64 5]) ∧ Below w.heap.size w w')) :
    Calls Try.prog 12 #[] w fun e w' => e = .returned (.bool true) ∧ Below w.heap.size w w' := by
  have E1 := fun w => eq4_run 3 0 0 0 3 0 0 0 w
  have E2 := fun w => eq4_run 4 0 0 0 4 0 0 0 w
  have bb : Below w.heap.size w w := Below.refl _ _
  go_enter Try.func12, Try.ntmps12
  go_wp2_with fail
  with_reducible refine (c1.out _).mono ?_
  rintro e w1 ⟨rfl, h1⟩
  replace bb := chain bb h1
  go_wp2_with fail
  with_reducible refine (c2.out _).mono ?_
  rintro e w2 ⟨rfl, h2⟩
  have rA := ((Res.new _ _ _)).keep h2
  replace bb := chain (balloc bb _) h2
  have zA := rA.cells; have lA := rA.lt
  go_wp2_with fail
  with_reducible refine (c3.out _).mono ?_
  rintro e w3 ⟨rfl, h3⟩
  clear zA lA
  replace rA := ((rA.alloc _)).keep h3
  have rB := ((Res.new _ _ _)).keep h3
  replace bb := chain (balloc bb _) h3
  have zA := rA.cells; have lA := rA.lt
  have zB := rB.cells; have lB := rB.lt
  go_wp2
  go_ret
  exact ⟨rfl, balloc (balloc bb _) _⟩

theorem xor_range (a b : Int) : 0 ≤ bits BinOp.xor IntKind.u64 a b ∧ bits BinOp.xor IntKind.u64 a b < 18446744073709551616 := by
  show 0 ≤ IntKind.u64.wrap _ ∧ IntKind.u64.wrap _ < _
  rw [IntKind.wrap_u64]; omega

set_option maxRecDepth 100000 in
set_option maxHeartbeats 8000000 in
theorem bound2_core (a b s t u : Int) (a0 : 0 ≤ a) (a1 : a < 18446744073709551616) (b0 : 0 ≤ b) (b1 : b < 18446744073709551616) (w : World)
    (cE : Hid (∀ (a b s : Int) (w : World), 0 ≤ a → a < 18446744073709551616 → 0 ≤ b → b < 18446744073709551616 → Calls Try.prog 20 #[.int .u64 a, .int .u64 b, .int .i64 s] w fun e w' => ∃ n, n < B256 ∧ e = .returned (U n) ∧ Below w.heap.size w w'))
    (f1 : Hid (∀ x y z, x < B256 → y < B256 → z < B256 → ∃ p x1, p < B256 ∧ (∀ w, Calls Try.prog 16 #[U x, U y, U z] w fun e w' => e = .returned (.tuple #[U p, .int .i64 x1]) ∧ Below w.heap.size w w') ∧ (∀ w, Calls Try.prog 17 #[U x, U y, U z] w fun e w' => e = .returned (.tuple #[U p, .int .i64 x1]) ∧ Below w.heap.size w w')))
    (f2 : Hid (∀ x y z, x < B256 → y < B256 → z < B256 → ∃ p x1, p < B256 ∧ (∀ w, Calls Try.prog 18 #[U x, U y, U z] w fun e w' => e = .returned (.tuple #[U p, .int .i64 x1]) ∧ Below w.heap.size w w') ∧ (∀ w, Calls Try.prog 19 #[U x, U y, U z] w fun e w' => e = .returned (.tuple #[U p, .int .i64 x1]) ∧ Below w.heap.size w w')))
    (f3 : Hid (∀ x y z, x < B256 → y < B256 → z < B256 → ∃ p q x1, p < B256 ∧ q < B256 ∧ (∀ w, Calls Try.prog 13 #[U x, U y, U z] w fun e w' => e = .returned (.tuple #[U p, U q, .int .i64 x1]) ∧ Below w.heap.size w w') ∧ (∀ w, Calls Try.prog 14 #[U x, U y, U z] w fun e w' => e = .returned (.tuple #[U p, U q, .int .i64 x1]) ∧ Below w.heap.size w w')))
    (aw : Hid (∀ w, Calls Try.prog 12 #[] w fun e w' => e = .returned (.bool true) ∧ Below w.heap.size w w')) :
    Calls Try.prog 6 #[.int .u64 a, .int .u64 b, .int .i64 s, .int .i64 t, .int .i64 u] w fun e w' => e = .returned (.bool true) ∧ Below w.heap.size w w' := by
  have bb : Below w.heap.size w w := Below.refl _ _
  go_enter Try.func6, Try.ntmps6
  go_wp2_with fail
  with_reducible refine (cE.out _ _ _ _ a0 a1 b0 b1).mono ?_
  rintro e w1 ⟨x, hx, rfl, h1⟩
  replace bb := chain bb h1
  go_wp2_with fail
  with_reducible refine (cE.out _ _ _ _ b0 b1 a0 a1).mono ?_
  rintro e w2 ⟨y, hy, rfl, h2⟩
  replace bb := chain bb h2
  go_wp2_with fail
  with_reducible refine (cE.out _ _ _ _ (xor_range _ _).1 (xor_range _ _).2 a0 a1).mono ?_
  rintro e w3 ⟨z, hz, rfl, h3⟩
  replace bb := chain bb h3
  obtain ⟨p, x1, hp, k1, m1⟩ := f1.out x y z hx hy hz
  obtain ⟨r, x2, hr, k2, m2⟩ := f2.out x y z hx hy hz
  obtain ⟨k, l, x3, hk, hl, k3, m3⟩ := f3.out x y z hx hy hz
  replace k1 := Lib.hid k1; replace m1 := Lib.hid m1
  replace k2 := Lib.hid k2; replace m2 := Lib.hid m2
  replace k3 := Lib.hid k3; replace m3 := Lib.hid m3
  have E0 := eqSame p hp
  have E1 := eqSame r hr
  have E2 := eqSame k hk
  have E3 := eqSame l hl
  go_wp2_with fail
  with_reducible refine (k1.out _).mono ?_
  rintro e w4 ⟨rfl, h4⟩
  have rX := ((((Res.new _ _ _).alloc _).alloc _)).keep h4
  have rY := (((Res.new _ _ _).alloc _)).keep h4; simp only [World.size_alloc] at rY
  have rZ := ((Res.new _ _ _)).keep h4; simp only [World.size_alloc] at rZ
  replace bb := chain (balloc (balloc (balloc bb _) _) _) h4
  have zX := rX.cells; have lX := rX.lt
  have zY := rY.cells; have lY := rY.lt
  have zZ := rZ.cells; have lZ := rZ.lt
  go_wp2_with fail
  with_reducible refine (m1.out _).mono ?_
  rintro e w5 ⟨rfl, h5⟩
  clear zX lX zY lY zZ lZ
  replace rX := ((rX.alloc _)).keep h5
  replace rY := ((rY.alloc _)).keep h5
  replace rZ := ((rZ.alloc _)).keep h5
  have rP := ((Res.new _ _ _)).keep h5
  replace bb := chain (balloc bb _) h5
  have zX := rX.cells; have lX := rX.lt
  have zY := rY.cells; have lY := rY.lt
  have zZ := rZ.cells; have lZ := rZ.lt
  have zP := rP.cells; have lP := rP.lt
  go_wp2_with fail
  with_reducible refine (k2.out _).mono ?_
  rintro e w6 ⟨rfl, h6⟩
  clear zX lX zY lY zZ lZ zP lP
  replace rX := ((rX.alloc _)).keep h6
  replace rY := ((rY.alloc _)).keep h6
  replace rZ := ((rZ.alloc _)).keep h6
  replace rP := ((rP.alloc _)).keep h6
  have rQ := ((Res.new _ _ _)).keep h6
  replace bb := chain (balloc bb _) h6
  have zX := rX.cells; have lX := rX.lt
  have zY := rY.cells; have lY := rY.lt
  have zZ := rZ.cells; have lZ := rZ.lt
  have zP := rP.cells; have lP := rP.lt
  have zQ := rQ.cells; have lQ := rQ.lt
  go_wp2_with fail
  with_reducible refine (m2.out _).mono ?_
  rintro e w7 ⟨rfl, h7⟩
  clear zX lX zY lY zZ lZ zP lP zQ lQ
  replace rX := ((rX.alloc _)).keep h7
  replace rY := ((rY.alloc _)).keep h7
  replace rZ := ((rZ.alloc _)).keep h7
  replace rP := ((rP.alloc _)).keep h7
  replace rQ := ((rQ.alloc _)).keep h7
  have rR := ((Res.new _ _ _)).keep h7
  replace bb := chain (balloc bb _) h7
  have zX := rX.cells; have lX := rX.lt
  have zY := rY.cells; have lY := rY.lt
  have zZ := rZ.cells; have lZ := rZ.lt
  have zP := rP.cells; have lP := rP.lt
  have zQ := rQ.cells; have lQ := rQ.lt
  have zR := rR.cells; have lR := rR.lt
  go_wp2_with fail
  with_reducible refine (k3.out _).mono ?_
  rintro e w8 ⟨rfl, h8⟩
  clear zX lX zY lY zZ lZ zP lP zQ lQ zR lR
  replace rX := ((rX.alloc _)).keep h8
  replace rY := ((rY.alloc _)).keep h8
  replace rZ := ((rZ.alloc _)).keep h8
  replace rP := ((rP.alloc _)).keep h8
  replace rQ := ((rQ.alloc _)).keep h8
  replace rR := ((rR.alloc _)).keep h8
  have rV := ((Res.new _ _ _)).keep h8
  replace bb := chain (balloc bb _) h8
  have zX := rX.cells; have lX := rX.lt
  have zY := rY.cells; have lY := rY.lt
  have zZ := rZ.cells; have lZ := rZ.lt
  have zP := rP.cells; have lP := rP.lt
  have zQ := rQ.cells; have lQ := rQ.lt
  have zR := rR.cells; have lR := rR.lt
  have zV := rV.cells; have lV := rV.lt
  go_wp2_with fail
  with_reducible refine (m3.out _).mono ?_
  rintro e w9 ⟨rfl, h9⟩
  clear zX lX zY lY zZ lZ zP lP zQ lQ zR lR zV lV
  replace rX := (((rX.alloc _).alloc _)).keep h9
  replace rY := (((rY.alloc _).alloc _)).keep h9
  replace rZ := (((rZ.alloc _).alloc _)).keep h9
  replace rP := (((rP.alloc _).alloc _)).keep h9
  replace rQ := (((rQ.alloc _).alloc _)).keep h9
  replace rR := (((rR.alloc _).alloc _)).keep h9
  replace rV := (((rV.alloc _).alloc _)).keep h9
  have rK := (((Res.new _ _ _).alloc _)).keep h9
  have rL := ((Res.new _ _ _)).keep h9; simp only [World.size_alloc] at rL
  replace bb := chain (balloc (balloc bb _) _) h9
  have zX := rX.cells; have lX := rX.lt
  have zY := rY.cells; have lY := rY.lt
  have zZ := rZ.cells; have lZ := rZ.lt
  have zP := rP.cells; have lP := rP.lt
  have zQ := rQ.cells; have lQ := rQ.lt
  have zR := rR.cells; have lR := rR.lt
  have zV := rV.cells; have lV := rV.lt
  have zK := rK.cells; have lK := rK.lt
  have zL := rL.cells; have lL := rL.lt
  go_wp2_with fail
  with_reducible refine (aw.out _).mono ?_
  rintro e w10 ⟨rfl, h10⟩
  clear zX lX zY lY zZ lZ zP lP zQ lQ zR lR zV lV zK lK zL lL
  replace rX := (((rX.alloc _).alloc _)).keep h10
  replace rY := (((rY.alloc _).alloc _)).keep h10
  replace rZ := (((rZ.alloc _).alloc _)).keep h10
  replace rP := (((rP.alloc _).alloc _)).keep h10
  replace rQ := (((rQ.alloc _).alloc _)).keep h10
  replace rR := (((rR.alloc _).alloc _)).keep h10
  replace rV := (((rV.alloc _).alloc _)).keep h10
  replace rK := (((rK.alloc _).alloc _)).keep h10
  replace rL := (((rL.alloc _).alloc _)).keep h10
  have rM := (((Res.new _ _ _).alloc _)).keep h10
  have rN := ((Res.new _ _ _)).keep h10; simp only [World.size_alloc] at rN
  replace bb := chain (balloc (balloc bb _) _) h10
  have zX := rX.cells; have lX := rX.lt
  have zY := rY.cells; have lY := rY.lt
  have zZ := rZ.cells; have lZ := rZ.lt
  have zP := rP.cells; have lP := rP.lt
  have zQ := rQ.cells; have lQ := rQ.lt
  have zR := rR.cells; have lR := rR.lt
  have zV := rV.cells; have lV := rV.lt
  have zK := rK.cells; have lK := rK.lt
  have zL := rL.cells; have lL := rL.lt
  have zM := rM.cells; have lM := rM.lt
  have zN := rN.cells; have lN := rN.lt
  clear zX lX zY lY zZ lZ zP lP zQ lQ zR lR zV lV zK lK zL lL zM lM zN lN
  go_wp2
  go_ret
  exact ⟨rfl, bb⟩

set_option maxRecDepth 100000 in
set_option maxHeartbeats 8000000 in
theorem ident_zero (a b p x y : Nat) (x1 x2 : Int) (hp : p < B256) (hx : x < B256) (hy : y < B256) (w : World)
    (c1 : Hid (∀ w, Calls Try.prog 16 #[U a, U b, .agg #[.int .u64 1, .int .u64 0, .int .u64 0, .int .u64 0]] w fun e w' => e = .returned (.tuple #[U p, .int .i64 x1]) ∧ Below w.heap.size w w'))
    (c2 : Hid (∀ w, Calls Try.prog 25 #[U a, U b] w fun e w' => e = .returned (.tuple #[U p, .int .i64 x1]) ∧ Below w.heap.size w w'))
    (c3 : Hid (∀ w, Calls Try.prog 18 #[U a, U b, .agg #[.int .u64 1, .int .u64 0, .int .u64 0, .int .u64 0]] w fun e w' => e = .returned (.tuple #[U p, .int .i64 x1]) ∧ Below w.heap.size w w'))
    (c4 : Hid (∀ w, Calls Try.prog 15 #[U a, U 0] w fun e w' => e = .returned (.tuple #[U x, U y, .int .i64 x2]) ∧ Below w.heap.size w w'))
    (c5 : Hid (∀ w, Calls Try.prog 13 #[U a, .agg #[.int .u64 0, .int .u64 0, .int .u64 0, .int .u64 0], U 0] w fun e w' => e = .returned (.tuple #[U x, U y, .int .i64 x2]) ∧ Below w.heap.size w w'))
    (aw : Hid (∀ w, Calls Try.prog 12 #[] w fun e w' => e = .returned (.bool true) ∧ Below w.heap.size w w')) :
    Calls Try.prog 9 #[U a, U b, U 0] w fun e w' => e = .returned (.bool true) ∧ Below w.heap.size w w' := by
  have E1 := eqSame p hp
  have E2 := eqSame x hx
  have E3 := eqSame y hy
  have E5 := eqZ 0 (by decide)
  rw [decide_eq_true rfl] at E5
  have rA0 : Res (w.heap.size) 24 (arr a) ((((w.alloc (.cells (arr a) 24)).alloc (.cells (arr b) 24)).alloc (.cells (arr 0) 24)).alloc (.cells #[.int .u64 1, .int .u64 0, .int .u64 0, .int .u64 0] 24)) := by
    have h := (((Res.new w 24 (arr a)).alloc (.cells (arr b) 24)).alloc (.cells (arr 0) 24)).alloc (.cells #[.int .u64 1, .int .u64 0, .int .u64 0, .int .u64 0] 24)
    exact h
  have rA1 : Res (w.heap.size + 1) 24 (arr b) ((((w.alloc (.cells (arr a) 24)).alloc (.cells (arr b) 24)).alloc (.cells (arr 0) 24)).alloc (.cells #[.int .u64 1, .int .u64 0, .int .u64 0, .int .u64 0] 24)) := by
    have h := ((Res.new (w.alloc (.cells (arr a) 24)) 24 (arr b)).alloc (.cells (arr 0) 24)).alloc (.cells #[.int .u64 1, .int .u64 0, .int .u64 0, .int .u64 0] 24)
    rw [World.size_alloc] at h
    exact h
  have rA2 : Res (w.heap.size + 1 + 1) 24 (arr 0) ((((w.alloc (.cells (arr a) 24)).alloc (.cells (arr b) 24)).alloc (.cells (arr 0) 24)).alloc (.cells #[.int .u64 1, .int .u64 0, .int .u64 0, .int .u64 0] 24)) := by
    have h := (Res.new ((w.alloc (.cells (arr a) 24)).alloc (.cells (arr b) 24)) 24 (arr 0)).alloc (.cells #[.int .u64 1, .int .u64 0, .int .u64 0, .int .u64 0] 24)
    rw [World.size_alloc, World.size_alloc] at h
    exact h
  have rA3 : Res (w.heap.size + 1 + 1 + 1) 24 #[.int .u64 1, .int .u64 0, .int .u64 0, .int .u64 0] ((((w.alloc (.cells (arr a) 24)).alloc (.cells (arr b) 24)).alloc (.cells (arr 0) 24)).alloc (.cells #[.int .u64 1, .int .u64 0, .int .u64 0, .int .u64 0] 24)) := by
    have h := Res.new (((w.alloc (.cells (arr a) 24)).alloc (.cells (arr b) 24)).alloc (.cells (arr 0) 24)) 24 #[.int .u64 1, .int .u64 0, .int .u64 0, .int .u64 0]
    rw [World.size_alloc, World.size_alloc, World.size_alloc] at h
    exact h
  have bb : Below w.heap.size w ((((w.alloc (.cells (arr a) 24)).alloc (.cells (arr b) 24)).alloc (.cells (arr 0) 24)).alloc (.cells #[.int .u64 1, .int .u64 0, .int .u64 0, .int .u64 0] 24)) := by go_grown
  go_enter Try.func9, Try.ntmps9
  go_wp2_with fail
  with_reducible refine (c1.out _).mono ?_
  rintro e w1 ⟨rfl, h1⟩
  replace rA0 := (rA0).keep h1
  replace rA1 := (rA1).keep h1
  replace rA2 := (rA2).keep h1
  replace rA3 := (rA3).keep h1
  replace bb := chain bb h1
  have zA0 := rA0.cells; have lA0 := rA0.lt
  have zA1 := rA1.cells; have lA1 := rA1.lt
  have zA2 := rA2.cells; have lA2 := rA2.lt
  have zA3 := rA3.cells; have lA3 := rA3.lt
  go_wp2_with fail
  with_reducible refine (c2.out _).mono ?_
  rintro e w2 ⟨rfl, h2⟩
  clear zA0 lA0 zA1 lA1 zA2 lA2 zA3 lA3
  replace rA0 := ((rA0.alloc _)).keep h2
  replace rA1 := ((rA1.alloc _)).keep h2
  replace rA2 := ((rA2.alloc _)).keep h2
  replace rA3 := ((rA3.alloc _)).keep h2
  have rP := ((Res.new _ _ _)).keep h2
  replace bb := chain (balloc bb _) h2
  have zA0 := rA0.cells; have lA0 := rA0.lt
  have zA1 := rA1.cells; have lA1 := rA1.lt
  have zA2 := rA2.cells; have lA2 := rA2.lt
  have zA3 := rA3.cells; have lA3 := rA3.lt
  have zP := rP.cells; have lP := rP.lt
  go_wp2_with fail
  with_reducible refine (c3.out _).mono ?_
  rintro e w3 ⟨rfl, h3⟩
  clear zA0 lA0 zA1 lA1 zA2 lA2 zA3 lA3 zP lP
  replace rA0 := ((rA0.alloc _)).keep h3
  replace rA1 := ((rA1.alloc _)).keep h3
  replace rA2 := ((rA2.alloc _)).keep h3
  replace rA3 := ((rA3.alloc _)).keep h3
  replace rP := ((rP.alloc _)).keep h3
  have rQ := ((Res.new _ _ _)).keep h3
  replace bb := chain (balloc bb _) h3
  have zA0 := rA0.cells; have lA0 := rA0.lt
  have zA1 := rA1.cells; have lA1 := rA1.lt
  have zA2 := rA2.cells; have lA2 := rA2.lt
  have zA3 := rA3.cells; have lA3 := rA3.lt
  have zP := rP.cells; have lP := rP.lt
  have zQ := rQ.cells; have lQ := rQ.lt
  go_wp2_with fail
  with_reducible refine (c4.out _).mono ?_
  rintro e w4 ⟨rfl, h4⟩
  clear zA0 lA0 zA1 lA1 zA2 lA2 zA3 lA3 zP lP zQ lQ
  replace rA0 := ((rA0.alloc _)).keep h4
  replace rA1 := ((rA1.alloc _)).keep h4
  replace rA2 := ((rA2.alloc _)).keep h4
  replace rA3 := ((rA3.alloc _)).keep h4
  replace rP := ((rP.alloc _)).keep h4
  replace rQ := ((rQ.alloc _)).keep h4
  have rV := ((Res.new _ _ _)).keep h4
  replace bb := chain (balloc bb _) h4
  have zA0 := rA0.cells; have lA0 := rA0.lt
  have zA1 := rA1.cells; have lA1 := rA1.lt
  have zA2 := rA2.cells; have lA2 := rA2.lt
  have zA3 := rA3.cells; have lA3 := rA3.lt
  have zP := rP.cells; have lP := rP.lt
  have zQ := rQ.cells; have lQ := rQ.lt
  have zV := rV.cells; have lV := rV.lt
  go_wp2_with fail
  with_reducible refine (c5.out _).mono ?_
  rintro e w5 ⟨rfl, h5⟩
  clear zA0 lA0 zA1 lA1 zA2 lA2 zA3 lA3 zP lP zQ lQ zV lV
  replace rA0 := (((rA0.alloc _).alloc _)).keep h5
  replace rA1 := (((rA1.alloc _).alloc _)).keep h5
  replace rA2 := (((rA2.alloc _).alloc _)).keep h5
  replace rA3 := (((rA3.alloc _).alloc _)).keep h5
  replace rP := (((rP.alloc _).alloc _)).keep h5
  replace rQ := (((rQ.alloc _).alloc _)).keep h5
  replace rV := (((rV.alloc _).alloc _)).keep h5
  have rX := (((Res.new _ _ _).alloc _)).keep h5
  have rY := ((Res.new _ _ _)).keep h5; simp only [World.size_alloc] at rY
  replace bb := chain (balloc (balloc bb _) _) h5
  have zA0 := rA0.cells; have lA0 := rA0.lt
  have zA1 := rA1.cells; have lA1 := rA1.lt
  have zA2 := rA2.cells; have lA2 := rA2.lt
  have zA3 := rA3.cells; have lA3 := rA3.lt
  have zP := rP.cells; have lP := rP.lt
  have zQ := rQ.cells; have lQ := rQ.lt
  have zV := rV.cells; have lV := rV.lt
  have zX := rX.cells; have lX := rX.lt
  have zY := rY.cells; have lY := rY.lt
  go_wp2_with fail
  with_reducible refine (aw.out _).mono ?_
  rintro e w6 ⟨rfl, h6⟩
  clear zA0 lA0 zA1 lA1 zA2 lA2 zA3 lA3 zP lP zQ lQ zV lV zX lX zY lY
  replace rA0 := (((rA0.alloc _).alloc _)).keep h6
  replace rA1 := (((rA1.alloc _).alloc _)).keep h6
  replace rA2 := (((rA2.alloc _).alloc _)).keep h6
  replace rA3 := (((rA3.alloc _).alloc _)).keep h6
  replace rP := (((rP.alloc _).alloc _)).keep h6
  replace rQ := (((rQ.alloc _).alloc _)).keep h6
  replace rV := (((rV.alloc _).alloc _)).keep h6
  replace rX := (((rX.alloc _).alloc _)).keep h6
  replace rY := (((rY.alloc _).alloc _)).keep h6
  have rS := (((Res.new _ _ _).alloc _)).keep h6
  have rW := ((Res.new _ _ _)).keep h6; simp only [World.size_alloc] at rW
  replace bb := chain (balloc (balloc bb _) _) h6
  have zA0 := rA0.cells; have lA0 := rA0.lt
  have zA1 := rA1.cells; have lA1 := rA1.lt
  have zA2 := rA2.cells; have lA2 := rA2.lt
  have zA3 := rA3.cells; have lA3 := rA3.lt
  have zP := rP.cells; have lP := rP.lt
  have zQ := rQ.cells; have lQ := rQ.lt
  have zV := rV.cells; have lV := rV.lt
  have zX := rX.cells; have lX := rX.lt
  have zY := rY.cells; have lY := rY.lt
  have zS := rS.cells; have lS := rS.lt
  have zW := rW.cells; have lW := rW.lt
  clear zA0 lA0 zA1 lA1 zA2 lA2 zA3 lA3 zP lP zQ lQ zV lV zX lX zY lY zS lS zW lW
  go_wp2
  go_ret
  exact ⟨rfl, bb⟩

set_option maxRecDepth 100000 in
set_option maxHeartbeats 8000000 in
theorem ident_pos (a b c p x y : Nat) (x1 x2 : Int) (ha : a < B256) (hc : c < B256) (hc0 : c ≠ 0) (hp : p < B256) (hx : x < B256) (hy : y < B256) (w : World)
    (c1 : Hid (∀ w, Calls Try.prog 16 #[U a, U b, .agg #[.int .u64 1, .int .u64 0, .int .u64 0, .int .u64 0]] w fun e w' => e = .returned (.tuple #[U p, .int .i64 x1]) ∧ Below w.heap.size w w'))
    (c2 : Hid (∀ w, Calls Try.prog 25 #[U a, U b] w fun e w' => e = .returned (.tuple #[U p, .int .i64 x1]) ∧ Below w.heap.size w w'))
    (c3 : Hid (∀ w, Calls Try.prog 18 #[U a, U b, .agg #[.int .u64 1, .int .u64 0, .int .u64 0, .int .u64 0]] w fun e w' => e = .returned (.tuple #[U p, .int .i64 x1]) ∧ Below w.heap.size w w'))
    (c4 : Hid (∀ w, Calls Try.prog 15 #[U a, U c] w fun e w' => e = .returned (.tuple #[U x, U y, .int .i64 x2]) ∧ Below w.heap.size w w'))
    (c5 : Hid (∀ w, Calls Try.prog 13 #[U a, .agg #[.int .u64 0, .int .u64 0, .int .u64 0, .int .u64 0], U c] w fun e w' => e = .returned (.tuple #[U x, U y, .int .i64 x2]) ∧ Below w.heap.size w w'))
    (c6 : Hid (∀ w, Calls Try.prog 16 #[U a, U c, U c] w fun e w' => e = .returned (.tuple #[U a, .int .i64 0]) ∧ Below w.heap.size w w'))
    (c7 : Hid (∀ w, Calls Try.prog 18 #[U c, U a, U c] w fun e w' => e = .returned (.tuple #[U a, .int .i64 0]) ∧ Below w.heap.size w w'))
    (aw : Hid (∀ w, Calls Try.prog 12 #[] w fun e w' => e = .returned (.bool true) ∧ Below w.heap.size w w')) :
    Calls Try.prog 9 #[U a, U b, U c] w fun e w' => e = .returned (.bool true) ∧ Below w.heap.size w w' := by
  have E1 := eqSame p hp
  have E2 := eqSame x hx
  have E3 := eqSame y hy
  have E4 := eqSame a ha
  have E5 := eqZ c hc
  rw [decide_eq_false hc0] at E5
  have rA0 : Res (w.heap.size) 24 (arr a) ((((w.alloc (.cells (arr a) 24)).alloc (.cells (arr b) 24)).alloc (.cells (arr c) 24)).alloc (.cells #[.int .u64 1, .int .u64 0, .int .u64 0, .int .u64 0] 24)) := by
    have h := (((Res.new w 24 (arr a)).alloc (.cells (arr b) 24)).alloc (.cells (arr c) 24)).alloc (.cells #[.int .u64 1, .int .u64 0, .int .u64 0, .int .u64 0] 24)
    exact h
  have rA1 : Res (w.heap.size + 1) 24 (arr b) ((((w.alloc (.cells (arr a) 24)).alloc (.cells (arr b) 24)).alloc (.cells (arr c) 24)).alloc (.cells #[.int .u64 1, .int .u64 0, .int .u64 0, .int .u64 0] 24)) := by
    have h := ((Res.new (w.alloc (.cells (arr a) 24)) 24 (arr b)).alloc (.cells (arr c) 24)).alloc (.cells #[.int .u64 1, .int .u64 0, .int .u64 0, .int .u64 0] 24)
    rw [World.size_alloc] at h
    exact h
  have rA2 : Res (w.heap.size + 1 + 1) 24 (arr c) ((((w.alloc (.cells (arr a) 24)).alloc (.cells (arr b) 24)).alloc (.cells (arr c) 24)).alloc (.cells #[.int .u64 1, .int .u64 0, .int .u64 0, .int .u64 0] 24)) := by
    have h := (Res.new ((w.alloc (.cells (arr a) 24)).alloc (.cells (arr b) 24)) 24 (arr c)).alloc (.cells #[.int .u64 1, .int .u64 0, .int .u64 0, .int .u64 0] 24)
    rw [World.size_alloc, World.size_alloc] at h
    exact h
  have rA3 : Res (w.heap.size + 1 + 1 + 1) 24 #[.int .u64 1, .int .u64 0, .int .u64 0, .int .u64 0] ((((w.alloc (.cells (arr a) 24)).alloc (.cells (arr b) 24)).alloc (.cells (arr c) 24)).alloc (.cells #[.int .u64 1, .int .u64 0, .int .u64 0, .int .u64 0] 24)) := by
    have h := Res.new (((w.alloc (.cells (arr a) 24)).alloc (.cells (arr b) 24)).alloc (.cells (arr c) 24)) 24 #[.int .u64 1, .int .u64 0, .int .u64 0, .int .u64 0]
    rw [World.size_alloc, World.size_alloc, World.size_alloc] at h
    exact h
  have bb : Below w.heap.size w ((((w.alloc (.cells (arr a) 24)).alloc (.cells (arr b) 24)).alloc (.cells (arr c) 24)).alloc (.cells #[.int .u64 1, .int .u64 0, .int .u64 0, .int .u64 0] 24)) := by go_grown
  go_enter Try.func9, Try.ntmps9
  go_wp2_with fail
  with_reducible refine (c1.out _).mono ?_
  rintro e w1 ⟨rfl, h1⟩
  replace rA0 := (rA0).keep h1
  replace rA1 := (rA1).keep h1
  replace rA2 := (rA2).keep h1
  replace rA3 := (rA3).keep h1
  replace bb := chain bb h1
  have zA0 := rA0.cells; have lA0 := rA0.lt
  have zA1 := rA1.cells; have lA1 := rA1.lt
  have zA2 := rA2.cells; have lA2 := rA2.lt
  have zA3 := rA3.cells; have lA3 := rA3.lt
  go_wp2_with fail
  with_reducible refine (c2.out _).mono ?_
  rintro e w2 ⟨rfl, h2⟩
  clear zA0 lA0 zA1 lA1 zA2 lA2 zA3 lA3
  replace rA0 := ((rA0.alloc _)).keep h2
  replace rA1 := ((rA1.alloc _)).keep h2
  replace rA2 := ((rA2.alloc _)).keep h2
  replace rA3 := ((rA3.alloc _)).keep h2
  have rP := ((Res.new _ _ _)).keep h2
  replace bb := chain (balloc bb _) h2
  have zA0 := rA0.cells; have lA0 := rA0.lt
  have zA1 := rA1.cells; have lA1 := rA1.lt
  have zA2 := rA2.cells; have lA2 := rA2.lt
  have zA3 := rA3.cells; have lA3 := rA3.lt
  have zP := rP.cells; have lP := rP.lt
  go_wp2_with fail
  with_reducible refine (c3.out _).mono ?_
  rintro e w3 ⟨rfl, h3⟩
  clear zA0 lA0 zA1 lA1 zA2 lA2 zA3 lA3 zP lP
  replace rA0 := ((rA0.alloc _)).keep h3
  replace rA1 := ((rA1.alloc _)).keep h3
  replace rA2 := ((rA2.alloc _)).keep h3
  replace rA3 := ((rA3.alloc _)).keep h3
  replace rP := ((rP.alloc _)).keep h3
  have rQ := ((Res.new _ _ _)).keep h3
  replace bb := chain (balloc bb _) h3
  have zA0 := rA0.cells; have lA0 := rA0.lt
  have zA1 := rA1.cells; have lA1 := rA1.lt
  have zA2 := rA2.cells; have lA2 := rA2.lt
  have zA3 := rA3.cells; have lA3 := rA3.lt
  have zP := rP.cells; have lP := rP.lt
  have zQ := rQ.cells; have lQ := rQ.lt
  go_wp2_with fail
  with_reducible refine (c4.out _).mono ?_
  rintro e w4 ⟨rfl, h4⟩
  clear zA0 lA0 zA1 lA1 zA2 lA2 zA3 lA3 zP lP zQ lQ
  replace rA0 := ((rA0.alloc _)).keep h4
  replace rA1 := ((rA1.alloc _)).keep h4
  replace rA2 := ((rA2.alloc _)).keep h4
  replace rA3 := ((rA3.alloc _)).keep h4
  replace rP := ((rP.alloc _)).keep h4
  replace rQ := ((rQ.alloc _)).keep h4
  have rV := ((Res.new _ _ _)).keep h4
  replace bb := chain (balloc bb _) h4
  have zA0 := rA0.cells; have lA0 := rA0.lt
  have zA1 := rA1.cells; have lA1 := rA1.lt
  have zA2 := rA2.cells; have lA2 := rA2.lt
  have zA3 := rA3.cells; have lA3 := rA3.lt
  have zP := rP.cells; have lP := rP.lt
  have zQ := rQ.cells; have lQ := rQ.lt
  have zV := rV.cells; have lV := rV.lt
  go_wp2_with fail
  with_reducible refine (c5.out _).mono ?_
  rintro e w5 ⟨rfl, h5⟩
  clear zA0 lA0 zA1 lA1 zA2 lA2 zA3 lA3 zP lP zQ lQ zV lV
  replace rA0 := (((rA0.alloc _).alloc _)).keep h5
  replace rA1 := (((rA1.alloc _).alloc _)).keep h5
  replace rA2 := (((rA2.alloc _).alloc _)).keep h5
  replace rA3 := (((rA3.alloc _).alloc _)).keep h5
  replace rP := (((rP.alloc _).alloc _)).keep h5
  replace rQ := (((rQ.alloc _).alloc _)).keep h5
  replace rV := (((rV.alloc _).alloc _)).keep h5
  have rX := (((Res.new _ _ _).alloc _)).keep h5
  have rY := ((Res.new _ _ _)).keep h5; simp only [World.size_alloc] at rY
  replace bb := chain (balloc (balloc bb _) _) h5
  have zA0 := rA0.cells; have lA0 := rA0.lt
  have zA1 := rA1.cells; have lA1 := rA1.lt
  have zA2 := rA2.cells; have lA2 := rA2.lt
  have zA3 := rA3.cells; have lA3 := rA3.lt
  have zP := rP.cells; have lP := rP.lt
  have zQ := rQ.cells; have lQ := rQ.lt
  have zV := rV.cells; have lV := rV.lt
  have zX := rX.cells; have lX := rX.lt
  have zY := rY.cells; have lY := rY.lt
  go_wp2_with fail
  with_reducible refine (c6.out _).mono ?_
  rintro e w6 ⟨rfl, h6⟩
  clear zA0 lA0 zA1 lA1 zA2 lA2 zA3 lA3 zP lP zQ lQ zV lV zX lX zY lY
  replace rA0 := (((rA0.alloc _).alloc _)).keep h6
  replace rA1 := (((rA1.alloc _).alloc _)).keep h6
  replace rA2 := (((rA2.alloc _).alloc _)).keep h6
  replace rA3 := (((rA3.alloc _).alloc _)).keep h6
  replace rP := (((rP.alloc _).alloc _)).keep h6
  replace rQ := (((rQ.alloc _).alloc _)).keep h6
  replace rV := (((rV.alloc _).alloc _)).keep h6
  replace rX := (((rX.alloc _).alloc _)).keep h6
  replace rY := (((rY.alloc _).alloc _)).keep h6
  have rS := (((Res.new _ _ _).alloc _)).keep h6
  have rW := ((Res.new _ _ _)).keep h6; simp only [World.size_alloc] at rW
  replace bb := chain (balloc (balloc bb _) _) h6
  have zA0 := rA0.cells; have lA0 := rA0.lt
  have zA1 := rA1.cells; have lA1 := rA1.lt
  have zA2 := rA2.cells; have lA2 := rA2.lt
  have zA3 := rA3.cells; have lA3 := rA3.lt
  have zP := rP.cells; have lP := rP.lt
  have zQ := rQ.cells; have lQ := rQ.lt
  have zV := rV.cells; have lV := rV.lt
  have zX := rX.cells; have lX := rX.lt
  have zY := rY.cells; have lY := rY.lt
  have zS := rS.cells; have lS := rS.lt
  have zW := rW.cells; have lW := rW.lt
  go_wp2_with fail
  with_reducible refine (c7.out _).mono ?_
  rintro e w7 ⟨rfl, h7⟩
  clear zA0 lA0 zA1 lA1 zA2 lA2 zA3 lA3 zP lP zQ lQ zV lV zX lX zY lY zS lS zW lW
  replace rA0 := ((rA0.alloc _)).keep h7
  replace rA1 := ((rA1.alloc _)).keep h7
  replace rA2 := ((rA2.alloc _)).keep h7
  replace rA3 := ((rA3.alloc _)).keep h7
  replace rP := ((rP.alloc _)).keep h7
  replace rQ := ((rQ.alloc _)).keep h7
  replace rV := ((rV.alloc _)).keep h7
  replace rX := ((rX.alloc _)).keep h7
  replace rY := ((rY.alloc _)).keep h7
  replace rS := ((rS.alloc _)).keep h7
  replace rW := ((rW.alloc _)).keep h7
  have rD := ((Res.new _ _ _)).keep h7
  replace bb := chain (balloc bb _) h7
  have zA0 := rA0.cells; have lA0 := rA0.lt
  have zA1 := rA1.cells; have lA1 := rA1.lt
  have zA2 := rA2.cells; have lA2 := rA2.lt
  have zA3 := rA3.cells; have lA3 := rA3.lt
  have zP := rP.cells; have lP := rP.lt
  have zQ := rQ.cells; have lQ := rQ.lt
  have zV := rV.cells; have lV := rV.lt
  have zX := rX.cells; have lX := rX.lt
  have zY := rY.cells; have lY := rY.lt
  have zS := rS.cells; have lS := rS.lt
  have zW := rW.cells; have lW := rW.lt
  have zD := rD.cells; have lD := rD.lt
  go_wp2_with fail
  with_reducible refine (aw.out _).mono ?_
  rintro e w8 ⟨rfl, h8⟩
  clear zA0 lA0 zA1 lA1 zA2 lA2 zA3 lA3 zP lP zQ lQ zV lV zX lX zY lY zS lS zW lW zD lD
  replace rA0 := ((rA0.alloc _)).keep h8
  replace rA1 := ((rA1.alloc _)).keep h8
  replace rA2 := ((rA2.alloc _)).keep h8
  replace rA3 := ((rA3.alloc _)).keep h8
  replace rP := ((rP.alloc _)).keep h8
  replace rQ := ((rQ.alloc _)).keep h8
  replace rV := ((rV.alloc _)).keep h8
  replace rX := ((rX.alloc _)).keep h8
  replace rY := ((rY.alloc _)).keep h8
  replace rS := ((rS.alloc _)).keep h8
  replace rW := ((rW.alloc _)).keep h8
  replace rD := ((rD.alloc _)).keep h8
  have rK := ((Res.new _ _ _)).keep h8
  replace bb := chain (balloc bb _) h8
  have zA0 := rA0.cells; have lA0 := rA0.lt
  have zA1 := rA1.cells; have lA1 := rA1.lt
  have zA2 := rA2.cells; have lA2 := rA2.lt
  have zA3 := rA3.cells; have lA3 := rA3.lt
  have zP := rP.cells; have lP := rP.lt
  have zQ := rQ.cells; have lQ := rQ.lt
  have zV := rV.cells; have lV := rV.lt
  have zX := rX.cells; have lX := rX.lt
  have zY := rY.cells; have lY := rY.lt
  have zS := rS.cells; have lS := rS.lt
  have zW := rW.cells; have lW := rW.lt
  have zD := rD.cells; have lD := rD.lt
  have zK := rK.cells; have lK := rK.lt
  clear zA0 lA0 zA1 lA1 zA2 lA2 zA3 lA3 zP lP zQ lQ zV lV zX lX zY lY zS lS zW lW zD lD zK lK
  go_wp2
  go_ret
  exact ⟨rfl, bb⟩

end Go.Proofs.Ytahkgkcbcadnoaa
