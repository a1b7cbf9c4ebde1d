/- The walks of the laws MulDivProduct, MulDivDivision and MulDivFloorCeil over this translation, from the contracts of what they call: they return true, and memory that was there is as it was. -/
import Derived.Test.YtahkgkcbcadnoaaUh
namespace Go.Proofs.Ytahkgkcbcadnoaa
open Go.RowKit

theorem eqSame (r : Nat) (hr : r < B256) (w : World) : (Op.equalIn 10000 24 (U r) (U r)).run Try.prog w = .ok true w := (eqU_run r r hr hr w).trans (by simp)
theorem eqZ (c : Nat) (hc : c < B256) (w : World) : (Op.equalIn 10000 24 (U c) (.agg #[.int .u64 0, .int .u64 0, .int .u64 0, .int .u64 0])).run Try.prog w = .ok (decide (c = 0)) w := by
  have h := eqU_run c 0 hc (by decide) w
  rw [U_zero] at h
  exact h
theorem balloc {B : Nat} {w w1 : World} (h : Below B w w1) (o : Obj) (hB : B ≤ w.heap.size := by exact Nat.le_refl _) : Below B w (w1.alloc o) := h.alloc (Nat.le_trans hB h.size) o

set_option maxRecDepth 100000 in
set_option maxHeartbeats 4000000 in
theorem product_core (a b p q : Nat) (hp : p < B256) (hq : q < B256) (w : World)
    (c1 : Hid (∀ w, Calls Try.prog 10 #[U a, U b] w fun e w' => e = .returned (.tuple #[U p, U q]) ∧ Below w.heap.size w w'))
    (c2 : Hid (∀ w, Calls Try.prog 11 #[U a, U b] w fun e w' => e = .returned (.tuple #[U p, U q]) ∧ Below w.heap.size w w'))
    (aw : Hid (∀ w, Calls Try.prog 12 #[] w fun e w' => e = .returned (.bool true) ∧ Below w.heap.size w w')) :
    Calls Try.prog 3 #[U a, U b] w fun e w' => e = .returned (.bool true) ∧ Below w.heap.size w w' := by
  have E1 := eqSame p hp
  have E2 := eqSame q hq
  have rA0 : Res (w.heap.size) 24 (arr a) ((w.alloc (.cells (arr a) 24)).alloc (.cells (arr b) 24)) := by
    have h := (Res.new w 24 (arr a)).alloc (.cells (arr b) 24)
    exact h
  have rA1 : Res (w.heap.size + 1) 24 (arr b) ((w.alloc (.cells (arr a) 24)).alloc (.cells (arr b) 24)) := by
    have h := Res.new (w.alloc (.cells (arr a) 24)) 24 (arr b)
    rw [World.size_alloc] at h
    exact h
  have bb : Below w.heap.size w ((w.alloc (.cells (arr a) 24)).alloc (.cells (arr b) 24)) := by go_grown
  go_enter Try.func3, Try.ntmps3
  go_wp2_with fail
  with_reducible refine (c1.out _).mono ?_
  rintro e w1 ⟨rfl, h1⟩
  replace rA0 := (rA0).keep h1
  replace rA1 := (rA1).keep h1
  replace bb := chain bb h1
  have zA0 := rA0.cells; have lA0 := rA0.lt
  have zA1 := rA1.cells; have lA1 := rA1.lt
  go_wp2_with fail
  with_reducible refine (c2.out _).mono ?_
  rintro e w2 ⟨rfl, h2⟩
  clear zA0 lA0 zA1 lA1
  replace rA0 := (((rA0.alloc _).alloc _)).keep h2
  replace rA1 := (((rA1.alloc _).alloc _)).keep h2
  have rX := (((Res.new _ _ _).alloc _)).keep h2
  have rY := ((Res.new _ _ _)).keep h2; simp only [World.size_alloc] at rY
  replace bb := chain (balloc (balloc bb _) _) h2
  have zA0 := rA0.cells; have lA0 := rA0.lt
  have zA1 := rA1.cells; have lA1 := rA1.lt
  have zX := rX.cells; have lX := rX.lt
  have zY := rY.cells; have lY := rY.lt
  go_wp2_with fail
  with_reducible refine (aw.out _).mono ?_
  rintro e w3 ⟨rfl, h3⟩
  clear zA0 lA0 zA1 lA1 zX lX zY lY
  replace rA0 := (((rA0.alloc _).alloc _)).keep h3
  replace rA1 := (((rA1.alloc _).alloc _)).keep h3
  replace rX := (((rX.alloc _).alloc _)).keep h3
  replace rY := (((rY.alloc _).alloc _)).keep h3
  have rZ := (((Res.new _ _ _).alloc _)).keep h3
  have rW := ((Res.new _ _ _)).keep h3; simp only [World.size_alloc] at rW
  replace bb := chain (balloc (balloc bb _) _) h3
  have zA0 := rA0.cells; have lA0 := rA0.lt
  have zA1 := rA1.cells; have lA1 := rA1.lt
  have zX := rX.cells; have lX := rX.lt
  have zY := rY.cells; have lY := rY.lt
  have zZ := rZ.cells; have lZ := rZ.lt
  have zW := rW.cells; have lW := rW.lt
  clear zA0 lA0 zA1 lA1 zX lX zY lY zZ lZ zW lW
  go_wp2
  go_ret
  exact ⟨rfl, bb⟩

set_option maxRecDepth 100000 in
set_option maxHeartbeats 4000000 in
theorem division_core (l h c q r u v : Nat) (s x1 x2 : Int) (hq : q < B256) (hr : r < B256) (hu : u < B256) (hv : v < B256) (w : World)
    (c1 : Hid (∀ w, Calls Try.prog 13 #[U l, U h, U c] w fun e w' => e = .returned (.tuple #[U q, U r, .int .i64 x1]) ∧ Below w.heap.size w w'))
    (c2 : Hid (∀ w, Calls Try.prog 14 #[U l, U h, U c] w fun e w' => e = .returned (.tuple #[U q, U r, .int .i64 x1]) ∧ Below w.heap.size w w'))
    (c3 : Hid (∀ w, Calls Try.prog 15 #[U l, .agg #[.int .u64 s, .int .u64 0, .int .u64 0, .int .u64 0]] w fun e w' => e = .returned (.tuple #[U u, U v, .int .i64 x2]) ∧ Below w.heap.size w w'))
    (c4 : Hid (∀ w, Calls Try.prog 14 #[U l, .agg #[.int .u64 0, .int .u64 0, .int .u64 0, .int .u64 0], .agg #[.int .u64 s, .int .u64 0, .int .u64 0, .int .u64 0]] w fun e w' => e = .returned (.tuple #[U u, U v, .int .i64 x2]) ∧ Below w.heap.size w w'))
    (aw : Hid (∀ w, Calls Try.prog 12 #[] w fun e w' => e = .returned (.bool true) ∧ Below w.heap.size w w')) :
    Calls Try.prog 4 #[U l, U h, U c, .int .u64 s] w fun e w' => e = .returned (.bool true) ∧ Below w.heap.size w w' := by
  have E1 := eqSame q hq
  have E2 := eqSame r hr
  have E3 := eqSame u hu
  have E4 := eqSame v hv
  have rA0 : Res (w.heap.size) 24 (arr l) (((w.alloc (.cells (arr l) 24)).alloc (.cells (arr h) 24)).alloc (.cells (arr c) 24)) := by
    have h := ((Res.new w 24 (arr l)).alloc (.cells (arr h) 24)).alloc (.cells (arr c) 24)
    exact h
  have rA1 : Res (w.heap.size + 1) 24 (arr h) (((w.alloc (.cells (arr l) 24)).alloc (.cells (arr h) 24)).alloc (.cells (arr c) 24)) := by
    have h := (Res.new (w.alloc (.cells (arr l) 24)) 24 (arr h)).alloc (.cells (arr c) 24)
    rw [World.size_alloc] at h
    exact h
  have rA2 : Res (w.heap.size + 1 + 1) 24 (arr c) (((w.alloc (.cells (arr l) 24)).alloc (.cells (arr h) 24)).alloc (.cells (arr c) 24)) := by
    have h := Res.new ((w.alloc (.cells (arr l) 24)).alloc (.cells (arr h) 24)) 24 (arr c)
    rw [World.size_alloc, World.size_alloc] at h
    exact h
  have bb : Below w.heap.size w (((w.alloc (.cells (arr l) 24)).alloc (.cells (arr h) 24)).alloc (.cells (arr c) 24)) := by go_grown
  go_enter Try.func4, Try.ntmps4
  go_wp2_with fail
  with_reducible refine (c1.out _).mono ?_
  rintro e w1 ⟨rfl, h1⟩
  replace rA0 := (rA0).keep h1
  replace rA1 := (rA1).keep h1
  replace rA2 := (rA2).keep h1
  replace bb := chain bb h1
  have zA0 := rA0.cells; have lA0 := rA0.lt
  have zA1 := rA1.cells; have lA1 := rA1.lt
  have zA2 := rA2.cells; have lA2 := rA2.lt
  go_wp2_with fail
  with_reducible refine (c2.out _).mono ?_
  rintro e w2 ⟨rfl, h2⟩
  clear zA0 lA0 zA1 lA1 zA2 lA2
  replace rA0 := (((rA0.alloc _).alloc _)).keep h2
  replace rA1 := (((rA1.alloc _).alloc _)).keep h2
  replace rA2 := (((rA2.alloc _).alloc _)).keep h2
  have rQ := (((Res.new _ _ _).alloc _)).keep h2
  have rR := ((Res.new _ _ _)).keep h2; simp only [World.size_alloc] at rR
  replace bb := chain (balloc (balloc bb _) _) h2
  have zA0 := rA0.cells; have lA0 := rA0.lt
  have zA1 := rA1.cells; have lA1 := rA1.lt
  have zA2 := rA2.cells; have lA2 := rA2.lt
  have zQ := rQ.cells; have lQ := rQ.lt
  have zR := rR.cells; have lR := rR.lt
  go_wp2_with fail
  with_reducible refine (c3.out _).mono ?_
  rintro e w3 ⟨rfl, h3⟩
  clear zA0 lA0 zA1 lA1 zA2 lA2 zQ lQ zR lR
  replace rA0 := (((rA0.alloc _).alloc _)).keep h3
  replace rA1 := (((rA1.alloc _).alloc _)).keep h3
  replace rA2 := (((rA2.alloc _).alloc _)).keep h3
  replace rQ := (((rQ.alloc _).alloc _)).keep h3
  replace rR := (((rR.alloc _).alloc _)).keep h3
  have rX := (((Res.new _ _ _).alloc _)).keep h3
  have rY := ((Res.new _ _ _)).keep h3; simp only [World.size_alloc] at rY
  replace bb := chain (balloc (balloc bb _) _) h3
  have zA0 := rA0.cells; have lA0 := rA0.lt
  have zA1 := rA1.cells; have lA1 := rA1.lt
  have zA2 := rA2.cells; have lA2 := rA2.lt
  have zQ := rQ.cells; have lQ := rQ.lt
  have zR := rR.cells; have lR := rR.lt
  have zX := rX.cells; have lX := rX.lt
  have zY := rY.cells; have lY := rY.lt
  go_wp2_with fail
  with_reducible refine (c4.out _).mono ?_
  rintro e w4 ⟨rfl, h4⟩
  clear zA0 lA0 zA1 lA1 zA2 lA2 zQ lQ zR lR zX lX zY lY
  replace rA0 := (((rA0.alloc _).alloc _)).keep h4
  replace rA1 := (((rA1.alloc _).alloc _)).keep h4
  replace rA2 := (((rA2.alloc _).alloc _)).keep h4
  replace rQ := (((rQ.alloc _).alloc _)).keep h4
  replace rR := (((rR.alloc _).alloc _)).keep h4
  replace rX := (((rX.alloc _).alloc _)).keep h4
  replace rY := (((rY.alloc _).alloc _)).keep h4
  have rK := (((Res.new _ _ _).alloc _)).keep h4
  have rV := ((Res.new _ _ _)).keep h4; simp only [World.size_alloc] at rV
  replace bb := chain (balloc (balloc bb _) _) h4
  have zA0 := rA0.cells; have lA0 := rA0.lt
  have zA1 := rA1.cells; have lA1 := rA1.lt
  have zA2 := rA2.cells; have lA2 := rA2.lt
  have zQ := rQ.cells; have lQ := rQ.lt
  have zR := rR.cells; have lR := rR.lt
  have zX := rX.cells; have lX := rX.lt
  have zY := rY.cells; have lY := rY.lt
  have zK := rK.cells; have lK := rK.lt
  have zV := rV.cells; have lV := rV.lt
  go_wp2_with fail
  with_reducible refine (aw.out _).mono ?_
  rintro e w5 ⟨rfl, h5⟩
  clear zA0 lA0 zA1 lA1 zA2 lA2 zQ lQ zR lR zX lX zY lY zK lK zV lV
  replace rA0 := (((rA0.alloc _).alloc _)).keep h5
  replace rA1 := (((rA1.alloc _).alloc _)).keep h5
  replace rA2 := (((rA2.alloc _).alloc _)).keep h5
  replace rQ := (((rQ.alloc _).alloc _)).keep h5
  replace rR := (((rR.alloc _).alloc _)).keep h5
  replace rX := (((rX.alloc _).alloc _)).keep h5
  replace rY := (((rY.alloc _).alloc _)).keep h5
  replace rK := (((rK.alloc _).alloc _)).keep h5
  replace rV := (((rV.alloc _).alloc _)).keep h5
  have rW := (((Res.new _ _ _).alloc _)).keep h5
  have rZ := ((Res.new _ _ _)).keep h5; simp only [World.size_alloc] at rZ
  replace bb := chain (balloc (balloc bb _) _) h5
  have zA0 := rA0.cells; have lA0 := rA0.lt
  have zA1 := rA1.cells; have lA1 := rA1.lt
  have zA2 := rA2.cells; have lA2 := rA2.lt
  have zQ := rQ.cells; have lQ := rQ.lt
  have zR := rR.cells; have lR := rR.lt
  have zX := rX.cells; have lX := rX.lt
  have zY := rY.cells; have lY := rY.lt
  have zK := rK.cells; have lK := rK.lt
  have zV := rV.cells; have lV := rV.lt
  have zW := rW.cells; have lW := rW.lt
  have zZ := rZ.cells; have lZ := rZ.lt
  clear zA0 lA0 zA1 lA1 zA2 lA2 zQ lQ zR lR zX lX zY lY zK lK zV lV zW lW zZ lZ
  go_wp2
  go_ret
  exact ⟨rfl, bb⟩

set_option maxRecDepth 100000 in
set_option maxHeartbeats 4000000 in
theorem floorceil_core (a b c p r t : Nat) (n x1 x2 x3 : Int) (hp : p < B256) (hr : r < B256) (ht : t < B256) (w : World)
    (c1 : Hid (∀ w, Calls Try.prog 16 #[U a, U b, U c] w fun e w' => e = .returned (.tuple #[U p, .int .i64 x1]) ∧ Below w.heap.size w w'))
    (c2 : Hid (∀ w, Calls Try.prog 17 #[U a, U b, U c] w fun e w' => e = .returned (.tuple #[U p, .int .i64 x1]) ∧ Below w.heap.size w w'))
    (c3 : Hid (∀ w, Calls Try.prog 18 #[U a, U b, U c] w fun e w' => e = .returned (.tuple #[U r, .int .i64 x2]) ∧ Below w.heap.size w w'))
    (c4 : Hid (∀ w, Calls Try.prog 19 #[U a, U b, U c] w fun e w' => e = .returned (.tuple #[U r, .int .i64 x2]) ∧ Below w.heap.size w w'))
    (c5 : Hid (∀ w, Calls Try.prog 16 #[U a, .agg #[.int .u64 n, .int .u64 0, .int .u64 0, .int .u64 0], U b] w fun e w' => e = .returned (.tuple #[U t, .int .i64 x3]) ∧ Below w.heap.size w w'))
    (c6 : Hid (∀ w, Calls Try.prog 17 #[U a, .agg #[.int .u64 n, .int .u64 0, .int .u64 0, .int .u64 0], U b] w fun e w' => e = .returned (.tuple #[U t, .int .i64 x3]) ∧ Below w.heap.size w w'))
    (aw : Hid (∀ w, Calls Try.prog 12 #[] w fun e w' => e = .returned (.bool true) ∧ Below w.heap.size w w')) :
    Calls Try.prog 5 #[U a, U b, U c, .int .u64 n] w fun e w' => e = .returned (.bool true) ∧ Below w.heap.size w w' := by
  have E1 := eqSame p hp
  have E2 := eqSame r hr
  have E3 := eqSame t ht
  have rA0 : Res (w.heap.size) 24 (arr a) (((w.alloc (.cells (arr a) 24)).alloc (.cells (arr b) 24)).alloc (.cells (arr c) 24)) := by
    have h := ((Res.new w 24 (arr a)).alloc (.cells (arr b) 24)).alloc (.cells (arr c) 24)
    exact h
  have rA1 : Res (w.heap.size + 1) 24 (arr b) (((w.alloc (.cells (arr a) 24)).alloc (.cells (arr b) 24)).alloc (.cells (arr c) 24)) := by
    have h := (Res.new (w.alloc (.cells (arr a) 24)) 24 (arr b)).alloc (.cells (arr c) 24)
    rw [World.size_alloc] at h
    exact h
  have rA2 : Res (w.heap.size + 1 + 1) 24 (arr c) (((w.alloc (.cells (arr a) 24)).alloc (.cells (arr b) 24)).alloc (.cells (arr c) 24)) := by
    have h := Res.new ((w.alloc (.cells (arr a) 24)).alloc (.cells (arr b) 24)) 24 (arr c)
    rw [World.size_alloc, World.size_alloc] at h
    exact h
  have bb : Below w.heap.size w (((w.alloc (.cells (arr a) 24)).alloc (.cells (arr b) 24)).alloc (.cells (arr c) 24)) := by go_grown
  go_enter Try.func5, Try.ntmps5
  go_wp2_with fail
  with_reducible refine (c1.out _).mono ?_
  rintro e w1 ⟨rfl, h1⟩
  replace rA0 := (rA0).keep h1
  replace rA1 := (rA1).keep h1
  replace rA2 := (rA2).keep h1
  replace bb := chain bb h1
  have zA0 := rA0.cells; have lA0 := rA0.lt
  have zA1 := rA1.cells; have lA1 := rA1.lt
  have zA2 := rA2.cells; have lA2 := rA2.lt
  go_wp2_with fail
  with_reducible refine (c2.out _).mono ?_
  rintro e w2 ⟨rfl, h2⟩
  clear zA0 lA0 zA1 lA1 zA2 lA2
  replace rA0 := ((rA0.alloc _)).keep h2
  replace rA1 := ((rA1.alloc _)).keep h2
  replace rA2 := ((rA2.alloc _)).keep h2
  have rP := ((Res.new _ _ _)).keep h2
  replace bb := chain (balloc bb _) h2
  have zA0 := rA0.cells; have lA0 := rA0.lt
  have zA1 := rA1.cells; have lA1 := rA1.lt
  have zA2 := rA2.cells; have lA2 := rA2.lt
  have zP := rP.cells; have lP := rP.lt
  go_wp2_with fail
  with_reducible refine (c3.out _).mono ?_
  rintro e w3 ⟨rfl, h3⟩
  clear zA0 lA0 zA1 lA1 zA2 lA2 zP lP
  replace rA0 := ((rA0.alloc _)).keep h3
  replace rA1 := ((rA1.alloc _)).keep h3
  replace rA2 := ((rA2.alloc _)).keep h3
  replace rP := ((rP.alloc _)).keep h3
  have rQ := ((Res.new _ _ _)).keep h3
  replace bb := chain (balloc bb _) h3
  have zA0 := rA0.cells; have lA0 := rA0.lt
  have zA1 := rA1.cells; have lA1 := rA1.lt
  have zA2 := rA2.cells; have lA2 := rA2.lt
  have zP := rP.cells; have lP := rP.lt
  have zQ := rQ.cells; have lQ := rQ.lt
  go_wp2_with fail
  with_reducible refine (c4.out _).mono ?_
  rintro e w4 ⟨rfl, h4⟩
  clear zA0 lA0 zA1 lA1 zA2 lA2 zP lP zQ lQ
  replace rA0 := ((rA0.alloc _)).keep h4
  replace rA1 := ((rA1.alloc _)).keep h4
  replace rA2 := ((rA2.alloc _)).keep h4
  replace rP := ((rP.alloc _)).keep h4
  replace rQ := ((rQ.alloc _)).keep h4
  have rR := ((Res.new _ _ _)).keep h4
  replace bb := chain (balloc bb _) h4
  have zA0 := rA0.cells; have lA0 := rA0.lt
  have zA1 := rA1.cells; have lA1 := rA1.lt
  have zA2 := rA2.cells; have lA2 := rA2.lt
  have zP := rP.cells; have lP := rP.lt
  have zQ := rQ.cells; have lQ := rQ.lt
  have zR := rR.cells; have lR := rR.lt
  go_wp2_with fail
  with_reducible refine (c5.out _).mono ?_
  rintro e w5 ⟨rfl, h5⟩
  clear zA0 lA0 zA1 lA1 zA2 lA2 zP lP zQ lQ zR lR
  replace rA0 := ((rA0.alloc _)).keep h5
  replace rA1 := ((rA1.alloc _)).keep h5
  replace rA2 := ((rA2.alloc _)).keep h5
  replace rP := ((rP.alloc _)).keep h5
  replace rQ := ((rQ.alloc _)).keep h5
  replace rR := ((rR.alloc _)).keep h5
  have rS := ((Res.new _ _ _)).keep h5
  replace bb := chain (balloc bb _) h5
  have zA0 := rA0.cells; have lA0 := rA0.lt
  have zA1 := rA1.cells; have lA1 := rA1.lt
  have zA2 := rA2.cells; have lA2 := rA2.lt
  have zP := rP.cells; have lP := rP.lt
  have zQ := rQ.cells; have lQ := rQ.lt
  have zR := rR.cells; have lR := rR.lt
  have zS := rS.cells; have lS := rS.lt
  go_wp2_with fail
  with_reducible refine (c6.out _).mono ?_
  rintro e w6 ⟨rfl, h6⟩
  clear zA0 lA0 zA1 lA1 zA2 lA2 zP lP zQ lQ zR lR zS lS
  replace rA0 := ((rA0.alloc _)).keep h6
  replace rA1 := ((rA1.alloc _)).keep h6
  replace rA2 := ((rA2.alloc _)).keep h6
  replace rP := ((rP.alloc _)).keep h6
  replace rQ := ((rQ.alloc _)).keep h6
  replace rR := ((rR.alloc _)).keep h6
  replace rS := ((rS.alloc _)).keep h6
  have rT := ((Res.new _ _ _)).keep h6
  replace bb := chain (balloc bb _) h6
  have zA0 := rA0.cells; have lA0 := rA0.lt
  have zA1 := rA1.cells; have lA1 := rA1.lt
  have zA2 := rA2.cells; have lA2 := rA2.lt
  have zP := rP.cells; have lP := rP.lt
  have zQ := rQ.cells; have lQ := rQ.lt
  have zR := rR.cells; have lR := rR.lt
  have zS := rS.cells; have lS := rS.lt
  have zT := rT.cells; have lT := rT.lt
  go_wp2_with fail
  with_reducible refine (aw.out _).mono ?_
  rintro e w7 ⟨rfl, h7⟩
  clear zA0 lA0 zA1 lA1 zA2 lA2 zP lP zQ lQ zR lR zS lS zT lT
  replace rA0 := ((rA0.alloc _)).keep h7
  replace rA1 := ((rA1.alloc _)).keep h7
  replace rA2 := ((rA2.alloc _)).keep h7
  replace rP := ((rP.alloc _)).keep h7
  replace rQ := ((rQ.alloc _)).keep h7
  replace rR := ((rR.alloc _)).keep h7
  replace rS := ((rS.alloc _)).keep h7
  replace rT := ((rT.alloc _)).keep h7
  have rV := ((Res.new _ _ _)).keep h7
  replace bb := chain (balloc bb _) h7
  have zA0 := rA0.cells; have lA0 := rA0.lt
  have zA1 := rA1.cells; have lA1 := rA1.lt
  have zA2 := rA2.cells; have lA2 := rA2.lt
  have zP := rP.cells; have lP := rP.lt
  have zQ := rQ.cells; have lQ := rQ.lt
  have zR := rR.cells; have lR := rR.lt
  have zS := rS.cells; have lS := rS.lt
  have zT := rT.cells; have lT := rT.lt
  have zV := rV.cells; have lV := rV.lt
  clear zA0 lA0 zA1 lA1 zA2 lA2 zP lP zQ lQ zR lR zS lS zT lT zV lV
  go_wp2
  go_ret
  exact ⟨rfl, bb⟩

end Go.Proofs.Ytahkgkcbcadnoaa
