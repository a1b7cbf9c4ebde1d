/- Contracts of the reference's Div512, MulDivFloor and MulDivCeil over this translation: quotient and remainder, or zero and the error; memory that was there is as it was. -/
import Derived.Test.YtahkgkcbcadnoaaRefn
import Derived.Test.YtahkgkcbcadnoaaRefk
namespace Go.Proofs.Ytahkgkcbcadnoaa
open Go.RowKit

theorem nd_join_le (l h : Nat) (hl : l < B256) (hh : h < B256) : nd (l + h * B256) ≤ 1048576 := by
  refine Nat.le_trans (nd_le (k := 32) |>.2 ?_) (by omega)
  have e : (65536 : Nat) ^ 32 = B256 * B256 := rfl
  have : (h + 1) * B256 ≤ B256 * B256 := Nat.mul_le_mul_right _ hh
  rw [e]
  rw [Nat.add_mul] at this
  omega

set_option maxHeartbeats 4000000 in
theorem div512_zero (l h : Nat) (w : World) :
    Calls Try.prog 14 #[U l, U h, U 0] w fun e w' => e = .returned (.tuple #[.agg #[.int .u64 0, .int .u64 0, .int .u64 0, .int .u64 0], .agg #[.int .u64 0, .int .u64 0, .int .u64 0, .int .u64 0], .int .i64 5]) ∧ Below w.heap.size w w' := by
  have r0 : Res (w.heap.size) 24 (arr l) (((((w.alloc (.cells (arr l) 24)).alloc (.cells (arr h) 24)).alloc (.cells (arr 0) 24)).alloc (.cells #[.int .u64 0, .int .u64 0, .int .u64 0, .int .u64 0] 24)).alloc (.cells #[.int .u64 0, .int .u64 0, .int .u64 0, .int .u64 0] 24)) := by
    have h := ((((Res.new w 24 (arr l)).alloc (.cells (arr h) 24)).alloc (.cells (arr 0) 24)).alloc (.cells #[.int .u64 0, .int .u64 0, .int .u64 0, .int .u64 0] 24)).alloc (.cells #[.int .u64 0, .int .u64 0, .int .u64 0, .int .u64 0] 24)
    exact h
  have r1 : Res (w.heap.size + 1) 24 (arr h) (((((w.alloc (.cells (arr l) 24)).alloc (.cells (arr h) 24)).alloc (.cells (arr 0) 24)).alloc (.cells #[.int .u64 0, .int .u64 0, .int .u64 0, .int .u64 0] 24)).alloc (.cells #[.int .u64 0, .int .u64 0, .int .u64 0, .int .u64 0] 24)) := by
    have h := (((Res.new (w.alloc (.cells (arr l) 24)) 24 (arr h)).alloc (.cells (arr 0) 24)).alloc (.cells #[.int .u64 0, .int .u64 0, .int .u64 0, .int .u64 0] 24)).alloc (.cells #[.int .u64 0, .int .u64 0, .int .u64 0, .int .u64 0] 24)
    rw [World.size_alloc] at h
    exact h
  have r2 : Res (w.heap.size + 1 + 1) 24 (arr 0) (((((w.alloc (.cells (arr l) 24)).alloc (.cells (arr h) 24)).alloc (.cells (arr 0) 24)).alloc (.cells #[.int .u64 0, .int .u64 0, .int .u64 0, .int .u64 0] 24)).alloc (.cells #[.int .u64 0, .int .u64 0, .int .u64 0, .int .u64 0] 24)) := by
    have h := ((Res.new ((w.alloc (.cells (arr l) 24)).alloc (.cells (arr h) 24)) 24 (arr 0)).alloc (.cells #[.int .u64 0, .int .u64 0, .int .u64 0, .int .u64 0] 24)).alloc (.cells #[.int .u64 0, .int .u64 0, .int .u64 0, .int .u64 0] 24)
    rw [World.size_alloc, World.size_alloc] at h
    exact h
  have r3 : Res (w.heap.size + 1 + 1 + 1) 24 #[.int .u64 0, .int .u64 0, .int .u64 0, .int .u64 0] (((((w.alloc (.cells (arr l) 24)).alloc (.cells (arr h) 24)).alloc (.cells (arr 0) 24)).alloc (.cells #[.int .u64 0, .int .u64 0, .int .u64 0, .int .u64 0] 24)).alloc (.cells #[.int .u64 0, .int .u64 0, .int .u64 0, .int .u64 0] 24)) := by
    have h := (Res.new (((w.alloc (.cells (arr l) 24)).alloc (.cells (arr h) 24)).alloc (.cells (arr 0) 24)) 24 #[.int .u64 0, .int .u64 0, .int .u64 0, .int .u64 0]).alloc (.cells #[.int .u64 0, .int .u64 0, .int .u64 0, .int .u64 0] 24)
    rw [World.size_alloc, World.size_alloc, World.size_alloc] at h
    exact h
  have r4 : Res (w.heap.size + 1 + 1 + 1 + 1) 24 #[.int .u64 0, .int .u64 0, .int .u64 0, .int .u64 0] (((((w.alloc (.cells (arr l) 24)).alloc (.cells (arr h) 24)).alloc (.cells (arr 0) 24)).alloc (.cells #[.int .u64 0, .int .u64 0, .int .u64 0, .int .u64 0] 24)).alloc (.cells #[.int .u64 0, .int .u64 0, .int .u64 0, .int .u64 0] 24)) := by
    have h := Res.new ((((w.alloc (.cells (arr l) 24)).alloc (.cells (arr h) 24)).alloc (.cells (arr 0) 24)).alloc (.cells #[.int .u64 0, .int .u64 0, .int .u64 0, .int .u64 0] 24)) 24 #[.int .u64 0, .int .u64 0, .int .u64 0, .int .u64 0]
    rw [World.size_alloc, World.size_alloc, World.size_alloc, World.size_alloc] at h
    exact h
  have b0 : Below w.heap.size w (((((w.alloc (.cells (arr l) 24)).alloc (.cells (arr h) 24)).alloc (.cells (arr 0) 24)).alloc (.cells #[.int .u64 0, .int .u64 0, .int .u64 0, .int .u64 0] 24)).alloc (.cells #[.int .u64 0, .int .u64 0, .int .u64 0, .int .u64 0] 24)) := by go_grown
  have Z := Lib.hid (fun w => rzero_any 0 (by decide) w)
  go_enter Try.func14, Try.ntmps14
  go_wp2_with fail
  with_reducible refine (Z.out _).mono ?_
  rintro e w1 ⟨rfl, hw⟩
  have hb0 := chain b0 hw
  have r3 := Res.keep r3 hw; have r4 := Res.keep r4 hw
  have z3 := r3.cells; have m3 := r3.marks; have z4 := r4.cells; have m4 := r4.marks
  go_wp2
  refine bodyPost_ret (v := .tuple #[.agg #[.int .u64 0, .int .u64 0, .int .u64 0, .int .u64 0], .agg #[.int .u64 0, .int .u64 0, .int .u64 0, .int .u64 0], .int .i64 5]) (by simp [results, Try.results14, go_sem, z3, z4]) rfl ⟨rfl, ?_⟩
  go_grown

set_option maxHeartbeats 4000000 in
theorem div512_over (l h c : Nat) (hl : l < B256) (hh : h < B256) (hc : c < B256) (w : World) (h0 : c ≠ 0) (h1 : ¬ (l + h * B256) / c < B256) :
    Calls Try.prog 14 #[U l, U h, U c] w fun e w' => e = .returned (.tuple #[.agg #[.int .u64 0, .int .u64 0, .int .u64 0, .int .u64 0], .agg #[.int .u64 0, .int .u64 0, .int .u64 0, .int .u64 0], .int .i64 4]) ∧ Below w.heap.size w w' := by
  have r0 : Res (w.heap.size) 24 (arr l) (((((w.alloc (.cells (arr l) 24)).alloc (.cells (arr h) 24)).alloc (.cells (arr c) 24)).alloc (.cells #[.int .u64 0, .int .u64 0, .int .u64 0, .int .u64 0] 24)).alloc (.cells #[.int .u64 0, .int .u64 0, .int .u64 0, .int .u64 0] 24)) := by
    have h := ((((Res.new w 24 (arr l)).alloc (.cells (arr h) 24)).alloc (.cells (arr c) 24)).alloc (.cells #[.int .u64 0, .int .u64 0, .int .u64 0, .int .u64 0] 24)).alloc (.cells #[.int .u64 0, .int .u64 0, .int .u64 0, .int .u64 0] 24)
    exact h
  have r1 : Res (w.heap.size + 1) 24 (arr h) (((((w.alloc (.cells (arr l) 24)).alloc (.cells (arr h) 24)).alloc (.cells (arr c) 24)).alloc (.cells #[.int .u64 0, .int .u64 0, .int .u64 0, .int .u64 0] 24)).alloc (.cells #[.int .u64 0, .int .u64 0, .int .u64 0, .int .u64 0] 24)) := by
    have h := (((Res.new (w.alloc (.cells (arr l) 24)) 24 (arr h)).alloc (.cells (arr c) 24)).alloc (.cells #[.int .u64 0, .int .u64 0, .int .u64 0, .int .u64 0] 24)).alloc (.cells #[.int .u64 0, .int .u64 0, .int .u64 0, .int .u64 0] 24)
    rw [World.size_alloc] at h
    exact h
  have r2 : Res (w.heap.size + 1 + 1) 24 (arr c) (((((w.alloc (.cells (arr l) 24)).alloc (.cells (arr h) 24)).alloc (.cells (arr c) 24)).alloc (.cells #[.int .u64 0, .int .u64 0, .int .u64 0, .int .u64 0] 24)).alloc (.cells #[.int .u64 0, .int .u64 0, .int .u64 0, .int .u64 0] 24)) := by
    have h := ((Res.new ((w.alloc (.cells (arr l) 24)).alloc (.cells (arr h) 24)) 24 (arr c)).alloc (.cells #[.int .u64 0, .int .u64 0, .int .u64 0, .int .u64 0] 24)).alloc (.cells #[.int .u64 0, .int .u64 0, .int .u64 0, .int .u64 0] 24)
    rw [World.size_alloc, World.size_alloc] at h
    exact h
  have r3 : Res (w.heap.size + 1 + 1 + 1) 24 #[.int .u64 0, .int .u64 0, .int .u64 0, .int .u64 0] (((((w.alloc (.cells (arr l) 24)).alloc (.cells (arr h) 24)).alloc (.cells (arr c) 24)).alloc (.cells #[.int .u64 0, .int .u64 0, .int .u64 0, .int .u64 0] 24)).alloc (.cells #[.int .u64 0, .int .u64 0, .int .u64 0, .int .u64 0] 24)) := by
    have h := (Res.new (((w.alloc (.cells (arr l) 24)).alloc (.cells (arr h) 24)).alloc (.cells (arr c) 24)) 24 #[.int .u64 0, .int .u64 0, .int .u64 0, .int .u64 0]).alloc (.cells #[.int .u64 0, .int .u64 0, .int .u64 0, .int .u64 0] 24)
    rw [World.size_alloc, World.size_alloc, World.size_alloc] at h
    exact h
  have r4 : Res (w.heap.size + 1 + 1 + 1 + 1) 24 #[.int .u64 0, .int .u64 0, .int .u64 0, .int .u64 0] (((((w.alloc (.cells (arr l) 24)).alloc (.cells (arr h) 24)).alloc (.cells (arr c) 24)).alloc (.cells #[.int .u64 0, .int .u64 0, .int .u64 0, .int .u64 0] 24)).alloc (.cells #[.int .u64 0, .int .u64 0, .int .u64 0, .int .u64 0] 24)) := by
    have h := Res.new ((((w.alloc (.cells (arr l) 24)).alloc (.cells (arr h) 24)).alloc (.cells (arr c) 24)).alloc (.cells #[.int .u64 0, .int .u64 0, .int .u64 0, .int .u64 0] 24)) 24 #[.int .u64 0, .int .u64 0, .int .u64 0, .int .u64 0]
    rw [World.size_alloc, World.size_alloc, World.size_alloc, World.size_alloc] at h
    exact h
  have b0 : Below w.heap.size w (((((w.alloc (.cells (arr l) 24)).alloc (.cells (arr h) 24)).alloc (.cells (arr c) 24)).alloc (.cells #[.int .u64 0, .int .u64 0, .int .u64 0, .int .u64 0] 24)).alloc (.cells #[.int .u64 0, .int .u64 0, .int .u64 0, .int .u64 0] 24)) := by go_grown
  have Z := Lib.hid (fun w => rzero_any c hc w)
  rw [decide_eq_false h0] at Z
  go_enter Try.func14, Try.ntmps14
  go_wp2_with fail
  with_reducible refine (Z.out _).mono ?_
  rintro e w1 ⟨rfl, hw⟩
  have hb0 := chain b0 hw
  have r0 := Res.keep r0 hw; have r1 := Res.keep r1 hw; have r2 := Res.keep r2 hw; have r3 := Res.keep r3 hw; have r4 := Res.keep r4 hw
  have z0 := r0.cells; have z1 := r1.cells; have z2 := r2.cells
  have hb0 := hb0.drew
  have hw := (Below.refl w1.heap.size w1).drew
  have r3 := r3.drew
  have r4 := r4.drew
  go_wp2
  go_region_held3 (fun w' => w'.cell? ⟨w.heap.size, 0, none⟩ = some (.int .u64 (limb l 0)) ∧ w'.cell? ⟨w.heap.size, 1, none⟩ = some (.int .u64 (limb l 1)) ∧ w'.cell? ⟨w.heap.size, 2, none⟩ = some (.int .u64 (limb l 2)) ∧ w'.cell? ⟨w.heap.size, 3, none⟩ = some (.int .u64 (limb l 3)) ∧ w'.cell? ⟨w.heap.size + 1, 0, none⟩ = some (.int .u64 (limb h 0)) ∧ w'.cell? ⟨w.heap.size + 1, 1, none⟩ = some (.int .u64 (limb h 1)) ∧ w'.cell? ⟨w.heap.size + 1, 2, none⟩ = some (.int .u64 (limb h 2)) ∧ w'.cell? ⟨w.heap.size + 1, 3, none⟩ = some (.int .u64 (limb h 3)) ∧ w'.cell? ⟨w.heap.size + 1 + 1, 0, none⟩ = some (.int .u64 (limb c 0)) ∧ w'.cell? ⟨w.heap.size + 1 + 1, 1, none⟩ = some (.int .u64 (limb c 1)) ∧ w'.cell? ⟨w.heap.size + 1 + 1, 2, none⟩ = some (.int .u64 (limb c 2)) ∧ w'.cell? ⟨w.heap.size + 1 + 1, 3, none⟩ = some (.int .u64 (limb c 3)))
    (first | (go_keep; done) | (go_split_ands; refine ⟨?_, ?_, ?_, ?_, ?_, ?_, ?_, ?_, ?_, ?_, ?_, ?_⟩ <;> (rw [hw.cell (World.block_lt_of_cell? _ _ (by assumption))]; assumption)))
    (first | (go_at_call 33; refine (rjoin_any l h hl hh _).mono ?_; rintro e w2 ⟨v, rfl, hbig, hw⟩; have hb0 := chain hb0 hw; have r3 := Res.keep r3 hw; have r4 := Res.keep r4 hw) | (go_at_call 28; refine (from_any c hc _).mono ?_; rintro e w2 ⟨v, rfl, hbig, hw⟩; have hb0 := chain hb0 hw; have r3 := Res.keep r3 hw; have r4 := Res.keep r4 hw) | (go_at_call 32; refine (div_any _ _ (l + h * B256) c _ (Big.below (by assumption) hw) hbig (nd_join_le l h hl hh) (Nat.le_trans (nd_16.2 hc) (by omega)) (Nat.pos_of_ne_zero h0)).mono ?_; rintro e w2 ⟨x, y, rfl, hx, hy, hw⟩; have hb0 := chain hb0 hw; have r3 := Res.keep r3 hw; have r4 := Res.keep r4 hw))
  have hxb := hx
  obtain ⟨X, cx, rfl, a1, a2, a3, a4⟩ := hx
  have C := Lib.hid (fun w => fits_no X (nd ((l + h * B256) / c)) cx w (by have : ¬ nd ((l + h * B256) / c) ≤ 16 := fun h' => h1 (nd_16.1 h'); omega))
  clear a1 a2 a3 a4 hxb
  go_wp2_with fail
  with_reducible refine (C.out _).mono ?_
  rintro e w3 ⟨rfl, rfl⟩
  have z3 := r3.cells; have m3 := r3.marks; have z4 := r4.cells; have m4 := r4.marks
  go_wp2
  refine bodyPost_ret (v := .tuple #[.agg #[.int .u64 0, .int .u64 0, .int .u64 0, .int .u64 0], .agg #[.int .u64 0, .int .u64 0, .int .u64 0, .int .u64 0], .int .i64 4]) (by simp [results, Try.results14, go_sem, z3, z4]) rfl ⟨rfl, ?_⟩
  go_grown

set_option maxHeartbeats 4000000 in
theorem div512_ok (l h c : Nat) (hl : l < B256) (hh : h < B256) (hc : c < B256) (w : World) (h0 : c ≠ 0) (h1 : (l + h * B256) / c < B256) :
    Calls Try.prog 14 #[U l, U h, U c] w fun e w' => e = .returned (.tuple #[U ((l + h * B256) / c), U ((l + h * B256) % c), .int .i64 0]) ∧ Below w.heap.size w w' := by
  have r0 : Res (w.heap.size) 24 (arr l) (((((w.alloc (.cells (arr l) 24)).alloc (.cells (arr h) 24)).alloc (.cells (arr c) 24)).alloc (.cells #[.int .u64 0, .int .u64 0, .int .u64 0, .int .u64 0] 24)).alloc (.cells #[.int .u64 0, .int .u64 0, .int .u64 0, .int .u64 0] 24)) := by
    have h := ((((Res.new w 24 (arr l)).alloc (.cells (arr h) 24)).alloc (.cells (arr c) 24)).alloc (.cells #[.int .u64 0, .int .u64 0, .int .u64 0, .int .u64 0] 24)).alloc (.cells #[.int .u64 0, .int .u64 0, .int .u64 0, .int .u64 0] 24)
    exact h
  have r1 : Res (w.heap.size + 1) 24 (arr h) (((((w.alloc (.cells (arr l) 24)).alloc (.cells (arr h) 24)).alloc (.cells (arr c) 24)).alloc (.cells #[.int .u64 0, .int .u64 0, .int .u64 0, .int .u64 0] 24)).alloc (.cells #[.int .u64 0, .int .u64 0, .int .u64 0, .int .u64 0] 24)) := by
    have h := (((Res.new (w.alloc (.cells (arr l) 24)) 24 (arr h)).alloc (.cells (arr c) 24)).alloc (.cells #[.int .u64 0, .int .u64 0, .int .u64 0, .int .u64 0] 24)).alloc (.cells #[.int .u64 0, .int .u64 0, .int .u64 0, .int .u64 0] 24)
    rw [World.size_alloc] at h
    exact h
  have r2 : Res (w.heap.size + 1 + 1) 24 (arr c) (((((w.alloc (.cells (arr l) 24)).alloc (.cells (arr h) 24)).alloc (.cells (arr c) 24)).alloc (.cells #[.int .u64 0, .int .u64 0, .int .u64 0, .int .u64 0] 24)).alloc (.cells #[.int .u64 0, .int .u64 0, .int .u64 0, .int .u64 0] 24)) := by
    have h := ((Res.new ((w.alloc (.cells (arr l) 24)).alloc (.cells (arr h) 24)) 24 (arr c)).alloc (.cells #[.int .u64 0, .int .u64 0, .int .u64 0, .int .u64 0] 24)).alloc (.cells #[.int .u64 0, .int .u64 0, .int .u64 0, .int .u64 0] 24)
    rw [World.size_alloc, World.size_alloc] at h
    exact h
  have r3 : Res (w.heap.size + 1 + 1 + 1) 24 #[.int .u64 0, .int .u64 0, .int .u64 0, .int .u64 0] (((((w.alloc (.cells (arr l) 24)).alloc (.cells (arr h) 24)).alloc (.cells (arr c) 24)).alloc (.cells #[.int .u64 0, .int .u64 0, .int .u64 0, .int .u64 0] 24)).alloc (.cells #[.int .u64 0, .int .u64 0, .int .u64 0, .int .u64 0] 24)) := by
    have h := (Res.new (((w.alloc (.cells (arr l) 24)).alloc (.cells (arr h) 24)).alloc (.cells (arr c) 24)) 24 #[.int .u64 0, .int .u64 0, .int .u64 0, .int .u64 0]).alloc (.cells #[.int .u64 0, .int .u64 0, .int .u64 0, .int .u64 0] 24)
    rw [World.size_alloc, World.size_alloc, World.size_alloc] at h
    exact h
  have r4 : Res (w.heap.size + 1 + 1 + 1 + 1) 24 #[.int .u64 0, .int .u64 0, .int .u64 0, .int .u64 0] (((((w.alloc (.cells (arr l) 24)).alloc (.cells (arr h) 24)).alloc (.cells (arr c) 24)).alloc (.cells #[.int .u64 0, .int .u64 0, .int .u64 0, .int .u64 0] 24)).alloc (.cells #[.int .u64 0, .int .u64 0, .int .u64 0, .int .u64 0] 24)) := by
    have h := Res.new ((((w.alloc (.cells (arr l) 24)).alloc (.cells (arr h) 24)).alloc (.cells (arr c) 24)).alloc (.cells #[.int .u64 0, .int .u64 0, .int .u64 0, .int .u64 0] 24)) 24 #[.int .u64 0, .int .u64 0, .int .u64 0, .int .u64 0]
    rw [World.size_alloc, World.size_alloc, World.size_alloc, World.size_alloc] at h
    exact h
  have b0 : Below w.heap.size w (((((w.alloc (.cells (arr l) 24)).alloc (.cells (arr h) 24)).alloc (.cells (arr c) 24)).alloc (.cells #[.int .u64 0, .int .u64 0, .int .u64 0, .int .u64 0] 24)).alloc (.cells #[.int .u64 0, .int .u64 0, .int .u64 0, .int .u64 0] 24)) := by go_grown
  have Z := Lib.hid (fun w => rzero_any c hc w)
  rw [decide_eq_false h0] at Z
  go_enter Try.func14, Try.ntmps14
  go_wp2_with fail
  with_reducible refine (Z.out _).mono ?_
  rintro e w1 ⟨rfl, hw⟩
  have hb0 := chain b0 hw
  have r0 := Res.keep r0 hw; have r1 := Res.keep r1 hw; have r2 := Res.keep r2 hw; have r3 := Res.keep r3 hw; have r4 := Res.keep r4 hw
  have z0 := r0.cells; have z1 := r1.cells; have z2 := r2.cells
  have hb0 := hb0.drew
  have hw := (Below.refl w1.heap.size w1).drew
  have r3 := r3.drew
  have r4 := r4.drew
  go_wp2
  go_region_held3 (fun w' => w'.cell? ⟨w.heap.size, 0, none⟩ = some (.int .u64 (limb l 0)) ∧ w'.cell? ⟨w.heap.size, 1, none⟩ = some (.int .u64 (limb l 1)) ∧ w'.cell? ⟨w.heap.size, 2, none⟩ = some (.int .u64 (limb l 2)) ∧ w'.cell? ⟨w.heap.size, 3, none⟩ = some (.int .u64 (limb l 3)) ∧ w'.cell? ⟨w.heap.size + 1, 0, none⟩ = some (.int .u64 (limb h 0)) ∧ w'.cell? ⟨w.heap.size + 1, 1, none⟩ = some (.int .u64 (limb h 1)) ∧ w'.cell? ⟨w.heap.size + 1, 2, none⟩ = some (.int .u64 (limb h 2)) ∧ w'.cell? ⟨w.heap.size + 1, 3, none⟩ = some (.int .u64 (limb h 3)) ∧ w'.cell? ⟨w.heap.size + 1 + 1, 0, none⟩ = some (.int .u64 (limb c 0)) ∧ w'.cell? ⟨w.heap.size + 1 + 1, 1, none⟩ = some (.int .u64 (limb c 1)) ∧ w'.cell? ⟨w.heap.size + 1 + 1, 2, none⟩ = some (.int .u64 (limb c 2)) ∧ w'.cell? ⟨w.heap.size + 1 + 1, 3, none⟩ = some (.int .u64 (limb c 3)))
    (first | (go_keep; done) | (go_split_ands; refine ⟨?_, ?_, ?_, ?_, ?_, ?_, ?_, ?_, ?_, ?_, ?_, ?_⟩ <;> (rw [hw.cell (World.block_lt_of_cell? _ _ (by assumption))]; assumption)))
    (first | (go_at_call 33; refine (rjoin_any l h hl hh _).mono ?_; rintro e w2 ⟨v, rfl, hbig, hw⟩; have hb0 := chain hb0 hw; have r3 := Res.keep r3 hw; have r4 := Res.keep r4 hw) | (go_at_call 28; refine (from_any c hc _).mono ?_; rintro e w2 ⟨v, rfl, hbig, hw⟩; have hb0 := chain hb0 hw; have r3 := Res.keep r3 hw; have r4 := Res.keep r4 hw) | (go_at_call 32; refine (div_any _ _ (l + h * B256) c _ (Big.below (by assumption) hw) hbig (nd_join_le l h hl hh) (Nat.le_trans (nd_16.2 hc) (by omega)) (Nat.pos_of_ne_zero h0)).mono ?_; rintro e w2 ⟨x, y, rfl, hx, hy, hw⟩; have hb0 := chain hb0 hw; have r3 := Res.keep r3 hw; have r4 := Res.keep r4 hw))
  have hxb := hx
  obtain ⟨X, cx, rfl, a1, a2, a3, a4⟩ := hx
  have C := Lib.hid (fun w => fits_yes X (nd ((l + h * B256) / c)) cx w (nd_16.2 h1))
  have C1 := Lib.hid (to_any _ _ _ hxb h1)
  have C2 := Lib.hid (fun (w3 : World) (hw3 : Below w2.heap.size w2 w3) => to_any y ((l + h * B256) % c) w3 (hy.below hw3) (Nat.lt_trans (Nat.mod_lt _ (Nat.pos_of_ne_zero h0)) hc))
  clear a1 a2 a3 a4 hxb hy
  go_wp2_with fail
  with_reducible refine (C.out _).mono ?_
  rintro e w3 ⟨rfl, rfl⟩
  go_wp2_with fail
  with_reducible refine C1.out.mono ?_
  rintro e w4 ⟨rfl, hw4⟩
  go_wp2_with fail
  with_reducible refine (C2.out _ hw4).mono ?_
  rintro e w5 ⟨rfl, hw5⟩
  have hb0 := chain (chain hb0 hw4) hw5
  have r3 := Res.keep r3 hw4; have r4 := Res.keep r4 hw4
  have r3 := Res.keep r3 hw5; have r4 := Res.keep r4 hw5
  have z3 := r3.cells; have m3 := r3.marks; have z4 := r4.cells; have m4 := r4.marks
  go_wp2
  refine bodyPost_ret (v := .tuple #[U ((l + h * B256) / c), U ((l + h * B256) % c), .int .i64 0]) (by simp [results, Try.results14, go_sem, z3, z4]) rfl ⟨rfl, ?_⟩
  go_grown

theorem rdiv512_any (l h c : Nat) (hl : l < B256) (hh : h < B256) (hc : c < B256) (w : World) :
    Calls Try.prog 14 #[U l, U h, U c] w fun e w' => e = .returned (.tuple #[U (quoR c ((l + h * B256) / c)), U (remR c ((l + h * B256) / c) ((l + h * B256) % c)), .int .i64 (quoE c ((l + h * B256) / c))]) ∧ Below w.heap.size w w' := by
  by_cases h0 : c = 0
  · subst h0
    rw [quoR, quoE, remR, if_pos rfl, if_pos rfl, if_pos rfl, U_zero]
    exact div512_zero l h w
  · rw [quoR, quoE, remR, if_neg h0, if_neg h0, if_neg h0]
    by_cases h1 : (l + h * B256) / c < B256
    · rw [chkR, chkE, if_pos h1, if_pos h1, if_pos h1]
      exact div512_ok l h c hl hh hc w h0 h1
    · rw [chkR, chkE, if_neg h1, if_neg h1, if_neg h1, U_zero]
      exact div512_over l h c hl hh hc w h0 h1

end Go.Proofs.Ytahkgkcbcadnoaa
