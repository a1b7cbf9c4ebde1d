/- Contract of the reference's MulDivCeil over this translation: the quotient, or zero and the error; memory that was there is as it was. -/
import Derived.Test.YtahkgkcbcadnoaaRefl
import Derived.Test.YtahkgkcbcadnoaaReff
import Derived.Test.YtahkgkcbcadnoaaRefk
namespace Go.Proofs.Ytahkgkcbcadnoaa
open Go.RowKit

set_option maxHeartbeats 4000000 in
theorem ceil_zero (a b : Nat) (w : World) :
    Calls Try.prog 19 #[U a, U b, U 0] w fun e w' => e = .returned (.tuple #[.agg #[.int .u64 0, .int .u64 0, .int .u64 0, .int .u64 0], .int .i64 5]) ∧ Below w.heap.size w w' := by
  have r0 : Res (w.heap.size) 24 (arr a) ((((w.alloc (.cells (arr a) 24)).alloc (.cells (arr b) 24)).alloc (.cells (arr 0) 24)).alloc (.cells #[.int .u64 0, .int .u64 0, .int .u64 0, .int .u64 0] 24)) := by
    have h := (((Res.new w 24 (arr a)).alloc (.cells (arr b) 24)).alloc (.cells (arr 0) 24)).alloc (.cells #[.int .u64 0, .int .u64 0, .int .u64 0, .int .u64 0] 24)
    exact h
  have r1 : Res (w.heap.size + 1) 24 (arr b) ((((w.alloc (.cells (arr a) 24)).alloc (.cells (arr b) 24)).alloc (.cells (arr 0) 24)).alloc (.cells #[.int .u64 0, .int .u64 0, .int .u64 0, .int .u64 0] 24)) := by
    have h := ((Res.new (w.alloc (.cells (arr a) 24)) 24 (arr b)).alloc (.cells (arr 0) 24)).alloc (.cells #[.int .u64 0, .int .u64 0, .int .u64 0, .int .u64 0] 24)
    rw [World.size_alloc] at h
    exact h
  have r2 : Res (w.heap.size + 1 + 1) 24 (arr 0) ((((w.alloc (.cells (arr a) 24)).alloc (.cells (arr b) 24)).alloc (.cells (arr 0) 24)).alloc (.cells #[.int .u64 0, .int .u64 0, .int .u64 0, .int .u64 0] 24)) := by
    have h := (Res.new ((w.alloc (.cells (arr a) 24)).alloc (.cells (arr b) 24)) 24 (arr 0)).alloc (.cells #[.int .u64 0, .int .u64 0, .int .u64 0, .int .u64 0] 24)
    rw [World.size_alloc, World.size_alloc] at h
    exact h
  have r3 : Res (w.heap.size + 1 + 1 + 1) 24 #[.int .u64 0, .int .u64 0, .int .u64 0, .int .u64 0] ((((w.alloc (.cells (arr a) 24)).alloc (.cells (arr b) 24)).alloc (.cells (arr 0) 24)).alloc (.cells #[.int .u64 0, .int .u64 0, .int .u64 0, .int .u64 0] 24)) := by
    have h := Res.new (((w.alloc (.cells (arr a) 24)).alloc (.cells (arr b) 24)).alloc (.cells (arr 0) 24)) 24 #[.int .u64 0, .int .u64 0, .int .u64 0, .int .u64 0]
    rw [World.size_alloc, World.size_alloc, World.size_alloc] at h
    exact h
  have b0 : Below w.heap.size w ((((w.alloc (.cells (arr a) 24)).alloc (.cells (arr b) 24)).alloc (.cells (arr 0) 24)).alloc (.cells #[.int .u64 0, .int .u64 0, .int .u64 0, .int .u64 0] 24)) := by go_grown
  have Z := Lib.hid (fun w => rzero_any 0 (by decide) w)
  go_enter Try.func19, Try.ntmps19
  go_wp2_with fail
  with_reducible refine (Z.out _).mono ?_
  rintro e w1 ⟨rfl, hw⟩
  have hb0 := chain b0 hw
  have r3 := Res.keep r3 hw
  have z3 := r3.cells; have m3 := r3.marks
  go_wp2
  refine bodyPost_ret (v := .tuple #[.agg #[.int .u64 0, .int .u64 0, .int .u64 0, .int .u64 0], .int .i64 5]) (by simp [results, Try.results19, go_sem, z3]) rfl ⟨rfl, ?_⟩
  go_grown

set_option maxHeartbeats 4000000 in
theorem ceil_even (a b c : Nat) (ha : a < B256) (hb : b < B256) (hc : c < B256) (w : World) (h0 : c ≠ 0) (h1 : (a * b) % c = 0) :
    Calls Try.prog 19 #[U a, U b, U c] w fun e w' => e = .returned (.tuple #[U (chkR ((a * b) / c)), .int .i64 (chkE ((a * b) / c))]) ∧ Below w.heap.size w w' := by
  have r0 : Res (w.heap.size) 24 (arr a) ((((w.alloc (.cells (arr a) 24)).alloc (.cells (arr b) 24)).alloc (.cells (arr c) 24)).alloc (.cells #[.int .u64 0, .int .u64 0, .int .u64 0, .int .u64 0] 24)) := by
    have h := (((Res.new w 24 (arr a)).alloc (.cells (arr b) 24)).alloc (.cells (arr c) 24)).alloc (.cells #[.int .u64 0, .int .u64 0, .int .u64 0, .int .u64 0] 24)
    exact h
  have r1 : Res (w.heap.size + 1) 24 (arr b) ((((w.alloc (.cells (arr a) 24)).alloc (.cells (arr b) 24)).alloc (.cells (arr c) 24)).alloc (.cells #[.int .u64 0, .int .u64 0, .int .u64 0, .int .u64 0] 24)) := by
    have h := ((Res.new (w.alloc (.cells (arr a) 24)) 24 (arr b)).alloc (.cells (arr c) 24)).alloc (.cells #[.int .u64 0, .int .u64 0, .int .u64 0, .int .u64 0] 24)
    rw [World.size_alloc] at h
    exact h
  have r2 : Res (w.heap.size + 1 + 1) 24 (arr c) ((((w.alloc (.cells (arr a) 24)).alloc (.cells (arr b) 24)).alloc (.cells (arr c) 24)).alloc (.cells #[.int .u64 0, .int .u64 0, .int .u64 0, .int .u64 0] 24)) := by
    have h := (Res.new ((w.alloc (.cells (arr a) 24)).alloc (.cells (arr b) 24)) 24 (arr c)).alloc (.cells #[.int .u64 0, .int .u64 0, .int .u64 0, .int .u64 0] 24)
    rw [World.size_alloc, World.size_alloc] at h
    exact h
  have r3 : Res (w.heap.size + 1 + 1 + 1) 24 #[.int .u64 0, .int .u64 0, .int .u64 0, .int .u64 0] ((((w.alloc (.cells (arr a) 24)).alloc (.cells (arr b) 24)).alloc (.cells (arr c) 24)).alloc (.cells #[.int .u64 0, .int .u64 0, .int .u64 0, .int .u64 0] 24)) := by
    have h := Res.new (((w.alloc (.cells (arr a) 24)).alloc (.cells (arr b) 24)).alloc (.cells (arr c) 24)) 24 #[.int .u64 0, .int .u64 0, .int .u64 0, .int .u64 0]
    rw [World.size_alloc, World.size_alloc, World.size_alloc] at h
    exact h
  have b0 : Below w.heap.size w ((((w.alloc (.cells (arr a) 24)).alloc (.cells (arr b) 24)).alloc (.cells (arr c) 24)).alloc (.cells #[.int .u64 0, .int .u64 0, .int .u64 0, .int .u64 0] 24)) := by go_grown
  have Z := Lib.hid (fun w => rzero_any c hc w)
  rw [decide_eq_false h0] at Z
  go_enter Try.func19, Try.ntmps19
  go_wp2_with fail
  with_reducible refine (Z.out _).mono ?_
  rintro e w1 ⟨rfl, hw⟩
  have hb0 := chain b0 hw
  have r0 := Res.keep r0 hw; have r1 := Res.keep r1 hw; have r2 := Res.keep r2 hw; have r3 := Res.keep r3 hw
  have z0 := r0.cells; have z1 := r1.cells; have z2 := r2.cells
  have hb0 := hb0.drew
  have hw := (Below.refl w1.heap.size w1).drew
  have r3 := r3.drew
  go_wp2
  go_region_held3 (fun w' => w'.cell? ⟨w.heap.size, 0, none⟩ = some (.int .u64 (limb a 0)) ∧ w'.cell? ⟨w.heap.size, 1, none⟩ = some (.int .u64 (limb a 1)) ∧ w'.cell? ⟨w.heap.size, 2, none⟩ = some (.int .u64 (limb a 2)) ∧ w'.cell? ⟨w.heap.size, 3, none⟩ = some (.int .u64 (limb a 3)) ∧ w'.cell? ⟨w.heap.size + 1, 0, none⟩ = some (.int .u64 (limb b 0)) ∧ w'.cell? ⟨w.heap.size + 1, 1, none⟩ = some (.int .u64 (limb b 1)) ∧ w'.cell? ⟨w.heap.size + 1, 2, none⟩ = some (.int .u64 (limb b 2)) ∧ w'.cell? ⟨w.heap.size + 1, 3, none⟩ = some (.int .u64 (limb b 3)) ∧ w'.cell? ⟨w.heap.size + 1 + 1, 0, none⟩ = some (.int .u64 (limb c 0)) ∧ w'.cell? ⟨w.heap.size + 1 + 1, 1, none⟩ = some (.int .u64 (limb c 1)) ∧ w'.cell? ⟨w.heap.size + 1 + 1, 2, none⟩ = some (.int .u64 (limb c 2)) ∧ w'.cell? ⟨w.heap.size + 1 + 1, 3, none⟩ = some (.int .u64 (limb c 3)))
    (first | (go_keep; done) | (go_split_ands; refine ⟨?_, ?_, ?_, ?_, ?_, ?_, ?_, ?_, ?_, ?_, ?_, ?_⟩ <;> (rw [hw.cell (World.block_lt_of_cell? _ _ (by assumption))]; assumption)))
    (first | (go_at_call 28; refine (from_any _ (by assumption) _).mono ?_; rintro e w2 ⟨v, rfl, hbig, hw⟩; have hb0 := chain hb0 hw; have r3 := Res.keep r3 hw) | (go_at_call 27; refine (rmul_any _ _ a b _ (Big.below (by assumption) hw) hbig (Nat.le_trans (nd_16.2 ha) (by omega)) (Nat.le_trans (nd_16.2 hb) (by omega))).mono ?_; rintro e w2 ⟨v, rfl, hbig, hw⟩; have hb0 := chain hb0 hw; have r3 := Res.keep r3 hw) | (go_at_call 32; refine (div_any _ _ (a * b) c _ (Big.below (by assumption) hw) hbig (Nat.le_trans (nd_32 a b ha hb) (by omega)) (Nat.le_trans (nd_16.2 hc) (by omega)) (Nat.pos_of_ne_zero h0)).mono ?_; rintro e w2 ⟨x, y, rfl, hx, hy, hw⟩; have hb0 := chain hb0 hw; have r3 := Res.keep r3 hw))
  have C := Lib.hid hx
  obtain ⟨Y, cy, rfl, a1, a2, a3, a4⟩ := hy
  have e0 : nd ((a * b) % c) = 0 := by rw [h1, nd_zero]
  rw [e0]
  have C := Lib.hid (checked_any _ _ _ hx)
  clear a1 a2 a3 a4 hx
  go_wp2_with fail
  with_reducible refine C.out.mono ?_
  rintro e w9 ⟨rfl, hw9⟩
  have hb0 := chain hb0 hw9
  have r3 := Res.keep r3 hw9
  have z3 := r3.cells; have m3 := r3.marks
  go_wp2
  refine bodyPost_ret (v := .tuple #[U (chkR ((a * b) / c)), .int .i64 (chkE ((a * b) / c))]) (by simp [results, Try.results19, go_sem, z3]) rfl ⟨rfl, ?_⟩
  go_grown

set_option maxHeartbeats 4000000 in
theorem ceil_odd (a b c : Nat) (ha : a < B256) (hb : b < B256) (hc : c < B256) (w : World) (h0 : c ≠ 0) (h1 : (a * b) % c ≠ 0) :
    Calls Try.prog 19 #[U a, U b, U c] w fun e w' => e = .returned (.tuple #[U (chkR ((a * b) / c + 1)), .int .i64 (chkE ((a * b) / c + 1))]) ∧ Below w.heap.size w w' := by
  have r0 : Res (w.heap.size) 24 (arr a) ((((w.alloc (.cells (arr a) 24)).alloc (.cells (arr b) 24)).alloc (.cells (arr c) 24)).alloc (.cells #[.int .u64 0, .int .u64 0, .int .u64 0, .int .u64 0] 24)) := by
    have h := (((Res.new w 24 (arr a)).alloc (.cells (arr b) 24)).alloc (.cells (arr c) 24)).alloc (.cells #[.int .u64 0, .int .u64 0, .int .u64 0, .int .u64 0] 24)
    exact h
  have r1 : Res (w.heap.size + 1) 24 (arr b) ((((w.alloc (.cells (arr a) 24)).alloc (.cells (arr b) 24)).alloc (.cells (arr c) 24)).alloc (.cells #[.int .u64 0, .int .u64 0, .int .u64 0, .int .u64 0] 24)) := by
    have h := ((Res.new (w.alloc (.cells (arr a) 24)) 24 (arr b)).alloc (.cells (arr c) 24)).alloc (.cells #[.int .u64 0, .int .u64 0, .int .u64 0, .int .u64 0] 24)
    rw [World.size_alloc] at h
    exact h
  have r2 : Res (w.heap.size + 1 + 1) 24 (arr c) ((((w.alloc (.cells (arr a) 24)).alloc (.cells (arr b) 24)).alloc (.cells (arr c) 24)).alloc (.cells #[.int .u64 0, .int .u64 0, .int .u64 0, .int .u64 0] 24)) := by
    have h := (Res.new ((w.alloc (.cells (arr a) 24)).alloc (.cells (arr b) 24)) 24 (arr c)).alloc (.cells #[.int .u64 0, .int .u64 0, .int .u64 0, .int .u64 0] 24)
    rw [World.size_alloc, World.size_alloc] at h
    exact h
  have r3 : Res (w.heap.size + 1 + 1 + 1) 24 #[.int .u64 0, .int .u64 0, .int .u64 0, .int .u64 0] ((((w.alloc (.cells (arr a) 24)).alloc (.cells (arr b) 24)).alloc (.cells (arr c) 24)).alloc (.cells #[.int .u64 0, .int .u64 0, .int .u64 0, .int .u64 0] 24)) := by
    have h := Res.new (((w.alloc (.cells (arr a) 24)).alloc (.cells (arr b) 24)).alloc (.cells (arr c) 24)) 24 #[.int .u64 0, .int .u64 0, .int .u64 0, .int .u64 0]
    rw [World.size_alloc, World.size_alloc, World.size_alloc] at h
    exact h
  have b0 : Below w.heap.size w ((((w.alloc (.cells (arr a) 24)).alloc (.cells (arr b) 24)).alloc (.cells (arr c) 24)).alloc (.cells #[.int .u64 0, .int .u64 0, .int .u64 0, .int .u64 0] 24)) := by go_grown
  have Z := Lib.hid (fun w => rzero_any c hc w)
  rw [decide_eq_false h0] at Z
  go_enter Try.func19, Try.ntmps19
  go_wp2_with fail
  with_reducible refine (Z.out _).mono ?_
  rintro e w1 ⟨rfl, hw⟩
  have hb0 := chain b0 hw
  have r0 := Res.keep r0 hw; have r1 := Res.keep r1 hw; have r2 := Res.keep r2 hw; have r3 := Res.keep r3 hw
  have z0 := r0.cells; have z1 := r1.cells; have z2 := r2.cells
  have hb0 := hb0.drew
  have hw := (Below.refl w1.heap.size w1).drew
  have r3 := r3.drew
  go_wp2
  go_region_held3 (fun w' => w'.cell? ⟨w.heap.size, 0, none⟩ = some (.int .u64 (limb a 0)) ∧ w'.cell? ⟨w.heap.size, 1, none⟩ = some (.int .u64 (limb a 1)) ∧ w'.cell? ⟨w.heap.size, 2, none⟩ = some (.int .u64 (limb a 2)) ∧ w'.cell? ⟨w.heap.size, 3, none⟩ = some (.int .u64 (limb a 3)) ∧ w'.cell? ⟨w.heap.size + 1, 0, none⟩ = some (.int .u64 (limb b 0)) ∧ w'.cell? ⟨w.heap.size + 1, 1, none⟩ = some (.int .u64 (limb b 1)) ∧ w'.cell? ⟨w.heap.size + 1, 2, none⟩ = some (.int .u64 (limb b 2)) ∧ w'.cell? ⟨w.heap.size + 1, 3, none⟩ = some (.int .u64 (limb b 3)) ∧ w'.cell? ⟨w.heap.size + 1 + 1, 0, none⟩ = some (.int .u64 (limb c 0)) ∧ w'.cell? ⟨w.heap.size + 1 + 1, 1, none⟩ = some (.int .u64 (limb c 1)) ∧ w'.cell? ⟨w.heap.size + 1 + 1, 2, none⟩ = some (.int .u64 (limb c 2)) ∧ w'.cell? ⟨w.heap.size + 1 + 1, 3, none⟩ = some (.int .u64 (limb c 3)))
    (first | (go_keep; done) | (go_split_ands; refine ⟨?_, ?_, ?_, ?_, ?_, ?_, ?_, ?_, ?_, ?_, ?_, ?_⟩ <;> (rw [hw.cell (World.block_lt_of_cell? _ _ (by assumption))]; assumption)))
    (first | (go_at_call 28; refine (from_any _ (by assumption) _).mono ?_; rintro e w2 ⟨v, rfl, hbig, hw⟩; have hb0 := chain hb0 hw; have r3 := Res.keep r3 hw) | (go_at_call 27; refine (rmul_any _ _ a b _ (Big.below (by assumption) hw) hbig (Nat.le_trans (nd_16.2 ha) (by omega)) (Nat.le_trans (nd_16.2 hb) (by omega))).mono ?_; rintro e w2 ⟨v, rfl, hbig, hw⟩; have hb0 := chain hb0 hw; have r3 := Res.keep r3 hw) | (go_at_call 32; refine (div_any _ _ (a * b) c _ (Big.below (by assumption) hw) hbig (Nat.le_trans (nd_32 a b ha hb) (by omega)) (Nat.le_trans (nd_16.2 hc) (by omega)) (Nat.pos_of_ne_zero h0)).mono ?_; rintro e w2 ⟨x, y, rfl, hx, hy, hw⟩; have hb0 := chain hb0 hw; have r3 := Res.keep r3 hw))
  have C := Lib.hid hx
  obtain ⟨Y, cy, rfl, a1, a2, a3, a4⟩ := hy
  have e0 : (0 : Int) < (nd ((a * b) % c) : Int) := by
    have e1 : nd ((a * b) % c) ≠ 0 := fun e => by have := nd_lt ((a * b) % c); rw [e] at this; omega
    omega
  have e2 : nd ((a * b) / c) ≤ 1048576 := Nat.le_trans (nd_mono (Nat.div_le_self _ _)) (Nat.le_trans (nd_32 a b ha hb) (by omega))
  have D1 := Lib.hid (fun (w3 : World) (hw3 : Below w2.heap.size w2 w3) => hx.below hw3)
  clear a1 a2 a3 a4 hx
  go_wp2_with fail
  refine (rfrom64_any 1 (by decide) _).mono ?_
  rintro e w5 ⟨o, rfl, ho, hw5⟩
  go_wp2_with fail
  refine (radd_any _ _ ((a * b) / c) 1 _ (D1.out _ hw5) ho e2 (Nat.le_trans (nd_16.2 (by decide)) (by omega))).mono ?_
  rintro e w6 ⟨s, rfl, hs, hw6⟩
  have hb0 := chain (chain hb0 hw5) hw6
  have r3 := Res.keep r3 hw5
  have r3 := Res.keep r3 hw6
  have C := Lib.hid (checked_any _ _ _ hs)
  go_wp2_with fail
  with_reducible refine C.out.mono ?_
  rintro e w9 ⟨rfl, hw9⟩
  have hb0 := chain hb0 hw9
  have r3 := Res.keep r3 hw9
  have z3 := r3.cells; have m3 := r3.marks
  go_wp2
  refine bodyPost_ret (v := .tuple #[U (chkR ((a * b) / c + 1)), .int .i64 (chkE ((a * b) / c + 1))]) (by simp [results, Try.results19, go_sem, z3]) rfl ⟨rfl, ?_⟩
  go_grown

theorem rceil_any (a b c : Nat) (ha : a < B256) (hb : b < B256) (hc : c < B256) (w : World) :
    Calls Try.prog 19 #[U a, U b, U c] w fun e w' => e = .returned (.tuple #[U (quoR c (cdiv (a * b) c)), .int .i64 (quoE c (cdiv (a * b) c))]) ∧ Below w.heap.size w w' := by
  by_cases h0 : c = 0
  · subst h0
    rw [quoR, quoE, if_pos rfl, if_pos rfl, U_zero]
    exact ceil_zero a b w
  · rw [quoR, quoE, if_neg h0, if_neg h0, cdiv]
    by_cases h1 : a * b % c = 0
    · rw [if_pos h1, Nat.add_zero]; exact ceil_even a b c ha hb hc w h0 h1
    · rw [if_neg h1]; exact ceil_odd a b c ha hb hc w h0 h1

end Go.Proofs.Ytahkgkcbcadnoaa
