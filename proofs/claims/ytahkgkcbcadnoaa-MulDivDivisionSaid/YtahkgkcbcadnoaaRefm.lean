/- Contract of the reference's 512-bit Mul over this translation: both halves of the product; memory that was there is as it was. -/
import Derived.Test.YtahkgkcbcadnoaaRefl
import Derived.Test.YtahkgkcbcadnoaaReff
import Derived.Test.YtahkgkcbcadnoaaRefj
namespace Go.Proofs.Ytahkgkcbcadnoaa
open Go.RowKit

set_option maxHeartbeats 4000000 in
theorem mul512_big (a b : Nat) (ha : a < B256) (hb : b < B256) (w : World) (h : ¬ a * b < B256) :
    Calls Try.prog 11 #[U a, U b] w fun e w' => e = .returned (.tuple #[U (a * b % B256), U (a * b / B256)]) ∧ Below w.heap.size w w' := by
  have r2 : Res (w.heap.size + 1 + 1) 24 (#[.int .u64 0, .int .u64 0, .int .u64 0, .int .u64 0]) (((((w.alloc (.cells (arr a) 24)).alloc (.cells (arr b) 24)).alloc (.cells #[.int .u64 0, .int .u64 0, .int .u64 0, .int .u64 0] 24)).alloc (.cells #[.int .u64 0, .int .u64 0, .int .u64 0, .int .u64 0] 24)).drew) := by
    have h := (Res.new ((w.alloc (.cells (arr a) 24)).alloc (.cells (arr b) 24)) 24 #[.int .u64 0, .int .u64 0, .int .u64 0, .int .u64 0]).alloc (.cells #[.int .u64 0, .int .u64 0, .int .u64 0, .int .u64 0] 24)
    rw [World.size_alloc, World.size_alloc] at h
    exact h
  have r3 : Res (w.heap.size + 1 + 1 + 1) 24 (#[.int .u64 0, .int .u64 0, .int .u64 0, .int .u64 0]) (((((w.alloc (.cells (arr a) 24)).alloc (.cells (arr b) 24)).alloc (.cells #[.int .u64 0, .int .u64 0, .int .u64 0, .int .u64 0] 24)).alloc (.cells #[.int .u64 0, .int .u64 0, .int .u64 0, .int .u64 0] 24)).drew) := by
    have h := (Res.new (((w.alloc (.cells (arr a) 24)).alloc (.cells (arr b) 24)).alloc (.cells #[.int .u64 0, .int .u64 0, .int .u64 0, .int .u64 0] 24)) 24 #[.int .u64 0, .int .u64 0, .int .u64 0, .int .u64 0])
    rw [World.size_alloc, World.size_alloc, World.size_alloc] at h
    exact h
  have hb0 : Below w.heap.size w (((((w.alloc (.cells (arr a) 24)).alloc (.cells (arr b) 24)).alloc (.cells #[.int .u64 0, .int .u64 0, .int .u64 0, .int .u64 0] 24)).alloc (.cells #[.int .u64 0, .int .u64 0, .int .u64 0, .int .u64 0] 24)).drew) := Below.drew (by go_grown)
  have hlen : decide ((nd (a * b) : Int) ≤ 16) = false := by
    have : ¬ nd (a * b) ≤ 16 := fun h' => h (nd_16.1 h')
    simp; omega
  go_enter Try.func11, Try.ntmps11
  go_wp2
  go_region_held3 (fun w' => w'.cell? ⟨w.heap.size, 0, none⟩ = some (.int .u64 (limb a 0)) ∧ w'.cell? ⟨w.heap.size, 1, none⟩ = some (.int .u64 (limb a 1)) ∧ w'.cell? ⟨w.heap.size, 2, none⟩ = some (.int .u64 (limb a 2)) ∧ w'.cell? ⟨w.heap.size, 3, none⟩ = some (.int .u64 (limb a 3)) ∧ w'.cell? ⟨w.heap.size + 1, 0, none⟩ = some (.int .u64 (limb b 0)) ∧ w'.cell? ⟨w.heap.size + 1, 1, none⟩ = some (.int .u64 (limb b 1)) ∧ w'.cell? ⟨w.heap.size + 1, 2, none⟩ = some (.int .u64 (limb b 2)) ∧ w'.cell? ⟨w.heap.size + 1, 3, none⟩ = some (.int .u64 (limb b 3)))
    (first | (go_keep; done) | (go_split_ands; refine ⟨?_, ?_, ?_, ?_, ?_, ?_, ?_, ?_⟩ <;> (rw [hw.cell (World.block_lt_of_cell? _ _ (by assumption))]; assumption)))
    (first | (go_at_call 28; refine (from_any _ (by assumption) _).mono ?_; rintro e w2 ⟨v, rfl, hbig, hw⟩; have hb0 := chain hb0 hw; have r2 := Res.keep r2 hw; have r3 := Res.keep r3 hw) | (go_at_call 27; refine (rmul_any _ _ a b _ (Big.below (by assumption) hw) hbig (Nat.le_trans (nd_16.2 ha) (by omega)) (Nat.le_trans (nd_16.2 hb) (by omega))).mono ?_; rintro e w2 ⟨v, rfl, hbig, hw⟩; have hb0 := chain hb0 hw; have r2 := Res.keep r2 hw; have r3 := Res.keep r3 hw))
  obtain ⟨A, cap, rfl, h1, h2, h3, h4⟩ := hbig
  have hl16 : 16 < nd (a * b) := by
    have : ¬ nd (a * b) ≤ 16 := fun h' => h (nd_16.1 h')
    omega
  obtain ⟨g, rfl, hg, hcs⟩ := h4 (by omega)
  have HC := Lib.hid hcs
  have R2 := Lib.hid r2
  have R3 := Lib.hid r3
  clear h4 hcs
  have hw := (Below.refl w2.heap.size w2).drew
  have i1 : (16 : Int) ≤ (nd (a * b) : Int) := by omega
  have i2 : (16 : Int) ≤ (cap : Int) := by omega
  have ic : ¬ cap = 16 := by omega
  have i3 : nd (a * b) ≤ 32 := nd_32 a b ha hb
  have e1 : a * b % B256 = a * b / 65536 ^ 0 % 65536 ^ 16 := by rw [Nat.pow_zero, Nat.div_one]; rfl
  have e2 : a * b / B256 = a * b / 65536 ^ 16 % 65536 ^ (nd (a * b) - 16) := by
    rw [Nat.mod_eq_of_lt (Nat.div_lt_of_lt_mul (by rw [← Nat.pow_add, show 16 + (nd (a * b) - 16) = nd (a * b) from by omega]; exact h3))]; rfl
  clear h3 h1 h2 hlen
  generalize nd (a * b) = L at *
  have hb0 := hb0.drew
  have r2 := r2.drew
  have r3 := r3.drew
  have C1 := Lib.hid (to_part g 0 16 cap (a * b) (a * b % B256) w2.drew (by omega) hg e1 (fun i hi => by rw [Nat.zero_add]; exact HC.out i (by omega)))
  have C2 := Lib.hid (fun (w3 : World) (hw : Below w2.drew.heap.size w2.drew w3) => to_part g 16 (L - 16) (cap - 16) (a * b) (a * b / B256) w3 (by omega) (Nat.lt_of_lt_of_le hg hw.size) e2 (fun i hi => (hw.cell (p := ⟨g, 16 + i, none⟩) hg).trans (HC.out (16 + i) (by omega))))
  clear e1 e2
  go_wp2
  go_region_held3 (fun w' => True)
    (trivial)
    (first | (go_at_call 29; with_reducible refine C1.out.mono ?_; rintro e w3 ⟨rfl, hw⟩; have hb0 := chain hb0 hw; have r2 := Res.keep r2 hw; have r3 := Res.keep r3 hw) | (go_at_call 29; with_reducible refine (C2.out _ hw).mono ?_; rintro e w4 ⟨rfl, hw⟩; have hb0 := chain hb0 hw; have r2 := Res.keep r2 hw; have r3 := Res.keep r3 hw; have z2 := r2.cells; have m2 := r2.marks; have z3 := r3.cells; have m3 := r3.marks))
  go_wp2
  refine bodyPost_ret (v := .tuple #[U (a * b % B256), U (a * b / B256)]) (by simp [results, Try.results11, go_sem, z2, z3]) rfl ⟨rfl, ?_⟩
  go_grown

set_option maxHeartbeats 4000000 in
theorem mul512_small (a b : Nat) (ha : a < B256) (hb : b < B256) (w : World) (h : a * b < B256) :
    Calls Try.prog 11 #[U a, U b] w fun e w' => e = .returned (.tuple #[U (a * b), .agg #[.int .u64 0, .int .u64 0, .int .u64 0, .int .u64 0]]) ∧ Below w.heap.size w w' := by
  have r2 : Res (w.heap.size + 1 + 1) 24 (#[.int .u64 0, .int .u64 0, .int .u64 0, .int .u64 0]) (((((w.alloc (.cells (arr a) 24)).alloc (.cells (arr b) 24)).alloc (.cells #[.int .u64 0, .int .u64 0, .int .u64 0, .int .u64 0] 24)).alloc (.cells #[.int .u64 0, .int .u64 0, .int .u64 0, .int .u64 0] 24)).drew) := by
    have h := (Res.new ((w.alloc (.cells (arr a) 24)).alloc (.cells (arr b) 24)) 24 #[.int .u64 0, .int .u64 0, .int .u64 0, .int .u64 0]).alloc (.cells #[.int .u64 0, .int .u64 0, .int .u64 0, .int .u64 0] 24)
    rw [World.size_alloc, World.size_alloc] at h
    exact h
  have r3 : Res (w.heap.size + 1 + 1 + 1) 24 (#[.int .u64 0, .int .u64 0, .int .u64 0, .int .u64 0]) (((((w.alloc (.cells (arr a) 24)).alloc (.cells (arr b) 24)).alloc (.cells #[.int .u64 0, .int .u64 0, .int .u64 0, .int .u64 0] 24)).alloc (.cells #[.int .u64 0, .int .u64 0, .int .u64 0, .int .u64 0] 24)).drew) := by
    have h := (Res.new (((w.alloc (.cells (arr a) 24)).alloc (.cells (arr b) 24)).alloc (.cells #[.int .u64 0, .int .u64 0, .int .u64 0, .int .u64 0] 24)) 24 #[.int .u64 0, .int .u64 0, .int .u64 0, .int .u64 0])
    rw [World.size_alloc, World.size_alloc, World.size_alloc] at h
    exact h
  have hb0 : Below w.heap.size w (((((w.alloc (.cells (arr a) 24)).alloc (.cells (arr b) 24)).alloc (.cells #[.int .u64 0, .int .u64 0, .int .u64 0, .int .u64 0] 24)).alloc (.cells #[.int .u64 0, .int .u64 0, .int .u64 0, .int .u64 0] 24)).drew) := Below.drew (by go_grown)
  have hlen : decide ((nd (a * b) : Int) ≤ 16) = true := by
    have := nd_16.2 h
    simp; omega
  go_enter Try.func11, Try.ntmps11
  go_wp2
  go_region_held3 (fun w' => w'.cell? ⟨w.heap.size, 0, none⟩ = some (.int .u64 (limb a 0)) ∧ w'.cell? ⟨w.heap.size, 1, none⟩ = some (.int .u64 (limb a 1)) ∧ w'.cell? ⟨w.heap.size, 2, none⟩ = some (.int .u64 (limb a 2)) ∧ w'.cell? ⟨w.heap.size, 3, none⟩ = some (.int .u64 (limb a 3)) ∧ w'.cell? ⟨w.heap.size + 1, 0, none⟩ = some (.int .u64 (limb b 0)) ∧ w'.cell? ⟨w.heap.size + 1, 1, none⟩ = some (.int .u64 (limb b 1)) ∧ w'.cell? ⟨w.heap.size + 1, 2, none⟩ = some (.int .u64 (limb b 2)) ∧ w'.cell? ⟨w.heap.size + 1, 3, none⟩ = some (.int .u64 (limb b 3)))
    (first | (go_keep; done) | (go_split_ands; refine ⟨?_, ?_, ?_, ?_, ?_, ?_, ?_, ?_⟩ <;> (rw [hw.cell (World.block_lt_of_cell? _ _ (by assumption))]; assumption)))
    (first | (go_at_call 28; refine (from_any _ (by assumption) _).mono ?_; rintro e w2 ⟨v, rfl, hbig, hw⟩; have hb0 := chain hb0 hw; have r2 := Res.keep r2 hw; have r3 := Res.keep r3 hw) | (go_at_call 27; refine (rmul_any _ _ a b _ (Big.below (by assumption) hw) hbig (Nat.le_trans (nd_16.2 ha) (by omega)) (Nat.le_trans (nd_16.2 hb) (by omega))).mono ?_; rintro e w2 ⟨v, rfl, hbig, hw⟩; have hb0 := chain hb0 hw; have r2 := Res.keep r2 hw; have r3 := Res.keep r3 hw))
  have hbp := hbig
  obtain ⟨A, cap, rfl, h1, h2, h3, h4⟩ := hbig
  have C1 := Lib.hid (to_any _ (a * b) w2 hbp h)
  clear h4 h3 hbp
  go_wp2_with fail
  with_reducible refine C1.out.mono ?_
  rintro e w3 ⟨rfl, hw⟩
  have hb0 := chain hb0 hw; have r2 := Res.keep r2 hw; have r3 := Res.keep r3 hw; have z2 := r2.cells; have m2 := r2.marks; have z3 := r3.cells; have m3 := r3.marks
  go_wp2
  refine bodyPost_ret (v := .tuple #[U (a * b), .agg #[.int .u64 0, .int .u64 0, .int .u64 0, .int .u64 0]]) (by simp [results, Try.results11, go_sem, z2, z3]) rfl ⟨rfl, ?_⟩
  go_grown

theorem rmul512_any (a b : Nat) (ha : a < B256) (hb : b < B256) (w : World) :
    Calls Try.prog 11 #[U a, U b] w fun e w' => e = .returned (.tuple #[U (a * b % B256), U (a * b / B256)]) ∧ Below w.heap.size w w' := by
  by_cases h : a * b < B256
  · rw [Nat.mod_eq_of_lt h, Nat.div_eq_of_lt h, U_zero]
    exact mul512_small a b ha hb w h
  · exact mul512_big a b ha hb w h
end Go.Proofs.Ytahkgkcbcadnoaa
