/- Contract of the reference's Sub256 over this translation: the difference, or zero and ErrOverflow; memory that was there is as it was. -/
import Derived.Test.YthhbijcddbncdaaRefg
namespace Go.Proofs.Ythhbijcddbncdaa
open Go.RowKit

set_option maxHeartbeats 1000000 in
theorem rsub256_lt (a b : Nat) (ha : a < B256) (hb : b < B256) (w : World) (h : a < b) :
    Calls Try.prog 16 #[U a, U b] w fun e w' => e = .returned (.tuple #[.agg #[.int .u64 0, .int .u64 0, .int .u64 0, .int .u64 0], .int .i64 4]) ∧ Below w.heap.size w w' := by
  have hcmp : cmpI a b = -1 := if_pos h
  have hlt : cmpI a b < 0 := by omega
  clear hcmp
  have hr : Res (w.heap.size + 1 + 1) 24 #[.int .u64 0, .int .u64 0, .int .u64 0, .int .u64 0] (((w.alloc (.cells #[.int .u64 (limb a 0), .int .u64 (limb a 1), .int .u64 (limb a 2), .int .u64 (limb a 3)] 24)).alloc (.cells #[.int .u64 (limb b 0), .int .u64 (limb b 1), .int .u64 (limb b 2), .int .u64 (limb b 3)] 24)).alloc (.cells #[.int .u64 0, .int .u64 0, .int .u64 0, .int .u64 0] 24)) := by
    have h := Res.new ((w.alloc (.cells #[.int .u64 (limb a 0), .int .u64 (limb a 1), .int .u64 (limb a 2), .int .u64 (limb a 3)] 24)).alloc (.cells #[.int .u64 (limb b 0), .int .u64 (limb b 1), .int .u64 (limb b 2), .int .u64 (limb b 3)] 24)) 24 #[.int .u64 0, .int .u64 0, .int .u64 0, .int .u64 0]
    rw [World.size_alloc, World.size_alloc] at h
    exact h
  have hb0 : Below w.heap.size w (((w.alloc (.cells #[.int .u64 (limb a 0), .int .u64 (limb a 1), .int .u64 (limb a 2), .int .u64 (limb a 3)] 24)).alloc (.cells #[.int .u64 (limb b 0), .int .u64 (limb b 1), .int .u64 (limb b 2), .int .u64 (limb b 3)] 24)).alloc (.cells #[.int .u64 0, .int .u64 0, .int .u64 0, .int .u64 0] 24)) := by go_grown
  replace hb0 := hb0.drew
  replace hr := hr.drew
  go_enter Try.func16, Try.ntmps16
  go_wp2
  go_region_held3 (fun w' => w'.cell? ⟨w.heap.size, 0, none⟩ = some (.int .u64 (limb a 0)) ∧ w'.cell? ⟨w.heap.size, 1, none⟩ = some (.int .u64 (limb a 1)) ∧ w'.cell? ⟨w.heap.size, 2, none⟩ = some (.int .u64 (limb a 2)) ∧ w'.cell? ⟨w.heap.size, 3, none⟩ = some (.int .u64 (limb a 3)) ∧ w'.cell? ⟨w.heap.size + 1, 0, none⟩ = some (.int .u64 (limb b 0)) ∧ w'.cell? ⟨w.heap.size + 1, 1, none⟩ = some (.int .u64 (limb b 1)) ∧ w'.cell? ⟨w.heap.size + 1, 2, none⟩ = some (.int .u64 (limb b 2)) ∧ w'.cell? ⟨w.heap.size + 1, 3, none⟩ = some (.int .u64 (limb b 3)))
    (first | (go_keep; done) | (go_split_ands; refine ⟨?_, ?_, ?_, ?_, ?_, ?_, ?_, ?_⟩ <;> (rw [hw.cell (World.block_lt_of_cell? _ _ (by assumption))]; assumption)))
    (first | (go_at_call 21; refine (from_any _ (by assumption) _).mono ?_; rintro e w2 ⟨v, rfl, hbig, hw⟩; have hb0 := chain hb0 hw; have hr := Res.keep hr hw))
  have hbigA := Big.below (by assumption) hw
  go_wp2_with fail
  refine (rcmp_any _ _ a b _ hbigA hbig).mono ?_
  rintro e w3 ⟨rfl, hw3⟩
  have hb3 := chain hb0 hw3
  have hr3 := Res.keep hr hw3
  have hz := hr3.cells
  have hm := hr3.marks
  go_wp2
  refine bodyPost_ret (v := .tuple #[.agg #[.int .u64 0, .int .u64 0, .int .u64 0, .int .u64 0], .int .i64 4]) (by simp [results, Try.results16, go_sem, hz]) rfl ⟨rfl, ?_⟩
  go_grown

set_option maxHeartbeats 1000000 in
theorem rsub256_ge (a b : Nat) (ha : a < B256) (hb : b < B256) (w : World) (h : b ≤ a) :
    Calls Try.prog 16 #[U a, U b] w fun e w' => e = .returned (.tuple #[U (a - b), .int .i64 0]) ∧ Below w.heap.size w w' := by
  have hlt : ¬ cmpI a b < 0 := by unfold cmpI; rw [if_neg (by omega)]; split <;> omega
  have hr : Res (w.heap.size + 1 + 1) 24 #[.int .u64 0, .int .u64 0, .int .u64 0, .int .u64 0] (((w.alloc (.cells #[.int .u64 (limb a 0), .int .u64 (limb a 1), .int .u64 (limb a 2), .int .u64 (limb a 3)] 24)).alloc (.cells #[.int .u64 (limb b 0), .int .u64 (limb b 1), .int .u64 (limb b 2), .int .u64 (limb b 3)] 24)).alloc (.cells #[.int .u64 0, .int .u64 0, .int .u64 0, .int .u64 0] 24)) := by
    have h := Res.new ((w.alloc (.cells #[.int .u64 (limb a 0), .int .u64 (limb a 1), .int .u64 (limb a 2), .int .u64 (limb a 3)] 24)).alloc (.cells #[.int .u64 (limb b 0), .int .u64 (limb b 1), .int .u64 (limb b 2), .int .u64 (limb b 3)] 24)) 24 #[.int .u64 0, .int .u64 0, .int .u64 0, .int .u64 0]
    rw [World.size_alloc, World.size_alloc] at h
    exact h
  have hb0 : Below w.heap.size w (((w.alloc (.cells #[.int .u64 (limb a 0), .int .u64 (limb a 1), .int .u64 (limb a 2), .int .u64 (limb a 3)] 24)).alloc (.cells #[.int .u64 (limb b 0), .int .u64 (limb b 1), .int .u64 (limb b 2), .int .u64 (limb b 3)] 24)).alloc (.cells #[.int .u64 0, .int .u64 0, .int .u64 0, .int .u64 0] 24)) := by go_grown
  replace hb0 := hb0.drew
  replace hr := hr.drew
  go_enter Try.func16, Try.ntmps16
  go_wp2
  go_region_held3 (fun w' => w'.cell? ⟨w.heap.size, 0, none⟩ = some (.int .u64 (limb a 0)) ∧ w'.cell? ⟨w.heap.size, 1, none⟩ = some (.int .u64 (limb a 1)) ∧ w'.cell? ⟨w.heap.size, 2, none⟩ = some (.int .u64 (limb a 2)) ∧ w'.cell? ⟨w.heap.size, 3, none⟩ = some (.int .u64 (limb a 3)) ∧ w'.cell? ⟨w.heap.size + 1, 0, none⟩ = some (.int .u64 (limb b 0)) ∧ w'.cell? ⟨w.heap.size + 1, 1, none⟩ = some (.int .u64 (limb b 1)) ∧ w'.cell? ⟨w.heap.size + 1, 2, none⟩ = some (.int .u64 (limb b 2)) ∧ w'.cell? ⟨w.heap.size + 1, 3, none⟩ = some (.int .u64 (limb b 3)))
    (first | (go_keep; done) | (go_split_ands; refine ⟨?_, ?_, ?_, ?_, ?_, ?_, ?_, ?_⟩ <;> (rw [hw.cell (World.block_lt_of_cell? _ _ (by assumption))]; assumption)))
    (first | (go_at_call 21; refine (from_any _ (by assumption) _).mono ?_; rintro e w2 ⟨v, rfl, hbig, hw⟩; have hb0 := chain hb0 hw; have hr := Res.keep hr hw))
  have hbigA := Big.below (by assumption) hw
  go_wp2_with fail
  refine (rcmp_any _ _ a b _ hbigA hbig).mono ?_
  rintro e w3 ⟨rfl, hw3⟩
  have hb3 := chain hb0 hw3
  have hr3 := Res.keep hr hw3
  have hA3 := hbigA.below hw3
  have hB3 := hbig.below hw3
  go_wp2_with fail
  refine (rsub_any _ _ a b _ hA3 hB3 (Nat.le_trans (nd_16.2 ha) (by omega)) h).mono ?_
  rintro e w4 ⟨r, rfl, hbig4, hw4⟩
  have hb4 := chain hb3 hw4
  have hr4 := Res.keep hr3 hw4
  go_wp2_with fail
  refine (to_any _ (a - b) _ hbig4 (by omega)).mono ?_
  rintro e w5 ⟨rfl, hw5⟩
  have hb5 := chain hb4 hw5
  have hr5 := Res.keep hr4 hw5
  have hz := hr5.cells
  have hm := hr5.marks
  go_wp2
  refine bodyPost_ret (v := .tuple #[U (a - b), .int .i64 0]) (by simp [results, Try.results16, go_sem, hz]) rfl ⟨rfl, ?_⟩
  go_grown

theorem rsub256_any (a b : Nat) (ha : a < B256) (hb : b < B256) (w : World) :
    Calls Try.prog 16 #[U a, U b] w fun e w' => e = .returned (.tuple #[U (subR a b), .int .i64 (subE a b)]) ∧ Below w.heap.size w w' := by
  by_cases h : b ≤ a
  · rw [show subR a b = a - b from if_pos h, show subE a b = 0 from if_pos h]
    exact rsub256_ge a b ha hb w h
  · rw [show subR a b = 0 from if_neg h, show subE a b = 4 from if_neg h, U_zero]
    exact rsub256_lt a b ha hb w (by omega)

end Go.Proofs.Ythhbijcddbncdaa
