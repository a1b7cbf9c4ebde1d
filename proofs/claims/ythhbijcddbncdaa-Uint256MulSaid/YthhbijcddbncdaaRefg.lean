/- Contracts of the reference's Add256, Sub256 and Mul256 over this translation: the sum, the difference and the product, or zero and ErrOverflow; memory that was there is as it was. -/
import Derived.Test.YthhbijcddbncdaaRefb
import Derived.Test.YthhbijcddbncdaaRefc
import Derived.Test.YthhbijcddbncdaaReff
namespace Go.Proofs.Ythhbijcddbncdaa
open Go.RowKit

set_option maxHeartbeats 1000000 in
theorem radd256_any (a b : Nat) (ha : a < B256) (hb : b < B256) (w : World) :
    Calls Try.prog 14 #[U a, U b] w fun e w' => e = .returned (.tuple #[U (chkR (a + b)), .int .i64 (chkE (a + b))]) ∧ Below w.heap.size w w' := by
  have hr : Res (w.heap.size + 1 + 1) 24 #[.int .u64 0, .int .u64 0, .int .u64 0, .int .u64 0] (((w.alloc (.cells #[.int .u64 (limb a 0), .int .u64 (limb a 1), .int .u64 (limb a 2), .int .u64 (limb a 3)] 24)).alloc (.cells #[.int .u64 (limb b 0), .int .u64 (limb b 1), .int .u64 (limb b 2), .int .u64 (limb b 3)] 24)).alloc (.cells #[.int .u64 0, .int .u64 0, .int .u64 0, .int .u64 0] 24)) := by
    have h := Res.new ((w.alloc (.cells #[.int .u64 (limb a 0), .int .u64 (limb a 1), .int .u64 (limb a 2), .int .u64 (limb a 3)] 24)).alloc (.cells #[.int .u64 (limb b 0), .int .u64 (limb b 1), .int .u64 (limb b 2), .int .u64 (limb b 3)] 24)) 24 #[.int .u64 0, .int .u64 0, .int .u64 0, .int .u64 0]
    rw [World.size_alloc, World.size_alloc] at h
    exact h
  have hb0 : Below w.heap.size w (((w.alloc (.cells #[.int .u64 (limb a 0), .int .u64 (limb a 1), .int .u64 (limb a 2), .int .u64 (limb a 3)] 24)).alloc (.cells #[.int .u64 (limb b 0), .int .u64 (limb b 1), .int .u64 (limb b 2), .int .u64 (limb b 3)] 24)).alloc (.cells #[.int .u64 0, .int .u64 0, .int .u64 0, .int .u64 0] 24)) := by go_grown
  replace hb0 := hb0.drew
  replace hr := hr.drew
  go_enter Try.func14, Try.ntmps14
  go_wp2
  go_region_held3 (fun w' => w'.cell? ⟨w.heap.size, 0, none⟩ = some (.int .u64 (limb a 0)) ∧ w'.cell? ⟨w.heap.size, 1, none⟩ = some (.int .u64 (limb a 1)) ∧ w'.cell? ⟨w.heap.size, 2, none⟩ = some (.int .u64 (limb a 2)) ∧ w'.cell? ⟨w.heap.size, 3, none⟩ = some (.int .u64 (limb a 3)) ∧ w'.cell? ⟨w.heap.size + 1, 0, none⟩ = some (.int .u64 (limb b 0)) ∧ w'.cell? ⟨w.heap.size + 1, 1, none⟩ = some (.int .u64 (limb b 1)) ∧ w'.cell? ⟨w.heap.size + 1, 2, none⟩ = some (.int .u64 (limb b 2)) ∧ w'.cell? ⟨w.heap.size + 1, 3, none⟩ = some (.int .u64 (limb b 3)))
    (first | (go_keep; done) | (go_split_ands; with_reducible refine ⟨far4 ?_ ?_, far4 ?_ ?_, far4 ?_ ?_, far4 ?_ ?_, far4 ?_ ?_, far4 ?_ ?_, far4 ?_ ?_, far4 ?_ ?_⟩ <;> first | assumption | (dsimp only; omega)) | (go_split_ands; refine ⟨?_, ?_, ?_, ?_, ?_, ?_, ?_, ?_⟩ <;> (rw [hw.cell (World.block_lt_of_cell? _ _ (by assumption))]; assumption)))
    (first | (go_at_call 21; refine (from_any _ (by assumption) _).mono ?_; rintro e w2 ⟨v, rfl, hbig, hw⟩; have hb0 := chain hb0 hw; have hr := Res.keep hr hw) | (go_at_call 43; refine (radd_any _ _ a b _ (Big.below (by assumption) hw) hbig (Nat.le_trans (nd_16.2 ha) (by omega)) (Nat.le_trans (nd_16.2 hb) (by omega))).mono ?_; rintro e w2 ⟨v, rfl, hbig, hw⟩; have hb0 := chain hb0 hw; have hr := Res.keep hr hw) | (go_at_call 42; refine (checked_any _ _ _ hbig).mono ?_; rintro e w2 ⟨rfl, hw⟩; have hb0 := chain hb0 hw; have hr := Res.keep hr hw; have hz := hr.cells; have hm := hr.marks))
  go_wp2
  refine bodyPost_ret (v := .tuple #[U (chkR (a + b)), .int .i64 (chkE (a + b))]) (by simp [results, Try.results14, go_sem, hz]) rfl ⟨rfl, ?_⟩
  go_grown

set_option maxHeartbeats 1000000 in
theorem rmul256_any (a b : Nat) (ha : a < B256) (hb : b < B256) (w : World) :
    Calls Try.prog 19 #[U a, U b] w fun e w' => e = .returned (.tuple #[U (chkR (a * b)), .int .i64 (chkE (a * b))]) ∧ Below w.heap.size w w' := by
  have hr : Res (w.heap.size + 1 + 1) 24 #[.int .u64 0, .int .u64 0, .int .u64 0, .int .u64 0] (((w.alloc (.cells #[.int .u64 (limb a 0), .int .u64 (limb a 1), .int .u64 (limb a 2), .int .u64 (limb a 3)] 24)).alloc (.cells #[.int .u64 (limb b 0), .int .u64 (limb b 1), .int .u64 (limb b 2), .int .u64 (limb b 3)] 24)).alloc (.cells #[.int .u64 0, .int .u64 0, .int .u64 0, .int .u64 0] 24)) := by
    have h := Res.new ((w.alloc (.cells #[.int .u64 (limb a 0), .int .u64 (limb a 1), .int .u64 (limb a 2), .int .u64 (limb a 3)] 24)).alloc (.cells #[.int .u64 (limb b 0), .int .u64 (limb b 1), .int .u64 (limb b 2), .int .u64 (limb b 3)] 24)) 24 #[.int .u64 0, .int .u64 0, .int .u64 0, .int .u64 0]
    rw [World.size_alloc, World.size_alloc] at h
    exact h
  have hb0 : Below w.heap.size w (((w.alloc (.cells #[.int .u64 (limb a 0), .int .u64 (limb a 1), .int .u64 (limb a 2), .int .u64 (limb a 3)] 24)).alloc (.cells #[.int .u64 (limb b 0), .int .u64 (limb b 1), .int .u64 (limb b 2), .int .u64 (limb b 3)] 24)).alloc (.cells #[.int .u64 0, .int .u64 0, .int .u64 0, .int .u64 0] 24)) := by go_grown
  replace hb0 := hb0.drew
  replace hr := hr.drew
  go_enter Try.func19, Try.ntmps19
  go_wp2
  go_region_held3 (fun w' => w'.cell? ⟨w.heap.size, 0, none⟩ = some (.int .u64 (limb a 0)) ∧ w'.cell? ⟨w.heap.size, 1, none⟩ = some (.int .u64 (limb a 1)) ∧ w'.cell? ⟨w.heap.size, 2, none⟩ = some (.int .u64 (limb a 2)) ∧ w'.cell? ⟨w.heap.size, 3, none⟩ = some (.int .u64 (limb a 3)) ∧ w'.cell? ⟨w.heap.size + 1, 0, none⟩ = some (.int .u64 (limb b 0)) ∧ w'.cell? ⟨w.heap.size + 1, 1, none⟩ = some (.int .u64 (limb b 1)) ∧ w'.cell? ⟨w.heap.size + 1, 2, none⟩ = some (.int .u64 (limb b 2)) ∧ w'.cell? ⟨w.heap.size + 1, 3, none⟩ = some (.int .u64 (limb b 3)))
    (first | (go_keep; done) | (go_split_ands; with_reducible refine ⟨far4 ?_ ?_, far4 ?_ ?_, far4 ?_ ?_, far4 ?_ ?_, far4 ?_ ?_, far4 ?_ ?_, far4 ?_ ?_, far4 ?_ ?_⟩ <;> first | assumption | (dsimp only; omega)) | (go_split_ands; refine ⟨?_, ?_, ?_, ?_, ?_, ?_, ?_, ?_⟩ <;> (rw [hw.cell (World.block_lt_of_cell? _ _ (by assumption))]; assumption)))
    (first | (go_at_call 21; refine (from_any _ (by assumption) _).mono ?_; rintro e w2 ⟨v, rfl, hbig, hw⟩; have hb0 := chain hb0 hw; have hr := Res.keep hr hw) | (go_at_call 48; refine (rmul_any _ _ a b _ (Big.below (by assumption) hw) hbig (Nat.le_trans (nd_16.2 ha) (by omega)) (Nat.le_trans (nd_16.2 hb) (by omega))).mono ?_; rintro e w2 ⟨v, rfl, hbig, hw⟩; have hb0 := chain hb0 hw; have hr := Res.keep hr hw) | (go_at_call 42; refine (checked_any _ _ _ hbig).mono ?_; rintro e w2 ⟨rfl, hw⟩; have hb0 := chain hb0 hw; have hr := Res.keep hr hw; have hz := hr.cells; have hm := hr.marks))
  go_wp2
  refine bodyPost_ret (v := .tuple #[U (chkR (a * b)), .int .i64 (chkE (a * b))]) (by simp [results, Try.results19, go_sem, hz]) rfl ⟨rfl, ?_⟩
  go_grown

theorem radd256 (a b : Nat) (ha : a < B256) (hb : b < B256) (w : World) :
    Calls Try.prog 14 #[U a, U b] w fun e w' => e = .returned (.tuple #[U (addR a b), .int .i64 (addE a b)]) ∧ Below w.heap.size w w' := by
  have h := radd256_any a b ha hb w
  rw [show chkR (a + b) = addR a b from rfl, show chkE (a + b) = addE a b from rfl] at h
  exact h
theorem rmul256 (a b : Nat) (ha : a < B256) (hb : b < B256) (w : World) :
    Calls Try.prog 19 #[U a, U b] w fun e w' => e = .returned (.tuple #[U (mulR a b), .int .i64 (mulE a b)]) ∧ Below w.heap.size w w' := by
  have h := rmul256_any a b ha hb w
  rw [show chkR (a * b) = mulR a b from rfl, show chkE (a * b) = mulE a b from rfl] at h
  exact h

end Go.Proofs.Ythhbijcddbncdaa
