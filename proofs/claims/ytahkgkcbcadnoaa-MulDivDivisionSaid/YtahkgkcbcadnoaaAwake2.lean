/- The sanity check of layer 2 over this translation returns true; memory that was there is as it was. -/
import Derived.Test.YtahkgkcbcadnoaaLaw2b
import Derived.Test.YtahkgkcbcadnoaaMdg
namespace Go.Proofs.Ytahkgkcbcadnoaa
open Go.RowKit

theorem U_small (n : Nat) (hn : n < 18446744073709551616) : U n = .agg #[.int .u64 (n : Int), .int .u64 0, .int .u64 0, .int .u64 0] := by
  obtain ⟨y0, y1, y2, y3⟩ := limb_of (n := n) (x0 := n) (x1 := 0) (x2 := 0) (x3 := 0) (by omega) (by omega) (by omega) (by omega) (by omega) (by omega) (by omega) (by omega) (by omega)
  rw [U, ← y0, ← y1, ← y2, ← y3]
theorem small_lt {n : Nat} (h : n < 18446744073709551616) : n < B256 := by unfold B256; omega
theorem U_1 : U 1 = .agg #[.int .u64 1, .int .u64 0, .int .u64 0, .int .u64 0] := U_small 1 (by omega)

theorem awake2_any (w : World) : Calls Try.prog 12 #[] w fun e w' => e = .returned (.bool true) ∧ Below w.heap.size w w' := by
  have u7 : U 7 = .agg #[.int .u64 7, .int .u64 0, .int .u64 0, .int .u64 0] := U_small 7 (by omega)
  have u5 : U 5 = .agg #[.int .u64 5, .int .u64 0, .int .u64 0, .int .u64 0] := U_small 5 (by omega)
  have u10 : U 10 = .agg #[.int .u64 10, .int .u64 0, .int .u64 0, .int .u64 0] := U_small 10 (by omega)
  have u3 : U 3 = .agg #[.int .u64 3, .int .u64 0, .int .u64 0, .int .u64 0] := U_small 3 (by omega)
  have u4 : U 4 = .agg #[.int .u64 4, .int .u64 0, .int .u64 0, .int .u64 0] := U_small 4 (by omega)
  refine awake2_core 0 0 w ?_ ?_ ?_
  · intro w
    have h := floor_any 7 5 10 (small_lt (by omega)) (small_lt (by omega)) (small_lt (by omega)) w
    rw [show quoR 10 (7 * 5 / 10) = 3 by decide, show quoE 10 (7 * 5 / 10) = 0 by decide, u7, u5, u10, u3] at h
    exact h
  · intro w
    have h := ceil_any 7 5 10 (small_lt (by omega)) (small_lt (by omega)) (small_lt (by omega)) w
    rw [show quoR 10 (cdiv (7 * 5) 10) = 4 by decide, show quoE 10 (cdiv (7 * 5) 10) = 0 by decide, u7, u5, u10, u4] at h
    exact h
  · intro w
    have h := dm_any 5 0 (small_lt (by omega)) B256_pos w
    rw [show quoR 0 (5 / 0) = 0 by decide, show remR 0 (5 / 0) (5 % 0) = 0 by decide, show quoE 0 (5 / 0) = 5 by decide, u5, U_zero] at h
    rw [U_zero]
    exact h

end Go.Proofs.Ytahkgkcbcadnoaa
