/- Contract of the sanity check of layer 1 over this translation: it returns true; memory that was there is as it was. -/
import Derived.Test.YthhbijcddbncdaaMin
namespace Go.Proofs.Ythhbijcddbncdaa
open Go.RowKit

theorem lt256 {n : Nat} (h : n < 18446744073709551616) : n < B256 := by unfold B256; omega

/-- A slice literal of two numbers. -/
theorem us_lit (w : World) (x y : Nat) (hx : x < B256) (hy : y < B256) :
    Us (w.alloc (.cells #[.int .u64 (limb x 0), .int .u64 (limb x 1), .int .u64 (limb x 2), .int .u64 (limb x 3), .int .u64 (limb y 0), .int .u64 (limb y 1), .int .u64 (limb y 2), .int .u64 (limb y 3)] 24)) (.slice (some ⟨w.heap.size, 0, none⟩) 2 2) [x, y] := by
  refine ⟨_, _, rfl, by simp, by simp [hx, hy], fun _ => ⟨w.heap.size, 0, rfl, by simp, fun i j hi hj => ?_⟩⟩
  rw [(Res.new w 24 _).cells]
  have hi' : i < 2 := hi
  match i, hi', j, hj with
  | 0, _, 0, _ | 0, _, 1, _ | 0, _, 2, _ | 0, _, 3, _ | 1, _, 0, _ | 1, _, 1, _ | 1, _, 2, _ | 1, _, 3, _ => rfl
  | i + 2, h, _, _ => exact absurd h (by omega)
  | 0, _, j + 4, h | 1, _, j + 4, h => exact absurd h (by omega)

set_option maxHeartbeats 2000000 in
theorem awake_any (w : World) : Calls Try.prog 17 #[] w fun e w' => e = .returned (.bool true) ∧ Below w.heap.size w w' := by
  have f3 : Hid (∀ w, Calls Try.prog 24 #[.int .u64 3] w fun e w' => e = .returned (U 3) ∧ Below w.heap.size w w') := fun w => u64_any 3 (by omega) w
  have f5 : Hid (∀ w, Calls Try.prog 24 #[.int .u64 5] w fun e w' => e = .returned (U 5) ∧ Below w.heap.size w w') := fun w => u64_any 5 (by omega) w
  have f7 : Hid (∀ w, Calls Try.prog 24 #[.int .u64 7] w fun e w' => e = .returned (U 7) ∧ Below w.heap.size w w') := fun w => u64_any 7 (by omega) w
  have f256 : Hid (∀ w, Calls Try.prog 24 #[.int .u64 256] w fun e w' => e = .returned (U 256) ∧ Below w.heap.size w w') := fun w => u64_any 256 (by omega) w
  have f9 : Hid (∀ w, Calls Try.prog 24 #[.int .u64 9] w fun e w' => e = .returned (U 9) ∧ Below w.heap.size w w') := fun w => u64_any 9 (by omega) w
  have f4 : Hid (∀ w, Calls Try.prog 24 #[.int .u64 4] w fun e w' => e = .returned (U 4) ∧ Below w.heap.size w w') := fun w => u64_any 4 (by omega) w
  have f6 : Hid (∀ w, Calls Try.prog 24 #[.int .u64 6] w fun e w' => e = .returned (U 6) ∧ Below w.heap.size w w') := fun w => u64_any 6 (by omega) w
  have cSub : Hid (∀ w, Calls Try.prog 15 #[U 3, U 5] w fun e w' => e = .returned (.tuple #[.agg #[.int .u64 0, .int .u64 0, .int .u64 0, .int .u64 0], .int .i64 4]) ∧ Below w.heap.size w w') := fun w => by
    have h := sub_any 3 5 (lt256 (by omega)) (lt256 (by omega)) w
    rw [show subR 3 5 = 0 from rfl, show subE 3 5 = 4 from rfl, U_zero] at h
    exact h
  have cU64 : Hid (∀ w, Calls Try.prog 22 #[U 7] w fun e w' => e = .returned (.tuple #[.int .u64 7, .bool true]) ∧ Below w.heap.size w w') := fun w => uint64_yes 7 (lt256 (by omega)) (by omega) w
  have cSat : Hid (∀ w, Calls Try.prog 40 #[U 3, U 5] w fun e w' => e = .returned (.agg #[.int .u64 0, .int .u64 0, .int .u64 0, .int .u64 0]) ∧ Below w.heap.size w w') := fun w => by
    have h := satsub_any 3 5 (lt256 (by omega)) (lt256 (by omega)) w
    rw [show subR 3 5 = 0 from rfl, U_zero] at h
    exact h
  have cBL : Hid (∀ w, Calls Try.prog 27 #[U 256] w fun e w' => e = .returned (.int .i64 9) ∧ Below w.heap.size w w') := fun w => by
    have h := bitlen_any 256 (lt256 (by omega)) w
    rw [show blen 256 = 9 from blen_eq (k := 8) (by omega) (by omega)] at h
    exact h
  have cMin : Hid (∀ w v, Us w v [4, 6] → Calls Try.prog 26 #[U 9, v] w fun e w' => e = .returned (U 4) ∧ Below w.heap.size w w') := fun w v h => min_any 9 v [4, 6] w (lt256 (by omega)) h
  have E0 : ∀ w, (Op.equalIn 10000 24 (.agg #[.int .u64 0, .int .u64 0, .int .u64 0, .int .u64 0]) (.agg #[.int .u64 0, .int .u64 0, .int .u64 0, .int .u64 0])).run Try.prog w = .ok true w := fun w => eq4_run 0 0 0 0 0 0 0 0 w
  have E4 : ∀ w, (Op.equalIn 10000 24 (U 4) (U 4)).run Try.prog w = .ok true w := fun w => (eqU_run 4 4 (lt256 (by omega)) (lt256 (by omega)) w).trans rfl
  go_enter Try.func17, Try.ntmps17
  go_wp2_with fail
  refine (f3.out _).mono ?_
  rintro e w1 ⟨rfl, h1⟩
  have b1 := h1
  go_wp2_with fail
  refine (f5.out _).mono ?_
  rintro e w2 ⟨rfl, h2⟩
  have b2 := chain b1 h2
  go_wp2_with fail
  refine (cSub.out _).mono ?_
  rintro e w3 ⟨rfl, h3⟩
  have b3 := chain b2 h3
  go_wp2_with fail
  refine (f7.out _).mono ?_
  rintro e w4 ⟨rfl, h4⟩
  have b4 := chain (b3.alloc b3.size _) h4
  go_wp2_with fail
  refine (cU64.out _).mono ?_
  rintro e w5 ⟨rfl, h5⟩
  have b5 := chain b4 h5
  go_wp2_with fail
  refine (f3.out _).mono ?_
  rintro e w6 ⟨rfl, h6⟩
  have b6 := chain b5 h6
  go_wp2_with fail
  refine (f5.out _).mono ?_
  rintro e w7 ⟨rfl, h7⟩
  have b7 := chain b6 h7
  go_wp2_with fail
  refine (cSat.out _).mono ?_
  rintro e w8 ⟨rfl, h8⟩
  have b8 := chain b7 h8
  go_wp2_with fail
  refine (f256.out _).mono ?_
  rintro e w9 ⟨rfl, h9⟩
  have b9 := chain b8 h9
  go_wp2_with fail
  refine (cBL.out _).mono ?_
  rintro e w10 ⟨rfl, h10⟩
  have b10 := chain b9 h10
  go_wp2_with fail
  refine (f9.out _).mono ?_
  rintro e w11 ⟨rfl, h11⟩
  have b11 := chain b10 h11
  go_wp2_with fail
  refine (f4.out _).mono ?_
  rintro e w12 ⟨rfl, h12⟩
  have b12 := chain b11 h12
  go_wp2_with fail
  refine (f6.out _).mono ?_
  rintro e w13 ⟨rfl, h13⟩
  have b13 := chain b12 h13
  go_wp2_with fail
  refine (cMin.out _ _ (us_lit w13 4 6 (lt256 (by omega)) (lt256 (by omega)))).mono ?_
  rintro e w14 ⟨rfl, h14⟩
  have b14 := chain (b13.alloc b13.size _) h14
  go_wp2_with fail
  refine (f4.out _).mono ?_
  rintro e w15 ⟨rfl, h15⟩
  have b15 := chain b14 h15
  go_wp2
  go_ret
  exact ⟨rfl, b15⟩
end Go.Proofs.Ythhbijcddbncdaa
