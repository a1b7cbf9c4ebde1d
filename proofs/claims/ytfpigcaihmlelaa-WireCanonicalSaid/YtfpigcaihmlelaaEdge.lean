/- Contracts of the statements' helpers Mod and EdgeUint256 over this translation: a remainder from 0 to 8; some number below 2^256. Memory that was there is as it was. -/
import Derived.Test.YtfpigcaihmlelaaMu
namespace Go.Proofs.Ytfpigcaihmlelaa
open Go.RowKit

theorem mod_core (s : Int) (w : World) : Calls Try.prog 19 #[.int .i64 s, .int .i64 9] w fun e w' => e = .returned (.int .i64 (wrap64 ((IntKind.u64.wrap s).tmod 9))) ∧ w = w' := by
  go_enter Try.func19, Try.ntmps19
  go_wp2
  go_ret
  exact ⟨rfl, rfl⟩
theorem mod_bounds (s : Int) : 0 ≤ wrap64 ((IntKind.u64.wrap s).tmod 9) ∧ wrap64 ((IntKind.u64.wrap s).tmod 9) < 9 := by
  rw [IntKind.wrap_u64]
  have h0 : 0 ≤ s % 18446744073709551616 := by omega
  rw [Int.tmod_eq_emod_of_nonneg h0]
  simp only [wrap64]
  omega
/-- It returns some number. -/
def IsU (w : World) (e : Ending) (w' : World) : Prop := ∃ n, n < B256 ∧ e = .returned (U n) ∧ Below w.heap.size w w'
theorem isU {w w' : World} {e : Ending} {x0 x1 x2 x3 : Int} (he : e = .returned (.agg #[.int .u64 x0, .int .u64 x1, .int .u64 x2, .int .u64 x3])) (a0 : 0 ≤ x0) (b0 : x0 < 18446744073709551616) (a1 : 0 ≤ x1) (b1 : x1 < 18446744073709551616) (a2 : 0 ≤ x2) (b2 : x2 < 18446744073709551616) (a3 : 0 ≤ x3) (b3 : x3 < 18446744073709551616) (hb : Below w.heap.size w w') : IsU w e w' := by
  obtain ⟨n, hn, rfl, rfl, rfl, rfl⟩ := exists_limbs a0 b0 a1 b1 a2 b2 a3 b3
  exact ⟨n, hn, he, hb⟩

set_option maxHeartbeats 1000000 in
theorem edge_0 (a b s : Int) (w : World) (_ha : 0 ≤ a) (_hb : 0 ≤ b) (C : Hid (∀ w, Calls Try.prog 19 #[.int .i64 s, .int .i64 9] w fun e w' => e = .returned (.int .i64 0) ∧ w = w')) :
    Calls Try.prog 27 #[.int .u64 a, .int .u64 b, .int .i64 s] w fun e w' => e = .returned (.agg #[.int .u64 a, .int .u64 0, .int .u64 0, .int .u64 0]) ∧ Below w.heap.size w w' := by
  go_enter Try.func27, Try.ntmps27
  go_wp2_with fail
  refine (C.out _).mono ?_
  rintro e w2 ⟨rfl, rfl⟩
  go_wp2
  refine bodyPost_ret (v := (.agg #[.int .u64 a, .int .u64 0, .int .u64 0, .int .u64 0])) (by simp [results, Try.results27, go_sem]) rfl ⟨rfl, ?_⟩
  go_grown
set_option maxHeartbeats 1000000 in
theorem edge_1 (a b s : Int) (w : World) (_ha : 0 ≤ a) (_hb : 0 ≤ b) (C : Hid (∀ w, Calls Try.prog 19 #[.int .i64 s, .int .i64 9] w fun e w' => e = .returned (.int .i64 1) ∧ w = w')) :
    Calls Try.prog 27 #[.int .u64 a, .int .u64 b, .int .i64 s] w fun e w' => e = .returned (.agg #[.int .u64 a, .int .u64 b, .int .u64 0, .int .u64 0]) ∧ Below w.heap.size w w' := by
  go_enter Try.func27, Try.ntmps27
  go_wp2_with fail
  refine (C.out _).mono ?_
  rintro e w2 ⟨rfl, rfl⟩
  go_wp2
  refine bodyPost_ret (v := (.agg #[.int .u64 a, .int .u64 b, .int .u64 0, .int .u64 0])) (by simp [results, Try.results27, go_sem]) rfl ⟨rfl, ?_⟩
  go_grown
set_option maxHeartbeats 1000000 in
theorem edge_2 (a b s : Int) (w : World) (_ha : 0 ≤ a) (_hb : 0 ≤ b) (C : Hid (∀ w, Calls Try.prog 19 #[.int .i64 s, .int .i64 9] w fun e w' => e = .returned (.int .i64 2) ∧ w = w')) :
    Calls Try.prog 27 #[.int .u64 a, .int .u64 b, .int .i64 s] w fun e w' => e = .returned (.agg #[.int .u64 a, .int .u64 b, .int .u64 a, .int .u64 b]) ∧ Below w.heap.size w w' := by
  go_enter Try.func27, Try.ntmps27
  go_wp2_with fail
  refine (C.out _).mono ?_
  rintro e w2 ⟨rfl, rfl⟩
  go_wp2
  refine bodyPost_ret (v := (.agg #[.int .u64 a, .int .u64 b, .int .u64 a, .int .u64 b])) (by simp [results, Try.results27, go_sem]) rfl ⟨rfl, ?_⟩
  go_grown
set_option maxHeartbeats 1000000 in
theorem edge_3 (a b s : Int) (w : World) (_ha : 0 ≤ a) (_hb : 0 ≤ b) (C : Hid (∀ w, Calls Try.prog 19 #[.int .i64 s, .int .i64 9] w fun e w' => e = .returned (.int .i64 3) ∧ w = w')) :
    Calls Try.prog 27 #[.int .u64 a, .int .u64 b, .int .i64 s] w fun e w' => e = .returned (.agg #[.int .u64 (18446744073709551615 - a % 4), .int .u64 18446744073709551615, .int .u64 18446744073709551615, .int .u64 18446744073709551615]) ∧ Below w.heap.size w w' := by
  go_enter Try.func27, Try.ntmps27
  go_wp2_with fail
  refine (C.out _).mono ?_
  rintro e w2 ⟨rfl, rfl⟩
  go_wp2
  refine bodyPost_ret (v := (.agg #[.int .u64 (18446744073709551615 - a % 4), .int .u64 18446744073709551615, .int .u64 18446744073709551615, .int .u64 18446744073709551615])) (by simp [results, Try.results27, go_sem]) rfl ⟨rfl, ?_⟩
  go_grown
set_option maxHeartbeats 1000000 in
theorem edge_4 (a b s : Int) (w : World) (_ha : 0 ≤ a) (_hb : 0 ≤ b) (C : Hid (∀ w, Calls Try.prog 19 #[.int .i64 s, .int .i64 9] w fun e w' => e = .returned (.int .i64 4) ∧ w = w')) :
    Calls Try.prog 27 #[.int .u64 a, .int .u64 b, .int .i64 s] w fun e w' => e = .returned (.agg #[.int .u64 (a % 4), .int .u64 0, .int .u64 (1 + b % 4), .int .u64 0]) ∧ Below w.heap.size w w' := by
  go_enter Try.func27, Try.ntmps27
  go_wp2_with fail
  refine (C.out _).mono ?_
  rintro e w2 ⟨rfl, rfl⟩
  go_wp2
  refine bodyPost_ret (v := (.agg #[.int .u64 (a % 4), .int .u64 0, .int .u64 (1 + b % 4), .int .u64 0])) (by simp [results, Try.results27, go_sem]) rfl ⟨rfl, ?_⟩
  go_grown
set_option maxHeartbeats 1000000 in
theorem edge_5 (a b s : Int) (w : World) (_ha : 0 ≤ a) (_hb : 0 ≤ b) (C : Hid (∀ w, Calls Try.prog 19 #[.int .i64 s, .int .i64 9] w fun e w' => e = .returned (.int .i64 5) ∧ w = w')) :
    Calls Try.prog 27 #[.int .u64 a, .int .u64 b, .int .i64 s] w fun e w' => e = .returned (.agg #[.int .u64 18446744073709551615, .int .u64 18446744073709551615, .int .u64 0, .int .u64 0]) ∧ Below w.heap.size w w' := by
  go_enter Try.func27, Try.ntmps27
  go_wp2_with fail
  refine (C.out _).mono ?_
  rintro e w2 ⟨rfl, rfl⟩
  go_wp2
  refine bodyPost_ret (v := (.agg #[.int .u64 18446744073709551615, .int .u64 18446744073709551615, .int .u64 0, .int .u64 0])) (by simp [results, Try.results27, go_sem]) rfl ⟨rfl, ?_⟩
  go_grown
set_option maxHeartbeats 1000000 in
theorem edge_6 (a b s : Int) (w : World) (_ha : 0 ≤ a) (_hb : 0 ≤ b) (C : Hid (∀ w, Calls Try.prog 19 #[.int .i64 s, .int .i64 9] w fun e w' => e = .returned (.int .i64 6) ∧ w = w')) :
    Calls Try.prog 27 #[.int .u64 a, .int .u64 b, .int .i64 s] w fun e w' => e = .returned (.agg #[.int .u64 0, .int .u64 0, .int .u64 0, .int .u64 (IntKind.u64.wrap (2 ^ (b % 64).toNat))]) ∧ Below w.heap.size w w' := by
  go_enter Try.func27, Try.ntmps27
  go_wp2_with fail
  refine (C.out _).mono ?_
  rintro e w2 ⟨rfl, rfl⟩
  go_wp2
  refine bodyPost_ret (v := (.agg #[.int .u64 0, .int .u64 0, .int .u64 0, .int .u64 (IntKind.u64.wrap (2 ^ (b % 64).toNat))])) (by simp [results, Try.results27, go_sem]) rfl ⟨rfl, ?_⟩
  go_grown
set_option maxHeartbeats 1000000 in
theorem edge_7 (a b s : Int) (w : World) (_ha : 0 ≤ a) (_hb : 0 ≤ b) (C : Hid (∀ w, Calls Try.prog 19 #[.int .i64 s, .int .i64 9] w fun e w' => e = .returned (.int .i64 7) ∧ w = w')) :
    Calls Try.prog 27 #[.int .u64 a, .int .u64 b, .int .i64 s] w fun e w' => e = .returned (.agg #[.int .u64 (a % 16), .int .u64 0, .int .u64 0, .int .u64 0]) ∧ Below w.heap.size w w' := by
  go_enter Try.func27, Try.ntmps27
  go_wp2_with fail
  refine (C.out _).mono ?_
  rintro e w2 ⟨rfl, rfl⟩
  go_wp2
  refine bodyPost_ret (v := (.agg #[.int .u64 (a % 16), .int .u64 0, .int .u64 0, .int .u64 0])) (by simp [results, Try.results27, go_sem]) rfl ⟨rfl, ?_⟩
  go_grown
set_option maxHeartbeats 1000000 in
theorem edge_8 (a b s : Int) (w : World) (_ha : 0 ≤ a) (_hb : 0 ≤ b) (C : Hid (∀ w, Calls Try.prog 19 #[.int .i64 s, .int .i64 9] w fun e w' => e = .returned (.int .i64 8) ∧ w = w')) :
    Calls Try.prog 27 #[.int .u64 a, .int .u64 b, .int .i64 s] w fun e w' => e = .returned (.agg #[.int .u64 b, .int .u64 a, .int .u64 b, .int .u64 0]) ∧ Below w.heap.size w w' := by
  go_enter Try.func27, Try.ntmps27
  go_wp2_with fail
  refine (C.out _).mono ?_
  rintro e w2 ⟨rfl, rfl⟩
  go_wp2
  refine bodyPost_ret (v := (.agg #[.int .u64 b, .int .u64 a, .int .u64 b, .int .u64 0])) (by simp [results, Try.results27, go_sem]) rfl ⟨rfl, ?_⟩
  go_grown

theorem edge_any (a b s : Int) (w : World) (ha : 0 ≤ a) (ha' : a < 18446744073709551616) (hb : 0 ≤ b) (hb' : b < 18446744073709551616) :
    Calls Try.prog 27 #[.int .u64 a, .int .u64 b, .int .i64 s] w fun e w' => IsU w e w' := by
  have C : Hid (∀ w, Calls Try.prog 19 #[.int .i64 s, .int .i64 9] w fun e w' => e = .returned (.int .i64 (wrap64 ((IntKind.u64.wrap s).tmod 9))) ∧ w = w') := fun w => mod_core s w
  obtain ⟨h0, h9⟩ := mod_bounds s
  generalize wrap64 ((IntKind.u64.wrap s).tmod 9) = q at *
  have hw : 0 ≤ IntKind.u64.wrap (2 ^ (b % 64).toNat) ∧ IntKind.u64.wrap (2 ^ (b % 64).toNat) < 18446744073709551616 := by rw [IntKind.wrap_u64]; omega
  rcases (by omega : q = 0 ∨ q = 1 ∨ q = 2 ∨ q = 3 ∨ q = 4 ∨ q = 5 ∨ q = 6 ∨ q = 7 ∨ q = 8) with rfl | rfl | rfl | rfl | rfl | rfl | rfl | rfl | rfl
  · exact (edge_0 a b s w ha hb C).mono fun e w' h => isU h.1 (by omega) (by omega) (by omega) (by omega) (by omega) (by omega) (by omega) (by omega) h.2
  · exact (edge_1 a b s w ha hb C).mono fun e w' h => isU h.1 (by omega) (by omega) (by omega) (by omega) (by omega) (by omega) (by omega) (by omega) h.2
  · exact (edge_2 a b s w ha hb C).mono fun e w' h => isU h.1 (by omega) (by omega) (by omega) (by omega) (by omega) (by omega) (by omega) (by omega) h.2
  · exact (edge_3 a b s w ha hb C).mono fun e w' h => isU h.1 (by omega) (by omega) (by omega) (by omega) (by omega) (by omega) (by omega) (by omega) h.2
  · exact (edge_4 a b s w ha hb C).mono fun e w' h => isU h.1 (by omega) (by omega) (by omega) (by omega) (by omega) (by omega) (by omega) (by omega) h.2
  · exact (edge_5 a b s w ha hb C).mono fun e w' h => isU h.1 (by omega) (by omega) (by omega) (by omega) (by omega) (by omega) (by omega) (by omega) h.2
  · exact (edge_6 a b s w ha hb C).mono fun e w' h => isU h.1 (by omega) (by omega) (by omega) (by omega) (by omega) (by omega) (by omega) (by omega) h.2
  · exact (edge_7 a b s w ha hb C).mono fun e w' h => isU h.1 (by omega) (by omega) (by omega) (by omega) (by omega) (by omega) (by omega) (by omega) h.2
  · exact (edge_8 a b s w ha hb C).mono fun e w' h => isU h.1 (by omega) (by omega) (by omega) (by omega) (by omega) (by omega) (by omega) (by omega) h.2

end Go.Proofs.Ytfpigcaihmlelaa

