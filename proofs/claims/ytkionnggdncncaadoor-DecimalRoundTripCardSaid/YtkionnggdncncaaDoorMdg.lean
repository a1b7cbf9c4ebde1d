/- Contracts of muldiv.Mul, DivMod, MulDivFloor and MulDivCeil over this translation: both halves of the product; quotient and remainder; the product's quotient rounded down and up, or zero and an error. Memory that was there is as it was. -/
import Derived.Test.YtkionnggdncncaaDoorMdf
import Derived.Test.YtkionnggdncncaaDoorUm
namespace Go.Proofs.YtkionnggdncncaaDoor
open Go.RowKit

theorem dm_core (a b q r : Nat) (k : Int) (w : World)
    (C : Hid (∀ w, Calls Tryd.prog 39 #[U a, (.agg #[.int .u64 0, .int .u64 0, .int .u64 0, .int .u64 0]), U b] w fun e w' => e = .returned (.tuple #[U q, U r, .int .i64 k]) ∧ Below w.heap.size w w')) :
    Calls Tryd.prog 20 #[U a, U b] w fun e w' => e = .returned (.tuple #[U q, U r, .int .i64 k]) ∧ Below w.heap.size w w' := by
  have rA : Res (w.heap.size) 24 (arr a) ((((w.alloc (.cells (arr a) 24)).alloc (.cells (arr b) 24)).alloc (.cells #[.int .u64 0, .int .u64 0, .int .u64 0, .int .u64 0] 24)).alloc (.cells #[.int .u64 0, .int .u64 0, .int .u64 0, .int .u64 0] 24)) := by
    have h := ((((Res.new w 24 (arr a)).alloc (.cells (arr b) 24)).alloc (.cells #[.int .u64 0, .int .u64 0, .int .u64 0, .int .u64 0] 24)).alloc (.cells #[.int .u64 0, .int .u64 0, .int .u64 0, .int .u64 0] 24))
    exact h
  have rB : Res (w.heap.size + 1) 24 (arr b) ((((w.alloc (.cells (arr a) 24)).alloc (.cells (arr b) 24)).alloc (.cells #[.int .u64 0, .int .u64 0, .int .u64 0, .int .u64 0] 24)).alloc (.cells #[.int .u64 0, .int .u64 0, .int .u64 0, .int .u64 0] 24)) := by
    have h := (((Res.new (w.alloc (.cells (arr a) 24)) 24 (arr b)).alloc (.cells #[.int .u64 0, .int .u64 0, .int .u64 0, .int .u64 0] 24)).alloc (.cells #[.int .u64 0, .int .u64 0, .int .u64 0, .int .u64 0] 24))
    simp only [World.size_alloc] at h
    exact h
  have rO : Res (w.heap.size + 1 + 1) 24 #[.int .u64 0, .int .u64 0, .int .u64 0, .int .u64 0] ((((w.alloc (.cells (arr a) 24)).alloc (.cells (arr b) 24)).alloc (.cells #[.int .u64 0, .int .u64 0, .int .u64 0, .int .u64 0] 24)).alloc (.cells #[.int .u64 0, .int .u64 0, .int .u64 0, .int .u64 0] 24)) := by
    have h := ((Res.new ((w.alloc (.cells (arr a) 24)).alloc (.cells (arr b) 24)) 24 #[.int .u64 0, .int .u64 0, .int .u64 0, .int .u64 0]).alloc (.cells #[.int .u64 0, .int .u64 0, .int .u64 0, .int .u64 0] 24))
    simp only [World.size_alloc] at h
    exact h
  have rO2 : Res (w.heap.size + 1 + 1 + 1) 24 #[.int .u64 0, .int .u64 0, .int .u64 0, .int .u64 0] ((((w.alloc (.cells (arr a) 24)).alloc (.cells (arr b) 24)).alloc (.cells #[.int .u64 0, .int .u64 0, .int .u64 0, .int .u64 0] 24)).alloc (.cells #[.int .u64 0, .int .u64 0, .int .u64 0, .int .u64 0] 24)) := by
    have h := (Res.new (((w.alloc (.cells (arr a) 24)).alloc (.cells (arr b) 24)).alloc (.cells #[.int .u64 0, .int .u64 0, .int .u64 0, .int .u64 0] 24)) 24 #[.int .u64 0, .int .u64 0, .int .u64 0, .int .u64 0])
    simp only [World.size_alloc] at h
    exact h
  have bb : Below w.heap.size w ((((w.alloc (.cells (arr a) 24)).alloc (.cells (arr b) 24)).alloc (.cells #[.int .u64 0, .int .u64 0, .int .u64 0, .int .u64 0] 24)).alloc (.cells #[.int .u64 0, .int .u64 0, .int .u64 0, .int .u64 0] 24)) := by go_grown
  go_enter Tryd.func20, Tryd.ntmps20
  go_wp2_with fail
  with_reducible refine (C.out _).mono ?_
  rintro e w1 ⟨rfl, h1⟩
  replace rO := rO.keep h1
  replace rO2 := rO2.keep h1
  replace bb := chain bb h1
  have zO := rO.cells; have mO := rO.marks; have lO := rO.lt
  have zO2 := rO2.cells; have mO2 := rO2.marks; have lO2 := rO2.lt
  clear rA rB rO rO2 h1
  go_wp2
  refine bodyPost_ret (v := .tuple #[U q, U r, .int .i64 k]) (by simp [results, Tryd.results20, go_sem, zO, zO2]) rfl ⟨rfl, ?_⟩
  go_grown
theorem dm_any (a b : Nat) (ha : a < B256) (hb : b < B256) (w : World) :
    Calls Tryd.prog 20 #[U a, U b] w fun e w' => e = .returned (.tuple #[U (quoR b (a / b)), U (remR b (a / b) (a % b)), .int .i64 (quoE b (a / b))]) ∧ Below w.heap.size w w' := by
  refine dm_core a b _ _ _ w ?_
  intro w
  have h := d512_any a 0 b ha B256_pos hb w
  rw [Nat.zero_mul, Nat.add_zero, U_zero] at h
  exact h

theorem join_n (n : Nat) : n % B256 + n / B256 * B256 = n := by rw [Nat.mul_comm]; exact Nat.mod_add_div n B256
theorem hi_lt {a b : Nat} (ha : a < B256) (hb : b < B256) : a * b / B256 < B256 := Nat.div_lt_of_lt_mul (Nat.mul_lt_mul'' ha hb)
theorem lo_lt (n : Nat) : n % B256 < B256 := Nat.mod_lt _ B256_pos

end Go.Proofs.YtkionnggdncncaaDoor

