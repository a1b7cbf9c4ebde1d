/- Contracts of the reference's IsZero and FromUint64 over this translation: whether a number is zero; a word as a slice of digits; memory that was there is as it was. -/
import Derived.Test.YtkionnggdncncaaDoorRefb
namespace Go.Proofs.YtkionnggdncncaaDoor
open Go.RowKit

/-- A number of one word. -/
theorem U_word (n : Nat) (hn : n < 18446744073709551616) : U n = .agg #[.int .u64 n, .int .u64 0, .int .u64 0, .int .u64 0] := by
  obtain ⟨y0, y1, y2, y3⟩ := limb_of (n := n) (x0 := n) (x1 := 0) (x2 := 0) (x3 := 0) (by omega) (by omega) (by omega) (by omega) (by omega) (by omega) (by omega) (by omega) (by omega)
  rw [U, ← y0, ← y1, ← y2, ← y3]

theorem rzero_any (a : Nat) (ha : a < B256) (w : World) :
    Calls Tryd.prog 27 #[U a] w fun e w' => e = .returned (.bool (decide (a = 0))) ∧ Below w.heap.size w w' := by
  have E := eqU_run a 0 ha (by decide)
  rw [U_zero] at E
  go_enter Tryd.func27, Tryd.ntmps27
  go_wp2
  go_ret
  refine ⟨rfl, ?_⟩
  go_grown

theorem rfrom64_new (n : Nat) (hn : n < 18446744073709551616) (w : World) :
    Calls Tryd.prog 33 #[.int .u64 n] w fun e w' => ∃ v, e = .returned v ∧ Big w' v n ∧ Fresh w v ∧ Below w.heap.size w w' := by
  have x3 := U_word n hn
  have C := Lib.hid (fun w => from_new n (Nat.lt_trans hn (by decide)) w)
  rw [x3] at C
  go_enter Tryd.func33, Tryd.ntmps33
  go_wp2_with fail
  refine (C.out _).mono ?_
  rintro e w1 ⟨v, rfl, hv, hf, h1⟩
  go_wp2
  go_ret
  exact ⟨v, rfl, hv, hf, h1⟩
theorem rfrom64_any (n : Nat) (hn : n < 18446744073709551616) (w : World) :
    Calls Tryd.prog 33 #[.int .u64 n] w fun e w' => ∃ v, e = .returned v ∧ Big w' v n ∧ Below w.heap.size w w' :=
  (rfrom64_new n hn w).mono fun _ _ ⟨v, h1, h2, _, h3⟩ => ⟨v, h1, h2, h3⟩
end Go.Proofs.YtkionnggdncncaaDoor

