/- Contracts of muldiv.Mul, DivMod, MulDivFloor and MulDivCeil over this translation: both halves of the product; quotient and remainder; the product's quotient rounded down and up, or zero and an error. Memory that was there is as it was. -/
import Derived.Test.YtahkgkcbcadnoaaMdf
import Derived.Test.YtahkgkcbcadnoaaUm
namespace Go.Proofs.Ytahkgkcbcadnoaa
open Go.RowKit

theorem mdmul_any (a b : Nat) (ha : a < B256) (hb : b < B256) (w : World) :
    Calls Try.prog 10 #[U a, U b] w fun e w' => e = .returned (.tuple #[U (a * b % B256), U (a * b / B256)]) ∧ Below w.heap.size w w' := by
  have C := Lib.hid (full_any a b ha hb)
  generalize a * b % B256 = p at *
  generalize a * b / B256 = h at *
  have rA : Res (w.heap.size) 24 (arr a) ((((w.alloc (.cells (arr a) 24)).alloc (.cells (arr b) 24)).alloc (.cells #[.int .u64 0, .int .u64 0, .int .u64 0, .int .u64 0] 24)).alloc (.cells #[.int .u64 0, .int .u64 0, .int .u64 0, .int .u64 0] 24)) := by
    have h := ((((Res.new w 24 (arr a)).alloc (.cells (arr b) 24)).alloc (.cells #[.int .u64 0, .int .u64 0, .int .u64 0, .int .u64 0] 24)).alloc (.cells #[.int .u64 0, .int .u64 0, .int .u64 0, .int .u64 0] 24))
    exact h
  have rB : Res (w.heap.size + 1) 24 (arr b) ((((w.alloc (.cells (arr a) 24)).alloc (.cells (arr b) 24)).alloc (.cells #[.int .u64 0, .int .u64 0, .int .u64 0, .int .u64 0] 24)).alloc (.cells #[.int .u64 0, .int .u64 0, .int .u64 0, .int .u64 0] 24)) := by
    have h := (((Res.new (w.alloc (.cells (arr a) 24)) 24 (arr b)).alloc (.cells #[.int .u64 0, .int .u64 0, .int .u64 0, .int .u64 0] 24)).alloc (.cells #[.int .u64 0, .int .u64 0, .int .u64 0, .int .u64 0] 24))
    simp only [World.size_alloc] at h
    exact h
  have rO : Res (w.heap.size + 1 + 1) 24 #[.int .u64 0, .int .u64 0, .int .u64 0, .int .u64 0] ((((w.alloc (.cells (arr a) 24)).alloc (.cells (arr b) 24)).alloc (.cells #[.int .u64 0, .int .u64 0, .int .u64 0, .int .u64 0] 24)).alloc (.cells #[.int .u64 0, .int .u64 0, .int .u64 0, .int .u64 0] 24)) := by
    have h := ((Res.new ((w.alloc (.cells (arr a) 24)).alloc (.cells (arr b) 24)) 24 #[.int .u64 0, .int .u64 0, .int .u64 0, .int .u64 0]).alloc (.cells #[.int .u64 0, .int .u64 0, .int .u64 0, .int .u64 0] 24))
    simp only [World.size_alloc] at h
    exact h
  have rO2 : Res (w.heap.size + 1 + 1 + 1) 24 #[.int .u64 0, .int .u64 0, .int .u64 0, .int .u64 0] ((((w.alloc (.cells (arr a) 24)).alloc (.cells (arr b) 24)).alloc (.cells #[.int .u64 0, .int .u64 0, .int .u64 0, .int .u64 0] 24)).alloc (.cells #[.int .u64 0, .int .u64 0, .int .u64 0, .int .u64 0] 24)) := by
    have h := (Res.new (((w.alloc (.cells (arr a) 24)).alloc (.cells (arr b) 24)).alloc (.cells #[.int .u64 0, .int .u64 0, .int .u64 0, .int .u64 0] 24)) 24 #[.int .u64 0, .int .u64 0, .int .u64 0, .int .u64 0])
    simp only [World.size_alloc] at h
    exact h
  have bb : Below w.heap.size w ((((w.alloc (.cells (arr a) 24)).alloc (.cells (arr b) 24)).alloc (.cells #[.int .u64 0, .int .u64 0, .int .u64 0, .int .u64 0] 24)).alloc (.cells #[.int .u64 0, .int .u64 0, .int .u64 0, .int .u64 0] 24)) := by go_grown
  go_enter Try.func10, Try.ntmps10
  go_wp2_with fail
  with_reducible refine (C.out _).mono ?_
  rintro e w1 ⟨rfl, h1⟩
  replace rO := rO.keep h1
  replace rO2 := rO2.keep h1
  replace bb := chain bb h1
  have zO := rO.cells; have mO := rO.marks; have lO := rO.lt
  have zO2 := rO2.cells; have mO2 := rO2.marks; have lO2 := rO2.lt
  clear rA rB rO rO2 h1
  go_wp2
  refine bodyPost_ret (v := .tuple #[U p, U h]) (by simp [results, Try.results10, go_sem, zO, zO2]) rfl ⟨rfl, ?_⟩
  go_grown

theorem dm_core (a b q r : Nat) (k : Int) (w : World)
    (C : Hid (∀ w, Calls Try.prog 13 #[U a, (.agg #[.int .u64 0, .int .u64 0, .int .u64 0, .int .u64 0]), U b] w fun e w' => e = .returned (.tuple #[U q, U r, .int .i64 k]) ∧ Below w.heap.size w w')) :
    Calls Try.prog 15 #[U a, U b] w fun e w' => e = .returned (.tuple #[U q, U r, .int .i64 k]) ∧ Below w.heap.size w w' := by
  have rA : Res (w.heap.size) 24 (arr a) ((((w.alloc (.cells (arr a) 24)).alloc (.cells (arr b) 24)).alloc (.cells #[.int .u64 0, .int .u64 0, .int .u64 0, .int .u64 0] 24)).alloc (.cells #[.int .u64 0, .int .u64 0, .int .u64 0, .int .u64 0] 24)) := by
    have h := ((((Res.new w 24 (arr a)).alloc (.cells (arr b) 24)).alloc (.cells #[.int .u64 0, .int .u64 0, .int .u64 0, .int .u64 0] 24)).alloc (.cells #[.int .u64 0, .int .u64 0, .int .u64 0, .int .u64 0] 24))
    exact h
  have rB : Res (w.heap.size + 1) 24 (arr b) ((((w.alloc (.cells (arr a) 24)).alloc (.cells (arr b) 24)).alloc (.cells #[.int .u64 0, .int .u64 0, .int .u64 0, .int .u64 0] 24)).alloc (.cells #[.int .u64 0, .int .u64 0, .int .u64 0, .int .u64 0] 24)) := by
    have h := (((Res.new (w.alloc (.cells (arr a) 24)) 24 (arr b)).alloc (.cells #[.int .u64 0, .int .u64 0, .int .u64 0, .int .u64 0] 24)).alloc (.cells #[.int .u64 0, .int .u64 0, .int .u64 0, .int .u64 0] 24))
    simp only [World.size_alloc] at h
    exact h
  have rO : Res (w.heap.size + 1 + 1) 24 #[.int .u64 0, .int .u64 0, .int .u64 0, .int .u64 0] ((((w.alloc (.cells (arr a) 24)).alloc (.cells (arr b) 24)).alloc (.cells #[.int .u64 0, .int .u64 0, .int .u64 0, .int .u64 0] 24)).alloc (.cells #[.int .u64 0, .int .u64 0, .int .u64 0, .int .u64 0] 24)) := by
    have h := ((Res.new ((w.alloc (.cells (arr a) 24)).alloc (.cells (arr b) 24)) 24 #[.int .u64 0, .int .u64 0, .int .u64 0, .int .u64 0]).alloc (.cells #[.int .u64 0, .int .u64 0, .int .u64 0, .int .u64 0] 24))
    simp only [World.size_alloc] at h
    exact h
  have rO2 : Res (w.heap.size + 1 + 1 + 1) 24 #[.int .u64 0, .int .u64 0, .int .u64 0, .int .u64 0] ((((w.alloc (.cells (arr a) 24)).alloc (.cells (arr b) 24)).alloc (.cells #[.int .u64 0, .int .u64 0, .int .u64 0, .int .u64 0] 24)).alloc (.cells #[.int .u64 0, .int .u64 0, .int .u64 0, .int .u64 0] 24)) := by
    have h := (Res.new (((w.alloc (.cells (arr a) 24)).alloc (.cells (arr b) 24)).alloc (.cells #[.int .u64 0, .int .u64 0, .int .u64 0, .int .u64 0] 24)) 24 #[.int .u64 0, .int .u64 0, .int .u64 0, .int .u64 0])
    simp only [World.size_alloc] at h
    exact h
  have bb : Below w.heap.size w ((((w.alloc (.cells (arr a) 24)).alloc (.cells (arr b) 24)).alloc (.cells #[.int .u64 0, .int .u64 0, .int .u64 0, .int .u64 0] 24)).alloc (.cells #[.int .u64 0, .int .u64 0, .int .u64 0, .int .u64 0] 24)) := by go_grown
  go_enter Try.func15, Try.ntmps15
  go_wp2_with fail
  with_reducible refine (C.out _).mono ?_
  rintro e w1 ⟨rfl, h1⟩
  replace rO := rO.keep h1
  replace rO2 := rO2.keep h1
  replace bb := chain bb h1
  have zO := rO.cells; have mO := rO.marks; have lO := rO.lt
  have zO2 := rO2.cells; have mO2 := rO2.marks; have lO2 := rO2.lt
  clear rA rB rO rO2 h1
  go_wp2
  refine bodyPost_ret (v := .tuple #[U q, U r, .int .i64 k]) (by simp [results, Try.results15, go_sem, zO, zO2]) rfl ⟨rfl, ?_⟩
  go_grown
theorem dm_any (a b : Nat) (ha : a < B256) (hb : b < B256) (w : World) :
    Calls Try.prog 15 #[U a, U b] w fun e w' => e = .returned (.tuple #[U (quoR b (a / b)), U (remR b (a / b) (a % b)), .int .i64 (quoE b (a / b))]) ∧ Below w.heap.size w w' := by
  refine dm_core a b _ _ _ w ?_
  intro w
  have h := d512_any a 0 b ha B256_pos hb w
  rw [Nat.zero_mul, Nat.add_zero, U_zero] at h
  exact h

set_option maxRecDepth 100000 in
set_option maxHeartbeats 2000000 in
theorem floor_core (a b c p h q r : Nat) (k : Int) (w : World)
    (cm : Hid (∀ w, Calls Try.prog 10 #[U a, U b] w fun e w' => e = .returned (.tuple #[U p, U h]) ∧ Below w.heap.size w w'))
    (cd : Hid (∀ w, Calls Try.prog 13 #[U p, U h, U c] w fun e w' => e = .returned (.tuple #[U q, U r, .int .i64 k]) ∧ Below w.heap.size w w')) :
    Calls Try.prog 16 #[U a, U b, U c] w fun e w' => e = .returned (.tuple #[U q, .int .i64 k]) ∧ Below w.heap.size w w' := by
  have rA : Res (w.heap.size) 24 (arr a) ((((w.alloc (.cells (arr a) 24)).alloc (.cells (arr b) 24)).alloc (.cells (arr c) 24)).alloc (.cells #[.int .u64 0, .int .u64 0, .int .u64 0, .int .u64 0] 24)) := by
    have h := ((((Res.new w 24 (arr a)).alloc (.cells (arr b) 24)).alloc (.cells (arr c) 24)).alloc (.cells #[.int .u64 0, .int .u64 0, .int .u64 0, .int .u64 0] 24))
    exact h
  have rB : Res (w.heap.size + 1) 24 (arr b) ((((w.alloc (.cells (arr a) 24)).alloc (.cells (arr b) 24)).alloc (.cells (arr c) 24)).alloc (.cells #[.int .u64 0, .int .u64 0, .int .u64 0, .int .u64 0] 24)) := by
    have h := (((Res.new (w.alloc (.cells (arr a) 24)) 24 (arr b)).alloc (.cells (arr c) 24)).alloc (.cells #[.int .u64 0, .int .u64 0, .int .u64 0, .int .u64 0] 24))
    simp only [World.size_alloc] at h
    exact h
  have rC : Res (w.heap.size + 1 + 1) 24 (arr c) ((((w.alloc (.cells (arr a) 24)).alloc (.cells (arr b) 24)).alloc (.cells (arr c) 24)).alloc (.cells #[.int .u64 0, .int .u64 0, .int .u64 0, .int .u64 0] 24)) := by
    have h := ((Res.new ((w.alloc (.cells (arr a) 24)).alloc (.cells (arr b) 24)) 24 (arr c)).alloc (.cells #[.int .u64 0, .int .u64 0, .int .u64 0, .int .u64 0] 24))
    simp only [World.size_alloc] at h
    exact h
  have rO : Res (w.heap.size + 1 + 1 + 1) 24 #[.int .u64 0, .int .u64 0, .int .u64 0, .int .u64 0] ((((w.alloc (.cells (arr a) 24)).alloc (.cells (arr b) 24)).alloc (.cells (arr c) 24)).alloc (.cells #[.int .u64 0, .int .u64 0, .int .u64 0, .int .u64 0] 24)) := by
    have h := (Res.new (((w.alloc (.cells (arr a) 24)).alloc (.cells (arr b) 24)).alloc (.cells (arr c) 24)) 24 #[.int .u64 0, .int .u64 0, .int .u64 0, .int .u64 0])
    simp only [World.size_alloc] at h
    exact h
  have bb : Below w.heap.size w ((((w.alloc (.cells (arr a) 24)).alloc (.cells (arr b) 24)).alloc (.cells (arr c) 24)).alloc (.cells #[.int .u64 0, .int .u64 0, .int .u64 0, .int .u64 0] 24)) := by go_grown
  go_enter Try.func16, Try.ntmps16
  go_wp2_with fail
  with_reducible refine (cm.out _).mono ?_
  rintro e w1 ⟨rfl, h1⟩
  replace rC := ((rC.keep h1).alloc (.cells (arr p) 24)).alloc (.cells (arr h) 24)
  replace rO := ((rO.keep h1).alloc (.cells (arr p) 24)).alloc (.cells (arr h) 24)
  have rP := (Res.new w1 24 (arr p)).alloc (.cells (arr h) 24)
  have rH := Res.new (w1.alloc (.cells (arr p) 24)) 24 (arr h)
  rw [World.size_alloc] at rH
  replace bb := chain bb h1
  have sz1 := bb.size
  replace bb := (bb.alloc bb.size (.cells (arr p) 24)).alloc (by rw [World.size_alloc]; omega) (.cells (arr h) 24)
  clear rA rB
  have zC := rC.cells; have lC := rC.lt
  have zP := rP.cells; have lP := rP.lt
  have zH := rH.cells; have lH := rH.lt
  go_wp2_with fail
  with_reducible refine (cd.out _).mono ?_
  rintro e w2 ⟨rfl, h2⟩
  clear zC lC zP lP zH lH rC rP rH
  replace rO := rO.keep h2
  replace bb := chain bb h2 (by first | exact Nat.le_refl _ | (simp; done))
  have zO := rO.cells; have mO := rO.marks; have lO := rO.lt
  have lO1 := Nat.lt_succ_of_lt lO
  rw [Nat.succ_eq_add_one] at lO1
  clear rO h1 h2
  go_wp2
  refine bodyPost_ret (v := .tuple #[U q, .int .i64 k]) (by simp [results, Try.results16, go_sem, zO, lO, lO1]) rfl ⟨rfl, ?_⟩
  go_grown

set_option maxRecDepth 100000 in
set_option maxHeartbeats 2000000 in
theorem ceil_code (a b c p h q r : Nat) (k : Int) (hk : (k != 0) = true) (w : World)
    (cm : Hid (∀ w, Calls Try.prog 10 #[U a, U b] w fun e w' => e = .returned (.tuple #[U p, U h]) ∧ Below w.heap.size w w'))
    (cd : Hid (∀ w, Calls Try.prog 13 #[U p, U h, U c] w fun e w' => e = .returned (.tuple #[U q, U r, .int .i64 k]) ∧ Below w.heap.size w w')) :
    Calls Try.prog 18 #[U a, U b, U c] w fun e w' => e = .returned (.tuple #[U q, .int .i64 k]) ∧ Below w.heap.size w w' := by
  have rA : Res (w.heap.size) 24 (arr a) ((((w.alloc (.cells (arr a) 24)).alloc (.cells (arr b) 24)).alloc (.cells (arr c) 24)).alloc (.cells #[.int .u64 0, .int .u64 0, .int .u64 0, .int .u64 0] 24)) := by
    have h := ((((Res.new w 24 (arr a)).alloc (.cells (arr b) 24)).alloc (.cells (arr c) 24)).alloc (.cells #[.int .u64 0, .int .u64 0, .int .u64 0, .int .u64 0] 24))
    exact h
  have rB : Res (w.heap.size + 1) 24 (arr b) ((((w.alloc (.cells (arr a) 24)).alloc (.cells (arr b) 24)).alloc (.cells (arr c) 24)).alloc (.cells #[.int .u64 0, .int .u64 0, .int .u64 0, .int .u64 0] 24)) := by
    have h := (((Res.new (w.alloc (.cells (arr a) 24)) 24 (arr b)).alloc (.cells (arr c) 24)).alloc (.cells #[.int .u64 0, .int .u64 0, .int .u64 0, .int .u64 0] 24))
    simp only [World.size_alloc] at h
    exact h
  have rC : Res (w.heap.size + 1 + 1) 24 (arr c) ((((w.alloc (.cells (arr a) 24)).alloc (.cells (arr b) 24)).alloc (.cells (arr c) 24)).alloc (.cells #[.int .u64 0, .int .u64 0, .int .u64 0, .int .u64 0] 24)) := by
    have h := ((Res.new ((w.alloc (.cells (arr a) 24)).alloc (.cells (arr b) 24)) 24 (arr c)).alloc (.cells #[.int .u64 0, .int .u64 0, .int .u64 0, .int .u64 0] 24))
    simp only [World.size_alloc] at h
    exact h
  have rO : Res (w.heap.size + 1 + 1 + 1) 24 #[.int .u64 0, .int .u64 0, .int .u64 0, .int .u64 0] ((((w.alloc (.cells (arr a) 24)).alloc (.cells (arr b) 24)).alloc (.cells (arr c) 24)).alloc (.cells #[.int .u64 0, .int .u64 0, .int .u64 0, .int .u64 0] 24)) := by
    have h := (Res.new (((w.alloc (.cells (arr a) 24)).alloc (.cells (arr b) 24)).alloc (.cells (arr c) 24)) 24 #[.int .u64 0, .int .u64 0, .int .u64 0, .int .u64 0])
    simp only [World.size_alloc] at h
    exact h
  have bb : Below w.heap.size w ((((w.alloc (.cells (arr a) 24)).alloc (.cells (arr b) 24)).alloc (.cells (arr c) 24)).alloc (.cells #[.int .u64 0, .int .u64 0, .int .u64 0, .int .u64 0] 24)) := by go_grown
  go_enter Try.func18, Try.ntmps18
  go_wp2_with fail
  with_reducible refine (cm.out _).mono ?_
  rintro e w1 ⟨rfl, h1⟩
  replace rC := ((rC.keep h1).alloc (.cells (arr p) 24)).alloc (.cells (arr h) 24)
  replace rO := ((rO.keep h1).alloc (.cells (arr p) 24)).alloc (.cells (arr h) 24)
  have rP := (Res.new w1 24 (arr p)).alloc (.cells (arr h) 24)
  have rH := Res.new (w1.alloc (.cells (arr p) 24)) 24 (arr h)
  rw [World.size_alloc] at rH
  replace bb := chain bb h1
  have sz1 := bb.size
  replace bb := (bb.alloc bb.size (.cells (arr p) 24)).alloc (by rw [World.size_alloc]; omega) (.cells (arr h) 24)
  clear rA rB
  have zC := rC.cells; have lC := rC.lt
  have zP := rP.cells; have lP := rP.lt
  have zH := rH.cells; have lH := rH.lt
  go_wp2_with fail
  with_reducible refine (cd.out _).mono ?_
  rintro e w2 ⟨rfl, h2⟩
  clear zC lC zP lP zH lH rC rP rH
  replace rO := rO.keep h2
  replace bb := chain bb h2 (by first | exact Nat.le_refl _ | (simp; done))
  have zO := rO.cells; have mO := rO.marks; have lO := rO.lt
  have lO1 := Nat.lt_succ_of_lt lO
  rw [Nat.succ_eq_add_one] at lO1
  clear rO h1 h2
  go_wp2
  refine bodyPost_ret (v := .tuple #[U q, .int .i64 k]) (by simp [results, Try.results18, go_sem, zO, lO, lO1]) rfl ⟨rfl, ?_⟩
  go_grown

set_option maxRecDepth 100000 in
set_option maxHeartbeats 2000000 in
theorem mceil_zero (a b c p h q r : Nat) (k : Int) (hk : (k != 0) = false) (E : ∀ w, (Op.equalIn 10000 24 (U r) (.agg #[.int .u64 0, .int .u64 0, .int .u64 0, .int .u64 0])).run Try.prog w = .ok true w) (w : World)
    (cm : Hid (∀ w, Calls Try.prog 10 #[U a, U b] w fun e w' => e = .returned (.tuple #[U p, U h]) ∧ Below w.heap.size w w'))
    (cd : Hid (∀ w, Calls Try.prog 13 #[U p, U h, U c] w fun e w' => e = .returned (.tuple #[U q, U r, .int .i64 k]) ∧ Below w.heap.size w w')) :
    Calls Try.prog 18 #[U a, U b, U c] w fun e w' => e = .returned (.tuple #[U q, .int .i64 k]) ∧ Below w.heap.size w w' := by
  have rA : Res (w.heap.size) 24 (arr a) ((((w.alloc (.cells (arr a) 24)).alloc (.cells (arr b) 24)).alloc (.cells (arr c) 24)).alloc (.cells #[.int .u64 0, .int .u64 0, .int .u64 0, .int .u64 0] 24)) := by
    have h := ((((Res.new w 24 (arr a)).alloc (.cells (arr b) 24)).alloc (.cells (arr c) 24)).alloc (.cells #[.int .u64 0, .int .u64 0, .int .u64 0, .int .u64 0] 24))
    exact h
  have rB : Res (w.heap.size + 1) 24 (arr b) ((((w.alloc (.cells (arr a) 24)).alloc (.cells (arr b) 24)).alloc (.cells (arr c) 24)).alloc (.cells #[.int .u64 0, .int .u64 0, .int .u64 0, .int .u64 0] 24)) := by
    have h := (((Res.new (w.alloc (.cells (arr a) 24)) 24 (arr b)).alloc (.cells (arr c) 24)).alloc (.cells #[.int .u64 0, .int .u64 0, .int .u64 0, .int .u64 0] 24))
    simp only [World.size_alloc] at h
    exact h
  have rC : Res (w.heap.size + 1 + 1) 24 (arr c) ((((w.alloc (.cells (arr a) 24)).alloc (.cells (arr b) 24)).alloc (.cells (arr c) 24)).alloc (.cells #[.int .u64 0, .int .u64 0, .int .u64 0, .int .u64 0] 24)) := by
    have h := ((Res.new ((w.alloc (.cells (arr a) 24)).alloc (.cells (arr b) 24)) 24 (arr c)).alloc (.cells #[.int .u64 0, .int .u64 0, .int .u64 0, .int .u64 0] 24))
    simp only [World.size_alloc] at h
    exact h
  have rO : Res (w.heap.size + 1 + 1 + 1) 24 #[.int .u64 0, .int .u64 0, .int .u64 0, .int .u64 0] ((((w.alloc (.cells (arr a) 24)).alloc (.cells (arr b) 24)).alloc (.cells (arr c) 24)).alloc (.cells #[.int .u64 0, .int .u64 0, .int .u64 0, .int .u64 0] 24)) := by
    have h := (Res.new (((w.alloc (.cells (arr a) 24)).alloc (.cells (arr b) 24)).alloc (.cells (arr c) 24)) 24 #[.int .u64 0, .int .u64 0, .int .u64 0, .int .u64 0])
    simp only [World.size_alloc] at h
    exact h
  have bb : Below w.heap.size w ((((w.alloc (.cells (arr a) 24)).alloc (.cells (arr b) 24)).alloc (.cells (arr c) 24)).alloc (.cells #[.int .u64 0, .int .u64 0, .int .u64 0, .int .u64 0] 24)) := by go_grown
  go_enter Try.func18, Try.ntmps18
  go_wp2_with fail
  with_reducible refine (cm.out _).mono ?_
  rintro e w1 ⟨rfl, h1⟩
  replace rC := ((rC.keep h1).alloc (.cells (arr p) 24)).alloc (.cells (arr h) 24)
  replace rO := ((rO.keep h1).alloc (.cells (arr p) 24)).alloc (.cells (arr h) 24)
  have rP := (Res.new w1 24 (arr p)).alloc (.cells (arr h) 24)
  have rH := Res.new (w1.alloc (.cells (arr p) 24)) 24 (arr h)
  rw [World.size_alloc] at rH
  replace bb := chain bb h1
  have sz1 := bb.size
  replace bb := (bb.alloc bb.size (.cells (arr p) 24)).alloc (by rw [World.size_alloc]; omega) (.cells (arr h) 24)
  clear rA rB
  have zC := rC.cells; have lC := rC.lt
  have zP := rP.cells; have lP := rP.lt
  have zH := rH.cells; have lH := rH.lt
  go_wp2_with fail
  with_reducible refine (cd.out _).mono ?_
  rintro e w2 ⟨rfl, h2⟩
  clear zC lC zP lP zH lH rC rP rH
  replace rO := rO.keep h2
  replace bb := chain bb h2 (by first | exact Nat.le_refl _ | (simp; done))
  have zO := rO.cells; have mO := rO.marks; have lO := rO.lt
  have lO1 := Nat.lt_succ_of_lt lO
  rw [Nat.succ_eq_add_one] at lO1
  clear rO h1 h2
  go_wp2
  refine bodyPost_ret (v := .tuple #[U q, .int .i64 k]) (by simp [results, Try.results18, go_sem, zO, lO, lO1]) rfl ⟨rfl, ?_⟩
  go_grown

set_option maxRecDepth 100000 in
set_option maxHeartbeats 2000000 in
theorem ceil_add (a b c p h q r x : Nat) (k y : Int) (hk : (k != 0) = false) (E : ∀ w, (Op.equalIn 10000 24 (U r) (.agg #[.int .u64 0, .int .u64 0, .int .u64 0, .int .u64 0])).run Try.prog w = .ok false w) (w : World)
    (cm : Hid (∀ w, Calls Try.prog 10 #[U a, U b] w fun e w' => e = .returned (.tuple #[U p, U h]) ∧ Below w.heap.size w w'))
    (cd : Hid (∀ w, Calls Try.prog 13 #[U p, U h, U c] w fun e w' => e = .returned (.tuple #[U q, U r, .int .i64 k]) ∧ Below w.heap.size w w'))
    (cu : Hid (∀ w, Calls Try.prog 36 #[.int .u64 1] w fun e w' => e = .returned (U 1) ∧ Below w.heap.size w w'))
    (ca : Hid (∀ w, Calls Try.prog 21 #[U q, U 1] w fun e w' => e = .returned (.tuple #[U x, .int .i64 y]) ∧ Below w.heap.size w w')) :
    Calls Try.prog 18 #[U a, U b, U c] w fun e w' => e = .returned (.tuple #[U x, .int .i64 y]) ∧ Below w.heap.size w w' := by
  have rA : Res (w.heap.size) 24 (arr a) ((((w.alloc (.cells (arr a) 24)).alloc (.cells (arr b) 24)).alloc (.cells (arr c) 24)).alloc (.cells #[.int .u64 0, .int .u64 0, .int .u64 0, .int .u64 0] 24)) := by
    have h := ((((Res.new w 24 (arr a)).alloc (.cells (arr b) 24)).alloc (.cells (arr c) 24)).alloc (.cells #[.int .u64 0, .int .u64 0, .int .u64 0, .int .u64 0] 24))
    exact h
  have rB : Res (w.heap.size + 1) 24 (arr b) ((((w.alloc (.cells (arr a) 24)).alloc (.cells (arr b) 24)).alloc (.cells (arr c) 24)).alloc (.cells #[.int .u64 0, .int .u64 0, .int .u64 0, .int .u64 0] 24)) := by
    have h := (((Res.new (w.alloc (.cells (arr a) 24)) 24 (arr b)).alloc (.cells (arr c) 24)).alloc (.cells #[.int .u64 0, .int .u64 0, .int .u64 0, .int .u64 0] 24))
    simp only [World.size_alloc] at h
    exact h
  have rC : Res (w.heap.size + 1 + 1) 24 (arr c) ((((w.alloc (.cells (arr a) 24)).alloc (.cells (arr b) 24)).alloc (.cells (arr c) 24)).alloc (.cells #[.int .u64 0, .int .u64 0, .int .u64 0, .int .u64 0] 24)) := by
    have h := ((Res.new ((w.alloc (.cells (arr a) 24)).alloc (.cells (arr b) 24)) 24 (arr c)).alloc (.cells #[.int .u64 0, .int .u64 0, .int .u64 0, .int .u64 0] 24))
    simp only [World.size_alloc] at h
    exact h
  have rO : Res (w.heap.size + 1 + 1 + 1) 24 #[.int .u64 0, .int .u64 0, .int .u64 0, .int .u64 0] ((((w.alloc (.cells (arr a) 24)).alloc (.cells (arr b) 24)).alloc (.cells (arr c) 24)).alloc (.cells #[.int .u64 0, .int .u64 0, .int .u64 0, .int .u64 0] 24)) := by
    have h := (Res.new (((w.alloc (.cells (arr a) 24)).alloc (.cells (arr b) 24)).alloc (.cells (arr c) 24)) 24 #[.int .u64 0, .int .u64 0, .int .u64 0, .int .u64 0])
    simp only [World.size_alloc] at h
    exact h
  have bb : Below w.heap.size w ((((w.alloc (.cells (arr a) 24)).alloc (.cells (arr b) 24)).alloc (.cells (arr c) 24)).alloc (.cells #[.int .u64 0, .int .u64 0, .int .u64 0, .int .u64 0] 24)) := by go_grown
  go_enter Try.func18, Try.ntmps18
  go_wp2_with fail
  with_reducible refine (cm.out _).mono ?_
  rintro e w1 ⟨rfl, h1⟩
  replace rC := ((rC.keep h1).alloc (.cells (arr p) 24)).alloc (.cells (arr h) 24)
  replace rO := ((rO.keep h1).alloc (.cells (arr p) 24)).alloc (.cells (arr h) 24)
  have rP := (Res.new w1 24 (arr p)).alloc (.cells (arr h) 24)
  have rH := Res.new (w1.alloc (.cells (arr p) 24)) 24 (arr h)
  rw [World.size_alloc] at rH
  replace bb := chain bb h1
  have sz1 := bb.size
  replace bb := (bb.alloc bb.size (.cells (arr p) 24)).alloc (by rw [World.size_alloc]; omega) (.cells (arr h) 24)
  clear rA rB
  have zC := rC.cells; have lC := rC.lt
  have zP := rP.cells; have lP := rP.lt
  have zH := rH.cells; have lH := rH.lt
  go_wp2_with fail
  with_reducible refine (cd.out _).mono ?_
  rintro e w2 ⟨rfl, h2⟩
  clear zC lC zP lP zH lH rC rP rH
  have k1 := (rO.keep h2).lt
  replace rO := (rO.keep h2).alloc (.cells (arr q) 24)
  have rX := Res.new w2 24 (arr q)
  replace bb := chain bb h2 (by first | exact Nat.le_refl _ | (simp; done))
  have sz2 := bb.size
  replace bb := bb.alloc bb.size (.cells (arr q) 24)
  replace rO := rO.alloc (.cells (arr r) 24)
  replace rX := rX.alloc (.cells (arr r) 24)
  have rY := Res.new (w2.alloc (.cells (arr q) 24)) 24 (arr r)
  rw [World.size_alloc] at rY
  replace bb := bb.alloc (by rw [World.size_alloc]; omega) (.cells (arr r) 24)
  go_wp2
  generalize ((w2.alloc (.cells (arr q) 24)).alloc (.cells (arr r) 24)) = w3 at *
  generalize w2.heap.size = G at *
  have HX := Lib.hid rX; have HO := Lib.hid rO; have HB := Lib.hid bb
  have zX := rX.cells; have lX := rX.lt
  clear rO rX rY bb h1 h2
  go_region_with (first
    | (go_at_call 36; with_reducible refine (cu.out _).mono ?_; rintro e w4 ⟨rfl, hw4⟩; have rX4 := HX.out.drew.keep hw4; have rO4 := HO.out.drew.keep hw4; have zX4 := rX4.cells; have bb4 := chain HB.out.drew hw4; clear hw4)
    | (go_at_call 21; with_reducible refine (ca.out _).mono ?_; rintro e w5 ⟨rfl, hw5⟩; have rO5 := rO4.keep hw5; have zO5 := rO5.cells; have mO5 := rO5.marks; have bb5 := chain bb4 hw5; clear hw5 rX4 rO4 zX4 bb4))
  all_goals
    go_wp2
    refine bodyPost_ret (v := .tuple #[U x, .int .i64 y]) (by simp [results, Try.results18, go_sem, zO5]) rfl ⟨rfl, ?_⟩
    go_grown

theorem join_n (n : Nat) : n % B256 + n / B256 * B256 = n := by rw [Nat.mul_comm]; exact Nat.mod_add_div n B256
theorem hi_lt {a b : Nat} (ha : a < B256) (hb : b < B256) : a * b / B256 < B256 := Nat.div_lt_of_lt_mul (Nat.mul_lt_mul'' ha hb)
theorem lo_lt (n : Nat) : n % B256 < B256 := Nat.mod_lt _ B256_pos

theorem floor_any (a b c : Nat) (ha : a < B256) (hb : b < B256) (hc : c < B256) (w : World) :
    Calls Try.prog 16 #[U a, U b, U c] w fun e w' => e = .returned (.tuple #[U (quoR c (a * b / c)), .int .i64 (quoE c (a * b / c))]) ∧ Below w.heap.size w w' := by
  have h := d512_any (a * b % B256) (a * b / B256) c (lo_lt _) (hi_lt ha hb) hc
  rw [join_n] at h
  exact floor_core a b c _ _ _ _ _ w (mdmul_any a b ha hb) h

theorem ceil_any (a b c : Nat) (ha : a < B256) (hb : b < B256) (hc : c < B256) (w : World) :
    Calls Try.prog 18 #[U a, U b, U c] w fun e w' => e = .returned (.tuple #[U (quoR c (cdiv (a * b) c)), .int .i64 (quoE c (cdiv (a * b) c))]) ∧ Below w.heap.size w w' := by
  have h := d512_any (a * b % B256) (a * b / B256) c (lo_lt _) (hi_lt ha hb) hc
  rw [join_n] at h
  have hm := mdmul_any a b ha hb
  have hrb : remR c (a * b / c) (a * b % c) < B256 := remR_lt _ _ _ fun h0 => Nat.lt_trans (Nat.mod_lt _ (by omega)) hc
  have E : ∀ w, (Op.equalIn 10000 24 (U (remR c (a * b / c) (a * b % c))) (.agg #[.int .u64 0, .int .u64 0, .int .u64 0, .int .u64 0])).run Try.prog w = .ok (decide (remR c (a * b / c) (a * b % c) = 0)) w := fun w => by
    rw [← U_zero, eqU_run _ _ hrb B256_pos]
  by_cases hk : quoE c (a * b / c) = 0
  · have hc0 : c ≠ 0 := by intro e; unfold quoE at hk; rw [if_pos e] at hk; omega
    have hq : a * b / c < B256 := by
      rcases Nat.lt_or_ge (a * b / c) B256 with h1 | h1
      · exact h1
      · unfold quoE chkE at hk; rw [if_neg hc0, if_neg (by omega)] at hk; omega
    have hrm : remR c (a * b / c) (a * b % c) = a * b % c := by unfold remR; rw [if_neg hc0, if_pos hq]
    have hqr : quoR c (a * b / c) = a * b / c := by unfold quoR chkR; rw [if_neg hc0, if_pos hq]
    by_cases hr : a * b % c = 0
    · have hcd : cdiv (a * b) c = a * b / c := by unfold cdiv; rw [if_pos hr, Nat.add_zero]
      rw [hcd]
      rw [hrm, decide_eq_true hr] at E
      rw [hrm] at h
      exact mceil_zero a b c _ _ _ _ _ (by rw [hk]; rfl) E w hm h
    · have hcd : cdiv (a * b) c = a * b / c + 1 := by unfold cdiv; rw [if_neg hr]
      rw [hcd]
      rw [hrm, decide_eq_false hr] at E
      rw [hrm, hqr] at h
      have hA := add_any (a * b / c) 1 hq (by unfold B256; omega)
      have hx : quoR c (a * b / c + 1) = addR (a * b / c) 1 := by unfold quoR chkR addR; rw [if_neg hc0]
      have hy : quoE c (a * b / c + 1) = addE (a * b / c) 1 := by unfold quoE chkE addE; rw [if_neg hc0]
      rw [hx, hy]
      exact ceil_add a b c _ _ _ _ _ _ _ (by rw [hk]; rfl) E w hm h (fun w => u64_any 1 (by omega) w) hA
  · have hx : quoR c (cdiv (a * b) c) = quoR c (a * b / c) ∧ quoE c (cdiv (a * b) c) = quoE c (a * b / c) := by
      unfold quoR quoE chkR chkE at *
      by_cases hc0 : c = 0
      · rw [if_pos hc0, if_pos hc0, if_pos hc0, if_pos hc0]; exact ⟨rfl, rfl⟩
      · rw [if_neg hc0] at hk
        have hq : ¬ a * b / c < B256 := fun h1 => hk (if_pos h1)
        have hq2 : ¬ cdiv (a * b) c < B256 := by unfold cdiv; omega
        rw [if_neg hc0, if_neg hc0, if_neg hc0, if_neg hc0, if_neg hq, if_neg hq, if_neg hq2, if_neg hq2]; exact ⟨rfl, rfl⟩
    rw [hx.1, hx.2]
    exact ceil_code a b c _ _ _ _ _ (by simpa using hk) w hm h

end Go.Proofs.Ytahkgkcbcadnoaa
