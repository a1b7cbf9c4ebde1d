/- Contracts of the saturating operations and of the reference's Max256 over this translation: the sum, the difference and the product, or the nearest number. They hold where the package's variable for the largest number holds the largest number. Memory that was there is as it was. -/
import Derived.Test.YtkibbcomfjhgpaaDoorMu
namespace Go.Proofs.YtkibbcomfjhgpaaDoor
open Go.RowKit

/-- 2^256 - 1. -/
def M256 : Nat := 115792089237316195423570985008687907853269984665640564039457584007913129639935
theorem M256_lt : M256 < B256 := by unfold M256 B256; omega
theorem U_max : U M256 = .agg #[.int .u64 18446744073709551615, .int .u64 18446744073709551615, .int .u64 18446744073709551615, .int .u64 18446744073709551615] := by
  obtain ⟨y0, y1, y2, y3⟩ := limb_of (n := M256) (x0 := 18446744073709551615) (x1 := 18446744073709551615) (x2 := 18446744073709551615) (x3 := 18446744073709551615) (by omega) (by omega) (by omega) (by omega) (by omega) (by omega) (by omega) (by omega) (by unfold M256; omega)
  rw [U, ← y0, ← y1, ← y2, ← y3]
/-- The package's variable holds the largest number. -/
def Lg (w : World) : Prop := ∀ k, w.cell? ⟨0, k, none⟩ = (arr M256)[k]?
theorem Lg.lt {w : World} (h : Lg w) : 0 < w.heap.size := World.block_lt_of_cell? w ⟨0, 0, none⟩ (h 0)
theorem Lg.below {w w' : World} (h : Lg w) (hb : Below w.heap.size w w') : Lg w' := fun k => (hb.cell (p := ⟨0, k, none⟩) h.lt).trans (h k)
theorem Lg.alloc {w : World} (h : Lg w) (o : Obj) : Lg (w.alloc o) := fun k => (World.cell?_alloc_past _ _ _ h.lt).trans (h k)
theorem Lg.allocs {w : World} (h : Lg w) {o1 o2 o3 : Obj} : Lg (((w.alloc o1).alloc o2).alloc o3) := ((h.alloc o1).alloc o2).alloc o3
theorem Lg.cells {w : World} (h : Lg w) : ∀ k, w.cell? ⟨0, k, none⟩ = (arr M256)[k]? := h
theorem Lg.drew {w : World} (h : Lg w) : Lg w.drew := h
theorem Lg.lt2 {w w2 : World} {o1 o2 o3 : Obj} (h : Lg w) (hb : Below (((w.alloc o1).alloc o2).alloc o3).heap.size (((w.alloc o1).alloc o2).alloc o3) w2) : 0 < w2.heap.size := (h.allocs.below hb).lt

theorem satadd_ok (a b r : Nat) (c : Int) (w : World) (hc : (c != 0) = false)
    (C : ∀ w, Calls Tryd.prog 51 #[U a, U b] w fun e w' => e = .returned (.tuple #[U r, .int .i64 c]) ∧ Below w.heap.size w w') :
    Calls Tryd.prog 55 #[U a, U b] w fun e w' => e = .returned (U r) ∧ Below w.heap.size w w' := by
  have HC := Lib.hid C
  clear C
  go_enter Tryd.func55, Tryd.ntmps55
  go_wp2_with (go_at_call 51; refine (HC.out _).mono ?_; rintro e w2 ⟨rfl, hw⟩; obtain ⟨hk, hm, hs⟩ := keepNew hw; simp only [World.size_alloc] at hk hm hs; have hs1 := Nat.lt_succ_of_lt hs; rw [Nat.succ_eq_add_one] at hs1)
  have hb0 : Below w.heap.size w w2 := Below.trans (by go_grown) (hw.mono (by simp; omega))
  refine bodyPost_ret (v := U r) (by simp [results, Tryd.results55, go_sem, hs, hk]) rfl ⟨rfl, ?_⟩
  go_grown

theorem satadd_over (a b r : Nat) (c : Int) (w : World) (hc : (c != 0) = true) (hL : Lg w)
    (C : ∀ w, Calls Tryd.prog 51 #[U a, U b] w fun e w' => e = .returned (.tuple #[U r, .int .i64 c]) ∧ Below w.heap.size w w') :
    Calls Tryd.prog 55 #[U a, U b] w fun e w' => e = .returned (U M256) ∧ Below w.heap.size w w' := by
  have HC := Lib.hid C
  clear C
  go_enter Tryd.func55, Tryd.ntmps55
  go_wp2_with (go_at_call 51; refine (HC.out _).mono ?_; rintro e w2 ⟨rfl, hw⟩; obtain ⟨hk, hm, hs⟩ := keepNew hw; simp only [World.size_alloc] at hk hm hs; have hs1 := Nat.lt_succ_of_lt hs; rw [Nat.succ_eq_add_one] at hs1; have g2 := (hL.allocs.below hw).cells; have g0 := hL.lt2 hw)
  have hb0 : Below w.heap.size w w2 := Below.trans (by go_grown) (hw.mono (by simp; omega))
  refine bodyPost_ret (v := U M256) (by simp [results, Tryd.results55, go_sem, hs, hk]) rfl ⟨rfl, ?_⟩
  go_grown

/-- What the saturating operations return. -/
def satA (a b : Nat) : Nat := if a + b < B256 then a + b else M256
def satM (a b : Nat) : Nat := if a * b < B256 then a * b else M256
theorem satA_lt (a b : Nat) : satA a b < B256 := by unfold satA; split <;> first | assumption | exact M256_lt
theorem satM_lt (a b : Nat) : satM a b < B256 := by unfold satM; split <;> first | assumption | exact M256_lt
theorem satadd_any (a b : Nat) (ha : a < B256) (hb : b < B256) (w : World) (hL : Lg w) :
    Calls Tryd.prog 55 #[U a, U b] w fun e w' => e = .returned (U (satA a b)) ∧ Below w.heap.size w w' := by
  have C := add_any a b ha hb
  by_cases h : a + b < B256
  · rw [show satA a b = addR a b from (if_pos h).trans (if_pos h).symm]
    exact satadd_ok a b _ _ w (by rw [show addE a b = 0 from if_pos h]; rfl) C
  · rw [show satA a b = M256 from if_neg h]
    exact satadd_over a b _ _ w (by rw [show addE a b = 4 from if_neg h]; rfl) hL C
end Go.Proofs.YtkibbcomfjhgpaaDoor

