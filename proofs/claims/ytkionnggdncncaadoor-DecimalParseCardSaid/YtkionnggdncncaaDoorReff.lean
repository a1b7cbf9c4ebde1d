/- Contract of the reference's Mul over this translation: the slice that it returns reads as the product of the two numbers; memory that was there is as it was. -/
import Derived.Test.YtkionnggdncncaaDoorRefe
namespace Go.Proofs.YtkionnggdncncaaDoor
open Go.RowKit

set_option maxRecDepth 100000 in
set_option maxHeartbeats 2000000 in
theorem rmul_core (A B : Option Addr) (a b c d : Nat) (w : World) (ha : nd a ≤ 1048576) (hb : nd b ≤ 1048576) (hA : At w A a) (hB : At w B b) :
    Calls Tryd.prog 32 #[.slice A (nd a) c, .slice B (nd b) d] w fun e w' => ∃ v, e = .returned v ∧ Big w' v (a * b) ∧ Fresh w v ∧ Below w.heap.size w w' := by
  have mk := mk_run (nd a + nd b) (by omega)
  rw [Int.natCast_add] at mk
  have HA := Lib.hid hA
  have HB := Lib.hid hB
  clear hA hB
  have hown0 : (w.alloc (.cells (madeCells #[.int .i64 0] (nd a + nd b)) 3)).ownsRow w.heap.size 3 1 (.slice (some ⟨w.heap.size, 0, none⟩) (nd a + nd b) (nd a + nd b)) (nd a + nd b) (rowOf (dig (mulP a b 0)) (nd a + nd b)) := by
    rw [← mulP_zero, ← made_row]
    exact World.ownsRow_lit w _ (nd a + nd b) (Nat.le_refl _) (by unfold maxLen; omega) (by rw [size_madeCells, Nat.mul_one])
  have HO := Lib.hid hown0
  clear hown0
  go_enter Tryd.func32, Tryd.ntmps32
  go_wp2
  go_loopw [6] (fun i wr => ∃ k : Nat, k ≤ nd a ∧ i = .int .i64 k ∧ wr.ownsRow w.heap.size 3 1 (.slice (some ⟨w.heap.size, 0, none⟩) (nd a + nd b) (nd a + nd b)) (nd a + nd b) (rowOf (dig (mulP a b k)) (nd a + nd b)) ∧ Below w.heap.size w wr) (fun i _ => nd a - (intOf i).toNat)
  case atStart => exact ⟨0, Nat.zero_le _, rfl, HO.out, (Below.refl _ _).alloc (Nat.le_refl _) _⟩
  case round =>
    obtain ⟨i, hi, rfl, hown, hnx⟩ := hrel
    by_cases ta : i < nd a
    · obtain ⟨g, rfl, hgB, hga⟩ := HA.out (by omega)
      have HCA := Lib.hid (hga i ta)
      have HO1 := Lib.hid (by rw [mulF_zero a b i] at hown; exact hown)
      clear hown hga HA HO
      go_wp2
      go_loopw [7, 8] (fun o k wr => ∃ j : Nat, j ≤ nd b ∧ k = .int .i64 j ∧ o = .int .i64 (ovr a b i j) ∧ wr.ownsRow w.heap.size 3 1 (.slice (some ⟨w.heap.size, 0, none⟩) (nd a + nd b) (nd a + nd b)) (nd a + nd b) (rowOf (mulF a b i j) (nd a + nd b)) ∧ Below w.heap.size w wr) (fun _ k _ => nd b - (intOf k).toNat)
      case atStart => exact ⟨0, Nat.zero_le _, rfl, by rw [ovr_zero], HO1.out, hnx⟩
      case round =>
        clear hnx
        obtain ⟨j, hj, rfl, rfl, hown, hnx⟩ := hrel
        by_cases tb : j < nd b
        · obtain ⟨g', rfl, hgB', hgb⟩ := HB.out (by omega)
          have ca := (hnx.cell (p := ⟨g, i, none⟩) hgB).trans HCA.out
          have cb := (hnx.cell (p := ⟨g', j, none⟩) hgB').trans (hgb j tb)
          have co := (hown.cellAt (i + j) (by omega)).trans (rowOf_get (by omega))
          rw [mulF_at] at co
          have hfz := hown.frozenAt (i + j)
          have R := (hown.stored (i + j) (.int .i64 (dig (mulX a b i (j + 1)) (i + j)))).1
          rw [mulF_set] at R
          have d1 := dig_nonneg (mulP a b i) (i + j)
          have d2 := dig_lt (mulP a b i) (i + j)
          obtain ⟨o1, o2⟩ := ovr_bounds a b i j
          obtain ⟨p1, p2⟩ := prod_bounds a b i j
          have e1 := mul_dig a b i j
          have e2 := mul_ovr a b i j
          have hand : bits BinOp.and IntKind.i64 (ovr a b i j + dig (mulP a b i) (i + j) + dig a i * dig b j) 65535 = dig (mulX a b i (j + 1)) (i + j) := (and16i _ (by omega) (by omega)).trans e1
          have i1 : (0 : Int) ≤ (i : Int) + (j : Int) := by omega
          have i2 : (i : Int) + (j : Int) < ((nd a + nd b : Nat) : Int) := by omega
          have i3 : ((i : Int) + (j : Int)).toNat = i + j := by omega
          clear e1 hown hgb HB HCA HO1
          go_wp2
          go_quiet (fail)
          go_wp2
          go_roundw
          case rel => exact ⟨j + 1, by omega, by go_num, rfl, R, (belowN hnx).setCell (by exact Nat.le_refl _) _⟩
          case measure => simp [intOf]; omega
        · obtain rfl : j = nd b := by omega
          have tb' : decide (nd b < nd b) = false := by simp
          have co := (hown.cellAt (i + nd b) (by omega)).trans (rowOf_get (by omega))
          have hfz := hown.frozenAt (i + nd b)
          have R := (hown.stored (i + nd b) (.int .i64 (ovr a b i (nd b)))).1
          rw [mulF_end] at R
          have i1 : (0 : Int) ≤ (i : Int) + (nd b : Int) := by omega
          have i2 : (i : Int) + (nd b : Int) < ((nd a + nd b : Nat) : Int) := by omega
          have i3 : ((i : Int) + (nd b : Int)).toNat = i + nd b := by omega
          clear hown HB HCA HO1
          go_wp2
          go_roundw
          case rel => exact ⟨i + 1, by omega, by go_num, R, hnx.setCell (by exact Nat.le_refl _) _⟩
          case measure => simp [intOf]; omega
    · obtain rfl : i = nd a := by omega
      have HR := Lib.hid (raw_of_own (by rw [digs_row, ← mulP_all]; exact hown : wr.ownsRow w.heap.size 3 1 _ (nd a + nd b) (digs (a * b) (nd a + nd b))) (mul_fits a b) (by omega))
      have tk : decide (nd a < nd a) = false := by simp
      clear HA HB hown
      go_wp2_with (go_at_call 43; refine (norm_own _ (a * b) (nd a + nd b) _ HR.out).mono ?_; rintro e w2 ⟨v, rfl, hbig, ho, rfl⟩)
      go_ret
      exact ⟨v, rfl, hbig, fun b h => by rw [ho] at h; simp [Value.ownBlock] at h; omega, hnx⟩

theorem rmul_new (u v : Value) (a b : Nat) (w : World) (hu : Big w u a) (hv : Big w v b) (ha : nd a ≤ 1048576) (hb : nd b ≤ 1048576) :
    Calls Tryd.prog 32 #[u, v] w fun e w' => ∃ r, e = .returned r ∧ Big w' r (a * b) ∧ Fresh w r ∧ Below w.heap.size w w' := by
  obtain ⟨A, c, rfl, h1, h2, h3, h4⟩ := hu
  obtain ⟨B, d, rfl, k1, k2, k3, k4⟩ := hv
  exact rmul_core A B a b c d w ha hb h4 k4
theorem rmul_any (u v : Value) (a b : Nat) (w : World) (hu : Big w u a) (hv : Big w v b) (ha : nd a ≤ 1048576) (hb : nd b ≤ 1048576) :
    Calls Tryd.prog 32 #[u, v] w fun e w' => ∃ r, e = .returned r ∧ Big w' r (a * b) ∧ Below w.heap.size w w' := by
  exact (rmul_new u v a b w hu hv ha hb).mono fun _ _ ⟨v, h1, h2, _, h3⟩ => ⟨v, h1, h2, h3⟩

end Go.Proofs.YtkionnggdncncaaDoor

