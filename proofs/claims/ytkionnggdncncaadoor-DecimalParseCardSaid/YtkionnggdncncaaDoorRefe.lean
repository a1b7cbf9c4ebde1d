/- Contract of the reference's Sub over this translation: the slice that it returns reads as the difference of the two numbers; memory that was there is as it was. -/
import Derived.Test.YtkionnggdncncaaDoorRefd
import Derived.Test.YtkionnggdncncaaDoorRow
import Derived.Laws.AppendOwn
namespace Go.Proofs.YtkionnggdncncaaDoor
open Go.RowKit

theorem mk_run (n : Nat) (hn : n ≤ 4294967296) (w : World) : (Instr.makeSlice 54 (.int .i64 (n : Int)) (.int .i64 (n : Int))).run Tryd.prog w = .ok (.slice (some ⟨w.heap.size, 0, none⟩) n n) (w.alloc (.cells (madeCells #[.int .i64 0] n) 3)) := by
  have hi : Tryd.prog.info? 3 = some Tryd.t3 := by kernel_rfl
  have h := run_make (P := Tryd.prog) w 54 3 Tryd.t3 (.int .i64 0) Tryd.underlying54 hi rfl .i64 .i64 n n (by omega) (Int.le_refl _) (by rw [show (Tryd.t3).bytes = 8 from rfl]; omega) (by omega)
  rw [h]
  simp only [Int.toNat_natCast, show (Tryd.t3).size = 1 from rfl, Nat.mul_one]
  rfl

set_option maxRecDepth 100000 in
set_option maxHeartbeats 2000000 in
theorem rsub_core (A B : Option Addr) (a b c d : Nat) (w : World) (ha : nd a ≤ 1048576) (hba : b ≤ a) (hA : At w A a) (hB : At w B b) :
    Calls Tryd.prog 63 #[.slice A (nd a) c, .slice B (nd b) d] w fun e w' => ∃ v, e = .returned v ∧ Big w' v (a - b) ∧ v.ownBlock = some w.heap.size ∧ Below w.heap.size w w' := by
  have mk := mk_run (nd a) (by omega)
  have HA := Lib.hid hA
  have HB := Lib.hid hB
  clear hA hB
  have hndb := nd_mono hba
  have hown0 : (w.alloc (.cells (madeCells #[.int .i64 0] (nd a)) 3)).ownsRow w.heap.size 3 1 (.slice (some ⟨w.heap.size, 0, none⟩) (nd a) (nd a)) (nd a) (rowOf (subF (a - b) 0) (nd a)) := by
    rw [← subF_zero, ← made_row]
    exact World.ownsRow_lit w _ (nd a) (Nat.le_refl _) (by unfold maxLen; omega) (by rw [size_madeCells, Nat.mul_one])
  have HO := Lib.hid hown0
  clear hown0
  go_enter Tryd.func63, Tryd.ntmps63
  go_wp2
  go_loopw [6, 7] (fun o i wr => ∃ k : Nat, k ≤ nd a ∧ i = .int .i64 k ∧ o = .int .i64 (bo a b k) ∧ wr.ownsRow w.heap.size 3 1 (.slice (some ⟨w.heap.size, 0, none⟩) (nd a) (nd a)) (nd a) (rowOf (subF (a - b) k) (nd a)) ∧ Below w.heap.size w wr) (fun _ i _ => nd a - (intOf i).toNat)
  case atStart => exact ⟨0, Nat.zero_le _, rfl, by rw [bo_zero], HO.out, (Below.refl _ _).alloc (Nat.le_refl _) _⟩
  case round =>
    obtain ⟨k, hk, rfl, rfl, hown, hnx⟩ := hrel
    by_cases ta : k < nd a
    · obtain ⟨g, rfl, hgB, hga⟩ := HA.out (by omega)
      have ca := (hnx.cell (p := ⟨g, k, none⟩) hgB).trans (hga k ta)
      have d1 := dig_nonneg a k
      have d2 := dig_lt a k
      obtain ⟨b1, b2⟩ := bo_bounds a b k
      have e1 := dig_sub a b k hba
      have e2 := bo_succ a b k
      have hcell := (hown.cellAt k (by omega)).trans (subF_get ta)
      have hfz := hown.frozenAt k
      have R := hown.stored k (.int .i64 (dig (a - b) k))
      rw [subF_set] at R
      obtain ⟨R1, _⟩ := R
      clear hown
      by_cases tb : k < nd b
      · by_cases hx : dig a k - bo a b k - dig b k < 0
        · skip
          obtain ⟨g', rfl, hgB', hgb⟩ := HB.out (by omega)
          have cb := (hnx.cell (p := ⟨g', k, none⟩) hgB').trans (hgb k tb)
          have d3 := dig_nonneg b k
          have d4 := dig_lt b k
          have hb1 : bo a b (k + 1) = 1 := by omega
          have hst : dig a k - bo a b k - dig b k + 65536 = dig (a - b) k := by omega
          have HST := Lib.hid hst
          have HB1 := Lib.hid hb1
          clear e1 e2 hst hb1 HA HB hga hgb
          go_wp2
          rw [HST.out]
          go_roundw
          case rel => exact ⟨k + 1, by omega, by go_num, by rw [HB1.out], R1, hnx.setCell (by exact Nat.le_refl _) _⟩
          case measure => simp [intOf]; omega
        · skip
          obtain ⟨g', rfl, hgB', hgb⟩ := HB.out (by omega)
          have cb := (hnx.cell (p := ⟨g', k, none⟩) hgB').trans (hgb k tb)
          have d3 := dig_nonneg b k
          have d4 := dig_lt b k
          have hb1 : bo a b (k + 1) = 0 := by omega
          have hst : dig a k - bo a b k - dig b k = dig (a - b) k := by omega
          have HST := Lib.hid hst
          have HB1 := Lib.hid hb1
          clear e1 e2 hst hb1 HA HB hga hgb
          go_wp2
          rw [HST.out]
          go_roundw
          case rel => exact ⟨k + 1, by omega, by go_num, by rw [HB1.out], R1, hnx.setCell (by exact Nat.le_refl _) _⟩
          case measure => simp [intOf]; omega
      · by_cases hx : dig a k - bo a b k - dig b k < 0
        · skip
          have tb' : decide (k < nd b) = false := by simp; omega
          have zb := dig_high (n := b) (k := k) (by omega)
          rw [zb, Int.sub_zero] at e1 e2 hx
          clear zb
          have hb1 : bo a b (k + 1) = 1 := by omega
          have hst : dig a k - bo a b k + 65536 = dig (a - b) k := by omega
          have HST := Lib.hid hst
          have HB1 := Lib.hid hb1
          clear e1 e2 hst hb1 HA HB hga
          go_wp2
          rw [HST.out]
          go_roundw
          case rel => exact ⟨k + 1, by omega, by go_num, by rw [HB1.out], R1, hnx.setCell (by exact Nat.le_refl _) _⟩
          case measure => simp [intOf]; omega
        · skip
          have tb' : decide (k < nd b) = false := by simp; omega
          have zb := dig_high (n := b) (k := k) (by omega)
          rw [zb, Int.sub_zero] at e1 e2 hx
          clear zb
          have hb1 : bo a b (k + 1) = 0 := by omega
          have hst : dig a k - bo a b k = dig (a - b) k := by omega
          have HST := Lib.hid hst
          have HB1 := Lib.hid hb1
          clear e1 e2 hst hb1 HA HB hga
          go_wp2
          rw [HST.out]
          go_roundw
          case rel => exact ⟨k + 1, by omega, by go_num, by rw [HB1.out], R1, hnx.setCell (by exact Nat.le_refl _) _⟩
          case measure => simp [intOf]; omega
    · obtain rfl : k = nd a := by omega
      have HR := Lib.hid (raw_of_own (by rw [← subF_all]; exact hown : wr.ownsRow w.heap.size 3 1 _ (nd a) (digs (a - b) (nd a))) (Nat.lt_of_le_of_lt (Nat.sub_le _ _) (nd_lt a)) (by omega))
      have tk : decide (nd a < nd a) = false := by simp
      clear HA HB hown
      go_wp2_with (go_at_call 43; refine (norm_own _ (a - b) (nd a) _ HR.out).mono ?_; rintro e w2 ⟨v, rfl, hbig, hown, rfl⟩)
      go_ret
      exact ⟨v, rfl, hbig, hown, hnx⟩

theorem rsub_any (u v : Value) (a b : Nat) (w : World) (hu : Big w u a) (hv : Big w v b) (ha : nd a ≤ 1048576) (hba : b ≤ a) :
    Calls Tryd.prog 63 #[u, v] w fun e w' => ∃ r, e = .returned r ∧ Big w' r (a - b) ∧ Below w.heap.size w w' := by
  obtain ⟨A, c, rfl, h1, h2, h3, h4⟩ := hu
  obtain ⟨B, d, rfl, k1, k2, k3, k4⟩ := hv
  exact (rsub_core A B a b c d w ha hba h4 k4).mono fun e w' h => by
    obtain ⟨r, h1, h2, _, h3⟩ := h
    exact ⟨r, h1, h2, h3⟩
/-- The same, and the result lies in a new block. -/
theorem rsub_new (u v : Value) (a b : Nat) (w : World) (hu : Big w u a) (hv : Big w v b) (ha : nd a ≤ 1048576) (hba : b ≤ a) :
    Calls Tryd.prog 63 #[u, v] w fun e w' => ∃ r, e = .returned r ∧ Big w' r (a - b) ∧ r.ownBlock = some w.heap.size ∧ Below w.heap.size w w' := by
  obtain ⟨A, c, rfl, h1, h2, h3, h4⟩ := hu
  obtain ⟨B, d, rfl, k1, k2, k3, k4⟩ := hv
  exact rsub_core A B a b c d w ha hba h4 k4

end Go.Proofs.YtkionnggdncncaaDoor

