/- Contract of the reference's Join over this translation: a number of two halves as a slice of digits; memory that was there is as it was. -/
import Derived.Test.YtahkgkcbcadnoaaRefm
namespace Go.Proofs.Ytahkgkcbcadnoaa
open Go.RowKit

theorem dig_join_low (l h i : Nat) (hi : i < 16) : dig (l + h * B256) i = dig l i := by
  unfold dig
  have e : h * B256 = 65536 ^ i * (65536 * (h * 65536 ^ (15 - i))) := by
    rw [show B256 = 65536 ^ i * (65536 * 65536 ^ (15 - i)) from by
      rw [← Nat.pow_succ', ← Nat.pow_add, show i + (15 - i).succ = 16 from by omega]; rfl]
    grind
  rw [e, Nat.add_mul_div_left _ _ (pow_pos16 i)]
  omega
theorem dig_join_high (l h i : Nat) (hl : l < B256) : dig (l + h * B256) (16 + i) = dig h i := by
  rw [← dig_shift, show (65536 : Nat) ^ 16 = B256 from rfl, Nat.add_mul_div_right _ _ (by decide), Nat.div_eq_of_lt hl, Nat.zero_add]
theorem nd_join (l h : Nat) (hl : l < B256) (h0 : 0 < nd h) : nd (l + h * B256) = 16 + nd h := by
  have e1 : nd (l + h * B256) ≤ 16 + nd h := nd_le.2 (by
    have := nd_lt h
    rw [Nat.pow_add, show (65536 : Nat) ^ 16 = B256 from rfl]
    have : (h + 1) * B256 ≤ 65536 ^ nd h * B256 := Nat.mul_le_mul_right _ this
    rw [Nat.mul_comm B256, Nat.add_mul] at *
    omega)
  have e2 : ¬ nd (l + h * B256) ≤ 16 + nd h - 1 := fun h' => by
    have k := nd_le.1 h'
    have k2 : h < 65536 ^ (nd h - 1) := by
      have : h * B256 < 65536 ^ (nd h - 1) * B256 := by
        rw [show 16 + nd h - 1 = (nd h - 1) + 16 from by omega, Nat.pow_add, show (65536 : Nat) ^ 16 = B256 from rfl] at k
        omega
      exact Nat.lt_of_mul_lt_mul_right this
    have := nd_le.2 k2
    omega
  omega
/-- The row as far as it is written. -/
def joinF (n k : Nat) : Nat → Int := fun j => if j < k then dig n j else 0
theorem joinF_zero (n L : Nat) : rowA (fun _ => 0) L = rowA (joinF n 0) L := rowA_congr fun j _ => by simp [joinF]
theorem joinF_set (n k L : Nat) : (rowA (joinF n k) L).setIfInBounds k (.int .i64 (dig n k)) = rowA (joinF n (k + 1)) L :=
  rowA_set (by simp [joinF]) fun i _ hi => by
    unfold joinF
    by_cases h : i < k
    · rw [if_pos h, if_pos (by omega)]
    · rw [if_neg h, if_neg (by omega)]
theorem joinF_skip (n k L : Nat) (h0 : dig n k = 0) : rowA (joinF n k) L = rowA (joinF n (k + 1)) L := rowA_congr fun i _ => by
  unfold joinF
  by_cases h : i < k
  · rw [if_pos h, if_pos (by omega)]
  · by_cases h' : i = k
    · subst h'; rw [if_neg h, if_pos (by omega), h0]
    · rw [if_neg h, if_neg (by omega)]
theorem joinF_all (n L : Nat) : rowA (joinF n L) L = rowA (dig n) L := rowA_congr fun j hj => by simp [joinF, hj]

set_option maxHeartbeats 1000000 in
theorem join_zero (l : Nat) (hl : l < B256) (w : World) :
    Calls Try.prog 33 #[U l, U 0] w fun e w' => ∃ v, e = .returned v ∧ Big w' v l ∧ Below w.heap.size w w' := by
  have r0 : Res w.heap.size 24 (arr l) ((w.alloc (.cells (arr l) 24)).alloc (.cells (arr 0) 24)) := (Res.new w 24 (arr l)).alloc _
  have b0 : Below w.heap.size w ((w.alloc (.cells (arr l) 24)).alloc (.cells (arr 0) 24)) := by go_grown
  go_enter Try.func33, Try.ntmps33
  go_wp2_with fail
  refine (from_any 0 (by decide) _).mono ?_
  rintro e w1 ⟨v, rfl, hv, h1⟩
  obtain ⟨A, cap, rfl, a1, a2, a3, a4⟩ := hv
  have b1 := chain b0 h1
  have r1 := r0.keep h1
  have z1 := r1.cells
  rw [nd_zero]
  clear a1 a2 a3 a4
  go_wp2_with fail
  refine (from_any l hl _).mono ?_
  rintro e w2 ⟨v, rfl, hv, h2⟩
  go_wp2
  go_ret
  exact ⟨v, rfl, hv, chain b1 h2⟩

set_option maxRecDepth 100000 in
set_option maxHeartbeats 2000000 in
theorem join_pos (l h : Nat) (hl : l < B256) (hh : h < B256) (h0 : 0 < nd h) (w : World) :
    Calls Try.prog 33 #[U l, U h] w fun e w' => ∃ v, e = .returned v ∧ Big w' v (l + h * B256) ∧ Below w.heap.size w w' := by
  have r0 : Res w.heap.size 24 (arr l) ((w.alloc (.cells (arr l) 24)).alloc (.cells (arr h) 24)) := (Res.new w 24 (arr l)).alloc _
  have b0 : Below w.heap.size w ((w.alloc (.cells (arr l) 24)).alloc (.cells (arr h) 24)) := by go_grown
  have HN := Lib.hid (nd_join l h hl h0)
  have hnh := nd_16.2 hh
  have hnl := nd_16.2 hl
  have mk := mk_run (16 + nd h) (by omega)
  rw [Int.natCast_add, show ((16 : Nat) : Int) = 16 from rfl, made_rowA, joinF_zero (l + h * B256)] at mk
  have t0 : ((nd h : Int) == 0) = false := by simp; omega
  have DL := Lib.hid (fun i hi => dig_join_low l h i hi)
  have DH := Lib.hid (fun i => dig_join_high l h i hl)
  go_enter Try.func33, Try.ntmps33
  go_wp2_with fail
  refine (from_any h hh _).mono ?_
  rintro e w1 ⟨v, rfl, hv, h1⟩
  have HB := Lib.hid hv
  obtain ⟨A, cap, rfl, a1, a2, a3, a4⟩ := hv
  have b1 := chain b0 h1
  have r1 := r0.keep h1
  have z1 := r1.cells
  clear a1 a2 a3 a4
  go_wp2_with fail
  refine (from_any l hl _).mono ?_
  rintro e w2 ⟨v, rfl, hv, h2⟩
  have HB2 := Lib.hid (HB.out.below h2)
  have HL := Lib.hid hv
  obtain ⟨C, dap, rfl, c1, c2, c3, c4⟩ := hv
  have b2 := chain b1 h2
  clear c1 c2 c3 c4 z1 r1 r0 h1 h2 HB b0 b1
  generalize hn : l + h * B256 = n at *
  go_wp2
  go_loopw [8] (fun i wr => ∃ k : Nat, k ≤ 16 + nd h ∧ i = .int .i64 k ∧ Res w2.heap.size 3 (rowA (joinF n k) (16 + nd h)) wr ∧ Below w2.heap.size w2 wr) (fun i _ => 16 + nd h - (intOf i).toNat)
  case atStart => exact ⟨0, by omega, rfl, Res.new _ _ _, (Below.refl _ _).alloc (Nat.le_refl _) _⟩
  case round =>
    obtain ⟨k, hk, rfl, rr, hnx⟩ := hrel
    by_cases tk : k < 16 + nd h
    · have co := (rr.cells k).trans (rowA_get tk)
      have hfz := rr.marks k
      have k1 : (0 : Int) ≤ (k : Int) := by omega
      have k2 : (k : Int) < ((16 + nd h : Nat) : Int) := by omega
      have k3 : (k : Int) < 16 + (nd h : Int) := by omega
      have S := rr.set1 k (.int .i64 (dig n k))
      rw [joinF_set] at S
      have HS := Lib.hid S
      have b3 := hnx.setCell (p := ⟨w2.heap.size, k, none⟩) (Nat.le_refl _) (.int .i64 (dig n k))
      have HB3 := Lib.hid b3
      clear S b3 mk
      by_cases t16 : 16 ≤ k
      · have tl : decide (k < nd l) = false := by simp; omega
        have u16 : (16 : Int) ≤ (k : Int) := by omega
        obtain ⟨_, _, e, _, _, _, q4⟩ := HB2.out
        obtain ⟨rfl, rfl⟩ := (by simpa using e : _ ∧ _)
        obtain ⟨g, rfl, hg, hc⟩ := q4 h0
        have ch := (hnx.cell (p := ⟨g, k - 16, none⟩) hg).trans (hc (k - 16) (by omega))
        have e3 := DH.out (k - 16)
        rw [show 16 + (k - 16) = k from by omega] at e3
        rw [← e3] at ch
        clear rr q4 hc e3 HL HB2 hn DL DH HN
        generalize dig n k = D at *
        go_wp2
        go_roundw
        case rel => exact ⟨k + 1, by omega, by go_num, HS.out, HB3.out⟩
        case measure => simp [intOf]; omega
      · have u16 : decide (16 ≤ k) = false := by simp; omega
        have u16' : decide (16 ≤ (k : Int)) = false := by simp; omega
        have e3 := DL.out k (by omega)
        by_cases tl : k < nd l
        · have tl' : (k : Int) < (nd l : Int) := by omega
          obtain ⟨_, _, e, _, _, _, q4⟩ := HL.out
          obtain ⟨rfl, rfl⟩ := (by simpa using e : _ ∧ _)
          obtain ⟨g, rfl, hg, hc⟩ := q4 (by omega)
          have ch := (hnx.cell (p := ⟨g, k, none⟩) hg).trans (hc k tl)
          rw [← e3] at ch
          clear rr q4 hc e3 HL HB2 hn DL DH HN
          generalize dig n k = D at *
          go_wp2
          go_roundw
          case rel => exact ⟨k + 1, by omega, by go_num, HS.out, HB3.out⟩
          case measure => simp [intOf]; omega
        · have tl' : decide (k < nd l) = false := by simp; omega
          rw [dig_high (n := l) (k := k) (by omega)] at e3
          have HR := Lib.hid (by rw [joinF_skip n k _ e3] at rr; exact rr)
          clear rr e3 HL HB2 hn DL DH HN HS HB3
          go_wp2
          go_roundw
          case rel => exact ⟨k + 1, by omega, by go_num, HR.out, hnx⟩
          case measure => simp [intOf]; omega
    · obtain rfl : k = 16 + nd h := by omega
      have tk' : decide (16 + nd h < 16 + nd h) = false := by simp
      rw [joinF_all] at rr
      have HR := Lib.hid (raw_of_res rr (by rw [← HN.out]; exact nd_lt n) (by omega))
      clear rr HL HB2 DL DH mk
      go_wp2
      go_ret
      refine ⟨_, rfl, ?_, chain b2 hnx⟩
      rw [hn]
      unfold Big
      rw [HN.out]
      exact HR.out
theorem rjoin_any (l h : Nat) (hl : l < B256) (hh : h < B256) (w : World) :
    Calls Try.prog 33 #[U l, U h] w fun e w' => ∃ v, e = .returned v ∧ Big w' v (l + h * B256) ∧ Below w.heap.size w w' := by
  rcases Nat.eq_zero_or_pos h with rfl | h0
  · rw [Nat.zero_mul, Nat.add_zero]; exact join_zero l hl w
  · refine join_pos l h hl hh ?_ w
    rcases Nat.eq_zero_or_pos (nd h) with e | e
    · have := nd_lt h; rw [e] at this; omega
    · exact e
end Go.Proofs.Ytahkgkcbcadnoaa
