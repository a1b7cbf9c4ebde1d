/- Contract of the reference's Div over this translation: quotient and remainder of two numbers, the divisor not zero; memory that was there is as it was. -/
import Derived.Test.YtkionnggdncncaaDoorRefj
import Derived.Test.YtkionnggdncncaaDoorRefc
namespace Go.Proofs.YtkionnggdncncaaDoor
open Go.RowKit

theorem div_one (u v : Value) (n m : Nat) (w : World) (hu : Big w u n) (hv : Big w v m) (hn : nd n ≤ 1048576) (hm : nd m = 1) :
    Calls Tryd.prog 42 #[u, v] w fun e w' => TwoBigN (n / m) (n % m) w e w' := by
  obtain ⟨B, c, rfl, h1, h2, h3, h4⟩ := hv
  obtain ⟨g, rfl, hg, hc⟩ := h4 (by omega)
  have c0 := hc 0 (by omega)
  have hlt : m < 65536 := by rw [hm] at h3; simpa using h3
  have e0 : dig m 0 = (m : Int) := by unfold dig; rw [Nat.pow_zero, Nat.div_one, Nat.mod_eq_of_lt hlt]
  have hpos : 0 < m := by
    rcases Nat.eq_zero_or_pos m with h | h
    · subst h; rw [nd_zero] at hm; omega
    · exact h
  rw [e0] at c0
  rw [hm]
  have C := Lib.hid (fun w' (hu : Big w' u n) => short_any u n m w' hu hn hpos hlt)
  have HU := Lib.hid hu
  clear hu hc h4 h3 e0 hm hlt
  go_enter Tryd.func42, Tryd.ntmps42
  go_wp2_with fail
  refine (C.out _ HU.out).mono ?_
  rintro e w' ⟨x, y, rfl, hx, hy, hb, f1, f2⟩
  go_wp2
  go_ret2
  exact ⟨x, y, rfl, hx, hy, hb, f1, f2⟩

theorem bit_of (n j c : Nat) (hc : c < 16) : bits BinOp.and IntKind.i64 (dig n j / 2 ^ c) 1 = ((n / 2 ^ (16 * j + c) % 2 : Nat) : Int) := by
  have e1 : dig n j / 2 ^ c = ((n / 65536 ^ j % 65536 / 2 ^ c : Nat) : Int) := by
    unfold dig; rw [Int.natCast_ediv, Int.natCast_pow]; rfl
  rw [e1]
  have e2 : n / 65536 ^ j % 65536 / 2 ^ c < 65536 := Nat.lt_of_le_of_lt (Nat.div_le_self _ _) (Nat.mod_lt _ (by omega))
  have e4 : n / 2 ^ (16 * j + c) = n / 65536 ^ j / 2 ^ c := by rw [Nat.pow_add, ← pow_16, Nat.div_div_eq_div_mul]
  rw [e4]
  generalize n / 65536 ^ j = y at *
  have t1 := Nat.testBit_mod_two_pow y 16 c
  rw [Nat.testBit_eq_decide_div_mod_eq, Nat.testBit_eq_decide_div_mod_eq, decide_eq_true hc, Bool.true_and, show (2 : Nat) ^ 16 = 65536 from rfl] at t1
  have t2 : y % 65536 / 2 ^ c % 2 = y / 2 ^ c % 2 := by
    have t3 : (y % 65536 / 2 ^ c % 2 = 1) ↔ (y / 2 ^ c % 2 = 1) := by simpa using t1
    generalize y % 65536 / 2 ^ c = p at *
    generalize y / 2 ^ c = q at *
    omega
  rw [← t2]
  generalize y % 65536 / 2 ^ c = z at *
  have a1 : (BitVec.ofInt 64 (z : Int)).toNat = z := by
    rw [BitVec.ofInt_natCast, BitVec.toNat_ofNat]; exact Nat.mod_eq_of_lt (by omega)
  have a2 : (BitVec.ofInt 64 1).toNat = 1 := rfl
  show IntKind.i64.wrap ((BitVec.ofInt 64 (z : Int) &&& BitVec.ofInt 64 1).toNat : Int) = _
  rw [BitVec.toNat_and, a1, a2, Nat.and_one_is_mod, IntKind.wrap_i64]
  omega

theorem bit_store (Q j x : Nat) (hx : x < 16) : wrap64 (dig (Q * 2 ^ (16 * j + x + 1)) j + wrap64 (2 ^ x)) = dig (Q * 2 ^ (16 * j + x + 1) + 2 ^ (16 * j + x)) j := by
  have f1 := dig_bit_at Q j x hx
  have f2 := dig_nonneg (Q * 2 ^ (16 * j + x + 1)) j
  have f3 := dig_lt (Q * 2 ^ (16 * j + x + 1) + 2 ^ (16 * j + x)) j
  rw [f1] at f3 ⊢
  rw [show (2 : Int) ^ x = ((2 ^ x : Nat) : Int) from by rw [Int.natCast_pow]; rfl]
  generalize dig (Q * 2 ^ (16 * j + x + 1)) j = A1 at *
  generalize 2 ^ x = A2 at *
  unfold wrap64
  omega
theorem dig_zero_row (L : Nat) : rowA (dig 0) L = rowA (fun _ => 0) L := rowA_congr fun j _ => by unfold dig; simp

set_option maxRecDepth 100000 in
set_option maxHeartbeats 8000000 in
theorem div_core (A B : Option Addr) (n m c d : Nat) (w : World) (hn : nd n ≤ 1048576) (hm : nd m ≤ 1048575) (hm2 : 2 ≤ nd m) (hA : At w A n) (hB : Big w (.slice B (nd m) d) m) :
    Calls Tryd.prog 42 #[.slice A (nd n) c, .slice B (nd m) d] w fun e w' => TwoBigN (n / m) (n % m) w e w' := by
  have mk1 := mk_run (nd n) (by omega)
  have mk2 := mk_run (nd m + 1) (by omega)
  rw [made_rowA] at mk1 mk2
  rw [Int.natCast_add, show ((1 : Nat) : Int) = 1 from rfl] at mk2
  have HA := Lib.hid hA
  have HB := Lib.hid hB
  clear hA hB
  have hmp : 0 < m := by
    rcases Nat.eq_zero_or_pos m with h | h
    · subst h; rw [nd_zero] at hm2; omega
    · exact h
  have h1 : ((nd m : Int) == 1) = false := by simp; omega
  have top := rm_top (n := n) (m := m) (t := 16 * nd n) (by rw [← pow_16]; exact nd_lt n)
  have HT1 := Lib.hid top.1
  have HT2 := Lib.hid top.2
  clear top
  go_enter Tryd.func42, Tryd.ntmps42
  go_wp2
  go_loopw [8] (fun i wr => ∃ k : Nat, k ≤ nd n ∧ i = .int .i64 ((k : Int) - 1) ∧ Res w.heap.size 3 (rowA (dig (Vm n m (16 * k))) (nd n)) wr ∧ Res (w.heap.size + 1) 3 (rowA (dig (Rm n m (16 * k))) (nd m + 1)) wr ∧ Below w.heap.size w wr) (fun i _ => (intOf i + 1).toNat)
  case atStart =>
    refine ⟨nd n, Nat.le_refl _, rfl, ?_, ?_, ?_⟩
    · rw [HT2.out, dig_zero_row]
      exact (Res.new _ _ _).alloc _
    · rw [HT1.out, dig_zero_row]
      have := Res.new (w.alloc (.cells (rowA (fun _ => 0) (nd n)) 3)) 3 (rowA (fun _ => 0) (nd m + 1))
      rw [World.size_alloc] at this
      exact this
    · exact ((Below.refl _ _).alloc (Nat.le_refl _) _).alloc (by simp) _
  case round =>
    obtain ⟨k, hk, rfl, rq, rr, hnx⟩ := hrel
    rcases k with _ | j
    · rw [show 16 * 0 = 0 from rfl] at rq rr
      have E := rm_end n m
      rw [E.1] at rr
      rw [E.2] at rq
      have hlt := Nat.mod_lt n hmp
      have HQ := Lib.hid (raw_of_res rq (Nat.lt_of_le_of_lt (Nat.div_le_self _ _) (nd_lt n)) (by omega))
      have HR := Lib.hid (raw_of_res rr (by have := nd_lt m; rw [Nat.pow_succ]; omega) (by omega))
      clear rq rr E HA HB HT1 HT2
      go_wp2_with fail
      refine (norm_own _ (n / m) (nd n) _ HQ.out).mono ?_
      rintro e w2 ⟨u, rfl, hu, ho1, rfl⟩
      have HO1 := Lib.hid ho1
      clear ho1
      go_wp2_with fail
      refine (norm_own _ (n % m) (nd m + 1) _ HR.out).mono ?_
      rintro e w3 ⟨v, rfl, hv, ho2, rfl⟩
      have HO2 := Lib.hid ho2
      clear ho2
      go_wp2
      go_ret2
      exact ⟨u, v, rfl, hu, hv, hnx, fun b h => by rw [HO1.out] at h; simp [Value.ownBlock] at h; omega, fun b h => by rw [HO2.out] at h; simp [Value.ownBlock] at h; omega⟩
    · have hi : ((j + 1 : Nat) : Int) - 1 = (j : Int) := by omega
      rw [hi]
      obtain ⟨g, rfl, hgB, hga⟩ := HA.out (by omega)
      have HCA := Lib.hid (hga j (by omega))
      have Rq := Lib.hid rq
      have Rr := Lib.hid rr
      clear rq rr hga HA
      have i1 : (0 : Int) ≤ (j : Int) := by omega
      have i2 : (j : Int) < (nd n : Int) := by omega
      go_wp2
      go_loopw [9] (fun i wr => ∃ b : Nat, b ≤ 16 ∧ i = .int .i64 ((b : Int) - 1) ∧ Res w.heap.size 3 (rowA (dig (Vm n m (16 * j + b))) (nd n)) wr ∧ Res (w.heap.size + 1) 3 (rowA (dig (Rm n m (16 * j + b))) (nd m + 1)) wr ∧ Below w.heap.size w wr) (fun i _ => (intOf i + 1).toNat)
      case atStart => exact ⟨16, by omega, rfl, Rq.out, Rr.out, hnx⟩
      case round =>
        clear hnx Rq Rr
        obtain ⟨b, hb, rfl, rq, rr, hnx⟩ := hrel
        rcases b with _ | x
        · have Rq := Lib.hid rq
          have Rr := Lib.hid rr
          clear rq rr
          go_wp2
          go_roundw
          case rel => exact ⟨j, by omega, by go_num, Rq.out, Rr.out, hnx⟩
          case measure => simp [intOf]
        · have hi2 : ((x + 1 : Nat) : Int) - 1 = (x : Int) := by omega
          rw [hi2]
          have hx : x < 16 := by omega
          have hbit := bit_of n j x hx
          have ca := (hnx.cell (p := ⟨g, j, none⟩) hgB).trans HCA.out
          have hy : n / 2 ^ (16 * j + x) % 2 ≤ 1 := by omega
          have SM := Lib.hid (rm_small n m (16 * j + x) hmp)
          have LG := Lib.hid (rm_large n m (16 * j + x) hmp)
          have hRlt := rm_lt n m (16 * j + x + 1) hmp
          have HV : Hid (∃ Q, Vm n m (16 * j + x + 1) = Q * 2 ^ (16 * j + x + 1)) := ⟨_, rfl⟩
          rw [show 16 * j + (x + 1) = 16 * j + x + 1 from rfl] at rq rr
          generalize n / 2 ^ (16 * j + x) % 2 = y at *
          generalize hR : Rm n m (16 * j + x + 1) = R at *
          generalize hV : Vm n m (16 * j + x + 1) = V at *
          clear hR hV
          have hfit : 2 * R + y < 65536 ^ (nd m + 1) := by
            have := nd_lt m
            rw [Nat.pow_succ]; omega
          have HFit := Lib.hid hfit
          have Rq := Lib.hid rq
          have Rr := Lib.hid (by rw [dblF_zero R y] at rr; exact rr)
          have x1 : (0 : Int) ≤ (x : Int) := by omega
          have x2 : (x : Int) < 16 := by omega
          clear hfit rq rr hi hi2
          go_wp2
          go_loopw [10, 11] (fun o k wr => ∃ z : Nat, z ≤ nd m + 1 ∧ k = .int .i64 z ∧ o = .int .i64 (dbl R y z) ∧ Res (w.heap.size) 3 (rowA (dig V) (nd n)) wr ∧ Res (w.heap.size + 1) 3 (rowA (dblF R y z) (nd m + 1)) wr ∧ Below w.heap.size w wr) (fun _ k _ => nd m + 1 - (intOf k).toNat)
          case atStart => exact ⟨0, by omega, rfl, by rw [dbl_zero], Rq.out, Rr.out, hnx⟩
          case round =>
            clear hnx Rq Rr ca
            obtain ⟨z, hz, rfl, rfl, rq, rr, hnx⟩ := hrel
            by_cases tz : z < nd m + 1
            · have co := (rr.cells z).trans (rowA_get tz)
              rw [dblF_at] at co
              have hfz := rr.marks z
              have S := rr.set1 z (.int .i64 (dig (2 * R + y) z))
              rw [dblF_set] at S
              have S1 := Lib.hid S
              have S2 := Lib.hid (rq.far1 z (.int .i64 (dig (2 * R + y) z)) (by omega : w.heap.size ≠ w.heap.size + 1))
              have d1 := dig_nonneg R z
              have d2 := dig_lt R z
              obtain ⟨l1, l2⟩ := dbl_bounds R y z hy
              have e2 := dbl_succ R y z
              have hand : bits BinOp.and IntKind.i64 (dbl R y z + 2 * dig R z) 65535 = dig (2 * R + y) z := (and16i _ (by omega) (by omega)).trans (dbl_dig R y z)
              have z1 : (0 : Int) ≤ (z : Int) := by omega
              have z2 : (z : Int) < ((nd m + 1 : Nat) : Int) := by omega
              have s1 : 0 ≤ dbl R y z + 2 * dig R z := by omega
              have s2 : dbl R y z + 2 * dig R z < 200000 := by omega
              clear S rq rr hbit mk1 mk2 h1 x1 x2 hRlt hx
              generalize dig R z = D at *
              generalize dig (2 * R + y) z = E at *
              go_wp2
              go_roundw
              case rel => exact ⟨z + 1, by omega, by go_num, rfl, S2.out, S1.out, hnx.setCell (by exact Nat.le_succ _) _⟩
              case measure => simp [intOf]; omega
            · obtain rfl : z = nd m + 1 := by omega
              have tz' : decide (nd m + 1 < nd m + 1) = false := by simp
              rw [dblF_all] at rr
              have HR := Lib.hid (raw_of_res rr HFit.out (by omega))
              have HB1 := Lib.hid (HB.out.below hnx)
              have Rq := Lib.hid rq
              have Rr := Lib.hid rr
              clear rq rr
              go_wp2_with fail
              refine (norm_any _ (2 * R + y) (nd m + 1) _ HR.out).mono ?_
              rintro e w2 ⟨u, rfl, hu, rfl⟩
              go_wp2_with fail
              refine (rcmp_any _ _ (2 * R + y) m _ hu HB1.out).mono ?_
              rintro e w3 ⟨rfl, h3⟩
              have b3 := chain hnx h3
              have q3 := Lib.hid (Rq.out.keep h3)
              have r3 := Lib.hid (Rr.out.keep h3)
              have HB3 := Lib.hid (HB1.out.below h3)
              clear hu HR
              by_cases hge : m ≤ 2 * R + y
              · have hc : 0 ≤ cmpI (2 * R + y) m := by unfold cmpI; rw [if_neg (by omega)]; split <;> omega
                have HR3 := Lib.hid (raw_of_res r3.out HFit.out (by omega))
                have LG' := Lib.hid (LG.out hge)
                have hnd : nd (2 * R + y) ≤ 1048576 := by have := nd_le.2 HFit.out; omega
                go_wp2_with fail
                refine (norm_any _ (2 * R + y) (nd m + 1) _ HR3.out).mono ?_
                rintro e w4 ⟨u4, rfl, hu4, rfl⟩
                go_wp2_with fail
                refine (rsub_new _ _ (2 * R + y) m _ hu4 HB3.out hnd hge).mono ?_
                rintro e w5 ⟨dv, rfl, ⟨AD, cd, rfl, k1, k2, k3, k4⟩, hown, h5⟩
                have b5 := chain b3 h5
                have q5 := Lib.hid (q3.out.keep h5)
                have r5 := Lib.hid (r3.out.keep h5)
                have HD : Hid (∃ G, G ≠ w.heap.size + 1 ∧ (0 < nd (2 * R + y - m) → AD = some ⟨G, 0, none⟩ ∧ ∀ i, i < nd (2 * R + y - m) → w5.cell? ⟨G, i, none⟩ = some (.int .i64 (dig (2 * R + y - m) i)))) := by
                  rcases Nat.eq_zero_or_pos (nd (2 * R + y - m)) with h | h
                  · exact ⟨w.heap.size, by omega, fun h' => by omega⟩
                  · obtain ⟨G, hG, hlt, hc⟩ := k4 h
                    refine ⟨G, ?_, fun _ => ⟨hG, hc⟩⟩
                    subst hG
                    have e1 : G = w3.heap.size := Option.some.inj hown
                    have e2 := r3.out.lt
                    omega
                clear k4 k3 k2 k1 hu4 HR3 HB3 HB1 SM LG hown hnd hge hc h5 h3 q3 r3 b3 hnx HFit mk1 mk2 hRlt hbit h1
                generalize 2 * R + y - m = D at *
                generalize 2 * R + y = R2 at *
                obtain ⟨G, hG, hGD⟩ := HD.out
                clear HD
                have HGD := Lib.hid hGD
                clear hGD
                go_wp2_with fail
                go_loopw [13] (fun k wr => ∃ z : Nat, z ≤ nd m + 1 ∧ k = .int .i64 z ∧ Res (w.heap.size) 3 (rowA (dig V) (nd n)) wr ∧ Res (w.heap.size + 1) 3 (rowA (ovF D R2 z) (nd m + 1)) wr ∧ (0 < nd D → AD = some ⟨G, 0, none⟩ ∧ ∀ i, i < nd D → wr.cell? ⟨G, i, none⟩ = some (.int .i64 (dig D i))) ∧ Below w.heap.size w wr) (fun k _ => nd m + 1 - (intOf k).toNat)
                case atStart => exact ⟨0, by omega, rfl, q5.out, by rw [← ovF_zero]; exact r5.out, HGD.out, b5⟩
                case round =>
                  clear q5 r5 b5 HGD
                  obtain ⟨z, hz, rfl, rq, rr, hgd, hnx⟩ := hrel
                  by_cases tz : z < nd m + 1
                  · have co := (rr.cells z).trans (rowA_get tz)
                    have hfz := rr.marks z
                    have z1 : (0 : Int) ≤ (z : Int) := by omega
                    have z2 : (z : Int) < ((nd m + 1 : Nat) : Int) := by omega
                    have P1 := rr.set1 z (.int .i64 0)
                    have P2 := rq.far1 z (.int .i64 0) (by omega : w.heap.size ≠ w.heap.size + 1)
                    have b1 := hnx.setCell (p := ⟨w.heap.size + 1, z, none⟩) (by exact Nat.le_succ _) (.int .i64 0)
                    by_cases tD : z < nd D
                    · obtain ⟨rfl, hcs⟩ := hgd (by omega)
                      have c1 : (wr.setCell ⟨w.heap.size + 1, z, none⟩ (.int .i64 0)).cell? ⟨G, z, none⟩ = some (.int .i64 (dig D z)) := by
                        rw [World.cell?_setCell_far _ _ _ _ (by exact fun h => hG h.symm)]; exact hcs z tD
                      have co2 := (P1.cells z)
                      rw [Array.getElem?_setIfInBounds_self_of_lt (by rw [rowA_size]; exact tz)] at co2
                      have hfz2 := P1.marks z
                      have P3 := P1.set1 z (.int .i64 (dig D z))
                      rw [Array.setIfInBounds_setIfInBounds, ovF_set] at P3
                      have P4 := P2.far1 z (.int .i64 (dig D z)) (by omega : w.heap.size ≠ w.heap.size + 1)
                      have b2 := b1.setCell (p := ⟨w.heap.size + 1, z, none⟩) (by exact Nat.le_succ _) (.int .i64 (dig D z))
                      have HS : Hid (∀ i, i < nd D → ((wr.setCell ⟨w.heap.size + 1, z, none⟩ (.int .i64 0)).setCell ⟨w.heap.size + 1, z, none⟩ (.int .i64 (dig D z))).cell? ⟨G, i, none⟩ = some (.int .i64 (dig D i))) := fun i hi => by
                        rw [World.cell?_setCell_far _ _ _ _ (by exact fun h => hG h.symm), World.cell?_setCell_far _ _ _ _ (by exact fun h => hG h.symm)]; exact hcs i hi
                      have HP3 := Lib.hid P3
                      have HP4 := Lib.hid P4
                      have HBB := Lib.hid b2
                      clear P1 P2 P3 P4 b1 b2 rq rr hgd hcs
                      generalize dig D z = E at *
                      go_wp2
                      go_roundw
                      case rel => exact ⟨z + 1, by omega, by go_num, HP4.out, HP3.out, fun _ => ⟨by first | rfl | trivial, HS.out⟩, HBB.out⟩
                      case measure => simp [intOf]; omega
                    · have tD' : decide (z < nd D) = false := by simp; omega
                      have e0 := dig_high (n := D) (k := z) (by omega)
                      have P3 := rr.set1 z (.int .i64 (dig D z))
                      rw [ovF_set, e0] at P3
                      have HS : Hid (0 < nd D → AD = some ⟨G, 0, none⟩ ∧ ∀ i, i < nd D → (wr.setCell ⟨w.heap.size + 1, z, none⟩ (.int .i64 0)).cell? ⟨G, i, none⟩ = some (.int .i64 (dig D i))) := fun h0 => ⟨(hgd h0).1, fun i hi => by
                        rw [World.cell?_setCell_far _ _ _ _ (by exact fun h => hG h.symm)]; exact (hgd h0).2 i hi⟩
                      have HP3 := Lib.hid P3
                      have HP4 := Lib.hid P2
                      have HBB := Lib.hid b1
                      clear P1 P2 P3 b1 rq rr hgd e0
                      go_wp2
                      go_roundw
                      case rel => exact ⟨z + 1, by omega, by go_num, HP4.out, HP3.out, HS.out, HBB.out⟩
                      case measure => simp [intOf]; omega
                  · obtain rfl : z = nd m + 1 := by omega
                    have tz' : decide (nd m + 1 < nd m + 1) = false := by simp
                    rw [ovF_all] at rr
                    obtain ⟨Q, rfl⟩ := HV.out
                    have cq := (rq.cells j).trans (rowA_get (by omega))
                    have hfq := rq.marks j
                    have Rr := Lib.hid rr
                    have Rq := Lib.hid rq
                    clear rq rr hgd HV
                    have hst := bit_store Q j x hx
                    have HST := Lib.hid hst
                    have P := Rq.out.set1 j (.int .i64 (dig (Q * 2 ^ (16 * j + x + 1) + 2 ^ (16 * j + x)) j))
                    rw [rowA_set (g := dig (Q * 2 ^ (16 * j + x + 1) + 2 ^ (16 * j + x))) rfl (fun i _ hi => dig_bit_other Q j x i hx hi)] at P
                    have HP := Lib.hid P
                    have HP2 := Lib.hid (Rr.out.far1 j (.int .i64 (dig (Q * 2 ^ (16 * j + x + 1) + 2 ^ (16 * j + x)) j)) (by omega : w.heap.size + 1 ≠ w.heap.size))
                    clear hst P
                    go_wp2
                    go_roundw
                    case rel =>
                      rw [HST.out]
                      exact ⟨x, by omega, by go_num, by rw [LG'.out.2]; exact HP.out, by rw [LG'.out.1]; exact HP2.out, hnx.setCell (by exact Nat.le_refl _) _⟩
                    case measure => simp [intOf]
              · have hc : ¬ 0 ≤ cmpI (2 * R + y) m := by unfold cmpI; rw [if_pos (by omega)]; omega
                have SM' := Lib.hid (SM.out (by omega))
                clear SM LG HB1 HB3 hge
                go_wp2
                go_roundw
                case rel => exact ⟨x, by omega, by go_num, by rw [SM'.out.2]; exact q3.out, by rw [SM'.out.1]; exact r3.out, b3⟩
                case measure => simp [intOf]

theorem div_new (u v : Value) (n m : Nat) (w : World) (hu : Big w u n) (hv : Big w v m) (hn : nd n ≤ 1048576) (hm : nd m ≤ 1048575) (h0 : 0 < m) :
    Calls Tryd.prog 42 #[u, v] w fun e w' => TwoBigN (n / m) (n % m) w e w' := by
  by_cases h1 : nd m = 1
  · exact div_one u v n m w hu hv hn h1
  · have h2 : 2 ≤ nd m := by
      have : nd m ≠ 0 := fun h => by
        have := nd_lt m
        rw [h] at this
        omega
      omega
    obtain ⟨A, c, rfl, a1, a2, a3, a4⟩ := hu
    have hv' := hv
    obtain ⟨B, d, rfl, b1, b2, b3, b4⟩ := hv
    exact div_core A B n m c d w hn hm h2 a4 hv'
theorem div_any (u v : Value) (n m : Nat) (w : World) (hu : Big w u n) (hv : Big w v m) (hn : nd n ≤ 1048576) (hm : nd m ≤ 1048575) (h0 : 0 < m) :
    Calls Tryd.prog 42 #[u, v] w fun e w' => TwoBig (n / m) (n % m) w e w' :=
  (div_new u v n m w hu hv hn hm h0).mono fun _ _ ⟨x, y, h, hx, hy, hb, _, _⟩ => ⟨x, y, h, hx, hy, hb⟩
end Go.Proofs.YtkionnggdncncaaDoor

