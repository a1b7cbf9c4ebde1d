/- The walk of the law Uint256Order over this translation: for all arguments it returns true, and memory that was there is as it was. -/
import Derived.Test.YthhbijcddbncdaaRefi
import Derived.Test.YthhbijcddbncdaaRefc
import Derived.Test.YthhbijcddbncdaaAwake1
namespace Go.Proofs.Ythhbijcddbncdaa
open Go.RowKit

theorem Us.below {w w' : World} {v : Value} {l : List Nat} (h : Us w v l) (hb : Below w.heap.size w w') : Us w' v l := by
  obtain ⟨A, cap, rfl, h1, h2, h3⟩ := h
  refine ⟨A, cap, rfl, h1, h2, fun hl => ?_⟩
  obtain ⟨b, o, e, hlt, hc⟩ := h3 hl
  exact ⟨b, o, e, Nat.lt_of_lt_of_le hlt hb.size, fun i j hi hj => (hb.cell (p := ⟨b, o + i * 4 + j, none⟩) hlt).trans (hc i j hi hj)⟩
theorem U_small (n : Nat) (hn : n < 18446744073709551616) : U n = .agg #[.int .u64 n, .int .u64 0, .int .u64 0, .int .u64 0] := by
  obtain ⟨y0, y1, y2, y3⟩ := limb_of (n := n) (x0 := n) (x1 := 0) (x2 := 0) (x3 := 0) (by omega) (by omega) (by omega) (by omega) (by omega) (by omega) (by omega) (by omega) (by omega)
  rw [U, ← y0, ← y1, ← y2, ← y3]
theorem eqSame' (r : Nat) (hr : r < B256) (w : World) : (Op.equalIn 10000 24 (U r) (U r)).run Try.prog w = .ok true w := (eqU_run r r hr hr w).trans (by simp)

theorem order_long (a b0 n len cap : Nat) (A : Option Addr) (w : World) (h : 50 < len) :
    Calls Try.prog 5 #[U a, U b0, .int .u64 n, .slice A len cap] w fun e w' => e = .returned (.bool true) ∧ Below w.heap.size w w' := by
  go_enter Try.func5, Try.ntmps5
  go_wp2_with fail
  refine (awake_any _).mono ?_
  rintro e wz ⟨rfl, hz⟩
  have bz : Below w.heap.size w wz := chain (by go_grown) hz
  go_wp2
  go_ret
  exact ⟨rfl, bz⟩

set_option maxRecDepth 100000 in
set_option maxHeartbeats 8000000 in
theorem order_core (a b0 n cap : Nat) (A : Option Addr) (l : List Nat) (va : Int) (ok : Bool) (w : World) (ha : a < B256) (hb : b0 < B256) (hn : n < 18446744073709551616) (hl : l.length ≤ 50)
    (hU : Us w (.slice A l.length cap) l) (hmin : minL a l < B256)
    (cU : Hid (∀ w, Calls Try.prog 22 #[U a] w fun e w' => e = .returned (.tuple #[.int .u64 va, .bool ok]) ∧ Below w.heap.size w w'))
    (cR : Hid (∀ w, Calls Try.prog 23 #[U a] w fun e w' => e = .returned (.tuple #[.int .u64 va, .bool ok]) ∧ Below w.heap.size w w')) :
    Calls Try.prog 5 #[U a, U b0, .int .u64 n, .slice A l.length cap] w fun e w' => e = .returned (.bool true) ∧ Below w.heap.size w w' := by
  have HU := Lib.hid hU
  clear hU
  have EN : ∀ w, (Op.equalIn 10000 24 (U n) (.agg #[.int .u64 n, .int .u64 0, .int .u64 0, .int .u64 0])).run Try.prog w = .ok true w := fun w => by
    have h := eqSame' n (lt256 hn) w
    have e := U_small n hn
    rw [show (Op.equalIn 10000 24 (U n) (U n)) = (Op.equalIn 10000 24 (U n) (.agg #[.int .u64 n, .int .u64 0, .int .u64 0, .int .u64 0])) from congrArg (Op.equalIn 10000 24 (U n)) e] at h
    exact h
  have EM := eqSame' (minL a l) hmin
  have c00 : (cmpI a a == 0) = true := by unfold cmpI; rw [if_neg (by omega), if_neg (by omega)]; rfl
  have cN : Hid (∀ w, Calls Try.prog 24 #[.int .u64 n] w fun e w' => e = .returned (U n) ∧ Below w.heap.size w w') := fun w => u64_any n hn w
  have cUN : Hid (∀ w, Calls Try.prog 22 #[U n] w fun e w' => e = .returned (.tuple #[.int .u64 n, .bool true]) ∧ Below w.heap.size w w') := fun w => uint64_yes n (lt256 hn) hn w
  go_enter Try.func5, Try.ntmps5
  go_wp2
  go_loopw [10] (fun i wr => ∃ k m : Nat, k ≤ l.length ∧ i = .int .i64 k ∧ m < B256 ∧ Hid (m = minL a (l.take k)) ∧ Res w.heap.size 24 (arr a) wr ∧ Res (w.heap.size + 1) 24 (arr b0) wr ∧ Res (w.heap.size + 1 + 1) 24 (arr m) wr ∧ Below w.heap.size w wr) (fun i _ => l.length - (intOf i).toNat)
  case atStart =>
    have e1 : Res w.heap.size 24 (arr a) (((w.alloc (.cells (arr a) 24)).alloc (.cells (arr b0) 24)).alloc (.cells (arr a) 24)) := ((Res.new w 24 (arr a)).alloc _).alloc _
    have e2 := (Res.new (w.alloc (.cells (arr a) 24)) 24 (arr b0)).alloc (.cells (arr a) 24)
    rw [World.size_alloc] at e2
    have e3 := Res.new ((w.alloc (.cells (arr a) 24)).alloc (.cells (arr b0) 24)) 24 (arr a)
    rw [World.size_alloc, World.size_alloc] at e3
    exact ⟨0, a, Nat.zero_le _, rfl, ha, rfl, e1, e2, e3, by go_grown⟩
  case round =>
    obtain ⟨k, m, hk, rfl, hmB, HM, rA, rB, rM, b1⟩ := hrel
    by_cases hlt : k < l.length
    · obtain ⟨A', cap', hv, _, hxs, hcs0⟩ := HU.out
      obtain ⟨g, o, hA, hgB, hcs⟩ := hcs0 (by omega)
      rw [Value.slice.injEq] at hv
      obtain ⟨rfl, _, rfl⟩ := hv
      subst hA
      have c0 := (b1.cell (p := ⟨g, o + k * 4 + 0, none⟩) hgB).trans (hcs k 0 hlt (by omega))
      have c1 := (b1.cell (p := ⟨g, o + k * 4 + 1, none⟩) hgB).trans (hcs k 1 hlt (by omega))
      have c2 := (b1.cell (p := ⟨g, o + k * 4 + 2, none⟩) hgB).trans (hcs k 2 hlt (by omega))
      have c3 := (b1.cell (p := ⟨g, o + k * 4 + 3, none⟩) hgB).trans (hcs k 3 hlt (by omega))
      rw [Nat.add_zero] at c0
      have hxB : l.getD k 0 < B256 := hxs _ (by rw [List.getD_eq_getElem?_getD, List.getElem?_eq_getElem hlt]; exact List.getElem_mem hlt)
      have htake : l.take (k + 1) = l.take k ++ [l.getD k 0] := by rw [List.take_add_one, List.getD_eq_getElem?_getD, List.getElem?_eq_getElem hlt]; rfl
      have HT := Lib.hid htake
      have HX0 : Hid (∀ j, j < 4 → w.cell? ⟨g, o + k * 4 + j, none⟩ = some (.int .u64 (limb (l.getD k 0) j))) := fun j hj => hcs k j hlt hj
      clear htake hcs hxs hcs0
      generalize l.getD k 0 = x at *
      have hstep : minL a (l.take (k + 1)) = if x < m then x else m := by rw [HT.out, minL_snoc, ← HM.out]
      have HS := Lib.hid hstep
      clear hstep HT HM
      have zM := rM.cells
      have i1 : (0 : Int) ≤ (k : Int) := by omega
      have i2 : (k : Int) < (l.length : Int) := by omega
      replace b1 := b1.drew
      replace rA := rA.drew
      replace rB := rB.drew
      replace rM := rM.drew
      go_wp2
      by_cases hxm : x < m
      · have hneg : cmpI x m < 0 := by unfold cmpI; rw [if_pos hxm]; omega
        go_region_held3 (fun w' => w'.cell? ⟨g, o + k * 4, none⟩ = some (.int .u64 (limb x 0)) ∧ w'.cell? ⟨g, o + k * 4 + 1, none⟩ = some (.int .u64 (limb x 1)) ∧ w'.cell? ⟨g, o + k * 4 + 2, none⟩ = some (.int .u64 (limb x 2)) ∧ w'.cell? ⟨g, o + k * 4 + 3, none⟩ = some (.int .u64 (limb x 3)) ∧ w'.cell? ⟨w.heap.size + 1 + 1, 0, none⟩ = some (.int .u64 (limb m 0)) ∧ w'.cell? ⟨w.heap.size + 1 + 1, 1, none⟩ = some (.int .u64 (limb m 1)) ∧ w'.cell? ⟨w.heap.size + 1 + 1, 2, none⟩ = some (.int .u64 (limb m 2)) ∧ w'.cell? ⟨w.heap.size + 1 + 1, 3, none⟩ = some (.int .u64 (limb m 3)))
          (first | (go_keep; done) | (go_split_ands; refine ⟨?_, ?_, ?_, ?_, ?_, ?_, ?_, ?_⟩ <;> (rw [hw.cell (World.block_lt_of_cell? _ _ (by assumption))]; assumption)))
          (first | (go_at_call 21; refine (from_any _ (by assumption) _).mono ?_; rintro e w2 ⟨v, rfl, hbig, hw⟩; have b1 := chain b1 hw; have rA := rA.keep hw; have rB := rB.keep hw; have rM := rM.keep hw) | (go_at_call 20; refine (rcmp_any _ _ x m _ (Big.below (by assumption) hw) hbig).mono ?_; rintro e w2 ⟨rfl, hw⟩; have b1 := chain b1 hw; have rA := rA.keep hw; have rB := rB.keep hw; have rM := rM.keep hw))
        clear zM c0 c1 c2 c3
        have mM := rM.marks
        have zM := rM.cells
        have d0 := (b1.cell (p := ⟨g, o + k * 4 + 0, none⟩) hgB).trans (HX0.out 0 (by omega))
        have d1 := (b1.cell (p := ⟨g, o + k * 4 + 1, none⟩) hgB).trans (HX0.out 1 (by omega))
        have d2 := (b1.cell (p := ⟨g, o + k * 4 + 2, none⟩) hgB).trans (HX0.out 2 (by omega))
        have d3 := (b1.cell (p := ⟨g, o + k * 4 + 3, none⟩) hgB).trans (HX0.out 3 (by omega))
        rw [Nat.add_zero] at d0
        go_wp2
        go_roundw
        case rel => exact ⟨k + 1, x, by omega, by go_num, hxB, HS.out.symm ▸ (if_pos hxm).symm, rA.far4 _ _ _ _ (by omega), rB.far4 _ _ _ _ (by omega), rM.put4 _ _ _ _, by go_grown⟩
        case measure => simp [intOf]; omega
      · have hneg : ¬ cmpI x m < 0 := by unfold cmpI; rw [if_neg hxm]; split <;> omega
        go_region_held3 (fun w' => w'.cell? ⟨g, o + k * 4, none⟩ = some (.int .u64 (limb x 0)) ∧ w'.cell? ⟨g, o + k * 4 + 1, none⟩ = some (.int .u64 (limb x 1)) ∧ w'.cell? ⟨g, o + k * 4 + 2, none⟩ = some (.int .u64 (limb x 2)) ∧ w'.cell? ⟨g, o + k * 4 + 3, none⟩ = some (.int .u64 (limb x 3)) ∧ w'.cell? ⟨w.heap.size + 1 + 1, 0, none⟩ = some (.int .u64 (limb m 0)) ∧ w'.cell? ⟨w.heap.size + 1 + 1, 1, none⟩ = some (.int .u64 (limb m 1)) ∧ w'.cell? ⟨w.heap.size + 1 + 1, 2, none⟩ = some (.int .u64 (limb m 2)) ∧ w'.cell? ⟨w.heap.size + 1 + 1, 3, none⟩ = some (.int .u64 (limb m 3)))
          (first | (go_keep; done) | (go_split_ands; refine ⟨?_, ?_, ?_, ?_, ?_, ?_, ?_, ?_⟩ <;> (rw [hw.cell (World.block_lt_of_cell? _ _ (by assumption))]; assumption)))
          (first | (go_at_call 21; refine (from_any _ (by assumption) _).mono ?_; rintro e w2 ⟨v, rfl, hbig, hw⟩; have b1 := chain b1 hw; have rA := rA.keep hw; have rB := rB.keep hw; have rM := rM.keep hw) | (go_at_call 20; refine (rcmp_any _ _ x m _ (Big.below (by assumption) hw) hbig).mono ?_; rintro e w2 ⟨rfl, hw⟩; have b1 := chain b1 hw; have rA := rA.keep hw; have rB := rB.keep hw; have rM := rM.keep hw))
        clear zM c0 c1 c2 c3
        go_wp2
        go_roundw
        case rel => exact ⟨k + 1, m, by omega, by go_num, hmB, HS.out.symm ▸ (if_neg hxm).symm, rA, rB, rM, b1⟩
        case measure => simp [intOf]; omega
    · obtain rfl : k = l.length := by omega
      have hfin : m = minL a l := by rw [HM.out, List.take_length]
      subst hfin
      clear HM
      have tk : decide (l.length < l.length) = false := by simp
      have zA := rA.cells
      go_wp2_with fail
      refine (cU.out _).mono ?_
      rintro e w2 ⟨rfl, hw⟩
      have rA := rA.keep hw; have rB := rB.keep hw; have rM := rM.keep hw; have b1 := chain b1 hw
      clear zA
      have zA := rA.cells
      go_wp2_with fail
      refine (cR.out _).mono ?_
      rintro e w3 ⟨rfl, hw⟩
      have rA := rA.keep hw; have rB := rB.keep hw; have rM := rM.keep hw; have b1 := chain b1 hw
      clear zA
      go_wp2_with fail
      refine (cN.out _).mono ?_
      rintro e w4 ⟨rfl, hw⟩
      have rA := rA.keep hw; have rB := rB.keep hw; have rM := rM.keep hw; have b1 := chain b1 hw
      go_wp2_with fail
      refine (cUN.out _).mono ?_
      rintro e w5 ⟨rfl, hw⟩
      have rA := rA.keep hw; have rB := rB.keep hw; have rM := rM.keep hw; have b1 := chain b1 hw
      replace b1 := b1.drew
      have zA := rA.cells; have zB := rB.cells; have zM := rM.cells
      go_wp2
      go_region_held3 (fun w' => w'.cell? ⟨w.heap.size, 0, none⟩ = some (.int .u64 (limb a 0)) ∧ w'.cell? ⟨w.heap.size, 1, none⟩ = some (.int .u64 (limb a 1)) ∧ w'.cell? ⟨w.heap.size, 2, none⟩ = some (.int .u64 (limb a 2)) ∧ w'.cell? ⟨w.heap.size, 3, none⟩ = some (.int .u64 (limb a 3)) ∧ w'.cell? ⟨w.heap.size + 1, 0, none⟩ = some (.int .u64 (limb b0 0)) ∧ w'.cell? ⟨w.heap.size + 1, 1, none⟩ = some (.int .u64 (limb b0 1)) ∧ w'.cell? ⟨w.heap.size + 1, 2, none⟩ = some (.int .u64 (limb b0 2)) ∧ w'.cell? ⟨w.heap.size + 1, 3, none⟩ = some (.int .u64 (limb b0 3)) ∧ w'.cell? ⟨w.heap.size + 1 + 1, 0, none⟩ = some (.int .u64 (limb (minL a l) 0)) ∧ w'.cell? ⟨w.heap.size + 1 + 1, 1, none⟩ = some (.int .u64 (limb (minL a l) 1)) ∧ w'.cell? ⟨w.heap.size + 1 + 1, 2, none⟩ = some (.int .u64 (limb (minL a l) 2)) ∧ w'.cell? ⟨w.heap.size + 1 + 1, 3, none⟩ = some (.int .u64 (limb (minL a l) 3)))
        (first | (go_keep; done) | (go_split_ands; refine ⟨?_, ?_, ?_, ?_, ?_, ?_, ?_, ?_, ?_, ?_, ?_, ?_⟩ <;> (rw [hw.cell (World.block_lt_of_cell? _ _ (by assumption))]; assumption)))
        (first | (go_at_call 25; refine (cmp_any _ _ (by assumption) (by assumption) _).mono ?_; rintro e w2 ⟨rfl, hw⟩; have b1 := chain b1 hw) | (go_at_call 21; refine (from_any _ (by assumption) _).mono ?_; rintro e w2 ⟨v, rfl, hbig, hw⟩; have b1 := chain b1 hw) | (go_at_call 20; refine (rcmp_any _ _ a b0 _ (Big.below (by assumption) hw) hbig).mono ?_; rintro e w2 ⟨rfl, hw⟩; have b1 := chain b1 hw) | (go_at_call 26; refine (min_any a _ l _ ha (HU.out.below b1)).mono ?_; rintro e w2 ⟨rfl, hw⟩; have b1 := chain b1 hw) | (go_at_call 27; refine (bitlen_any _ (by assumption) _).mono ?_; rintro e w2 ⟨rfl, hw⟩; have b1 := chain b1 hw) | (go_at_call 28; refine (rbitlen_any _ (by assumption) _).mono ?_; rintro e w2 ⟨rfl, hw⟩; have b1 := chain b1 hw) | (go_at_call 24; refine (cN.out _).mono ?_; rintro e w2 ⟨rfl, hw⟩; have b1 := chain b1 hw) | (go_at_call 17; refine (awake_any _).mono ?_; rintro e w2 ⟨rfl, hw⟩; have b1 := chain b1 hw))
      go_wp2
      go_ret
      exact ⟨rfl, b1⟩

theorem minL_lt (l : List Nat) : ∀ a, a < B256 → (∀ x ∈ l, x < B256) → minL a l < B256 := by
  induction l with
  | nil => intro a ha _; exact ha
  | cons y l ih =>
    intro a ha h
    show minL (if y < a then y else a) l < B256
    refine ih _ ?_ (fun x hx => h x (List.mem_cons_of_mem _ hx))
    split
    · exact h y List.mem_cons_self
    · exact ha

theorem order_law (a b0 n cap : Nat) (A : Option Addr) (l : List Nat) (w : World) (ha : a < B256) (hb : b0 < B256) (hn : n < 18446744073709551616) (hl : l.length ≤ 50) (hU : Us w (.slice A l.length cap) l) :
    Calls Try.prog 5 #[U a, U b0, .int .u64 n, .slice A l.length cap] w fun e w' => e = .returned (.bool true) ∧ Below w.heap.size w w' := by
  have hmin : minL a l < B256 := by
    obtain ⟨_, _, _, _, h2, _⟩ := hU
    exact minL_lt l a ha h2
  by_cases h : a < 18446744073709551616
  · exact order_core a b0 n cap A l a true w ha hb hn hl hU hmin (fun w => uint64_yes a ha h w) (fun w => ruint64_yes a ha h w)
  · exact order_core a b0 n cap A l 0 false w ha hb hn hl hU hmin (fun w => uint64_no a ha h w) (fun w => ruint64_no a ha h w)

end Go.Proofs.Ythhbijcddbncdaa
