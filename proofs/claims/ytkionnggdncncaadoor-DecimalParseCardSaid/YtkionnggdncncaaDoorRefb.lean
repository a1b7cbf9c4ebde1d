/- Contract of the reference's ToUint256 over this translation: a slice of at most sixteen digits is turned into the number that it reads as; memory that was there is as it was. -/
import Derived.Test.YtkionnggdncncaaDoorRefa
import Derived.Test.YtkionnggdncncaaDoorDivn
import Derived.BigRegion
namespace Go.Proofs.YtkionnggdncncaaDoor
open Go.RowKit

/-- A store into the newest block, behind draws. -/
theorem setN (w : World) (c : Array Value) (t : TypeId) (m g i : Nat) {v : Value} (hg : g = w.heap.size) : ((w.alloc (.cells c t)).drewN m).setCell ⟨g, i, none⟩ v = (w.alloc (.cells (c.setIfInBounds i v) t)).drewN m := by
  rw [show ((w.alloc (.cells c t)).drewN m).setCell ⟨g, i, none⟩ v = ((w.alloc (.cells c t)).setCell ⟨g, i, none⟩ v).drewN m from rfl, World.setCell_alloc_at _ _ _ _ _ hg]

set_option maxRecDepth 100000 in
set_option maxHeartbeats 8000000 in
theorem to_core (b o len cap n : Nat) (w : World) (hlen : len ≤ 16) (hb : b < w.heap.size)
    (hc : ∀ i, i < len → w.cell? ⟨b, o + i, none⟩ = some (.int .i64 (dig n i))) :
    Calls Tryd.prog 47 #[.slice (some ⟨b, o, none⟩) len cap] w fun e w' => e = .returned (U (lowp n len)) ∧ Below w.heap.size w w' := by
  have HC := Lib.hid hc
  clear hc
  have hb1 : b < w.heap.size + 1 := by omega
  go_enter Tryd.func47, Tryd.ntmps47
  go_wp2
  go_loopw [4] (fun i w' => ∃ k q : Nat, k ≤ len ∧ i = .int .i64 k ∧ w' = ((w.alloc (.cells #[.int .u64 0, .int .u64 0, .int .u64 0, .int .u64 0] 24)).alloc (.cells #[.int .u64 (limb (lowp n k) 0), .int .u64 (limb (lowp n k) 1), .int .u64 (limb (lowp n k) 2), .int .u64 (limb (lowp n k) 3)] 24)).drewN q) (fun i _ => len - (intOf i).toNat)
  case atStart =>
    have E := U_zero
    rw [Value.agg.injEq] at E
    refine ⟨0, 0, by omega, rfl, ?_⟩
    rw [lowp_zero, E]
    rfl
  case round =>
    obtain ⟨k, q, hk, rfl, rfl⟩ := hrel
    by_cases hlt : k < len
    · have hcell := HC.out k hlt
      rcases (by omega : k = 0 ∨ k = 1 ∨ k = 2 ∨ k = 3 ∨ k = 4 ∨ k = 5 ∨ k = 6 ∨ k = 7 ∨ k = 8 ∨ k = 9 ∨ k = 10 ∨ k = 11 ∨ k = 12 ∨ k = 13 ∨ k = 14 ∨ k = 15) with rfl | rfl | rfl | rfl | rfl | rfl | rfl | rfl | rfl | rfl | rfl | rfl | rfl | rfl | rfl | rfl
      · have hlt' : decide ((0 : Int) < (len : Int)) = true := by simp; omega
        have P := put0 n
        rw [Nat.add_zero] at hcell
        go_wp2
        go_region
        go_wp2
        go_roundw
        case rel =>
          obtain ⟨e0, e1, e2⟩ := keep0 n
          exact ⟨1, q + 1, by omega, rfl, by rw [e0, e1, e2]; exact setN _ _ _ _ _ _ (by simp)⟩
        case measure => simp [intOf]; omega
      · have hlt' : decide ((1 : Int) < (len : Int)) = true := by simp; omega
        have P := put1 n
        go_wp2
        go_region
        go_wp2
        go_roundw
        case rel =>
          obtain ⟨e0, e1, e2⟩ := keep1 n
          exact ⟨2, q + 1, by omega, rfl, by rw [e0, e1, e2]; exact setN _ _ _ _ _ _ (by simp)⟩
        case measure => simp [intOf]; omega
      · have hlt' : decide ((2 : Int) < (len : Int)) = true := by simp; omega
        have P := put2 n
        go_wp2
        go_region
        go_wp2
        go_roundw
        case rel =>
          obtain ⟨e0, e1, e2⟩ := keep2 n
          exact ⟨3, q + 1, by omega, rfl, by rw [e0, e1, e2]; exact setN _ _ _ _ _ _ (by simp)⟩
        case measure => simp [intOf]; omega
      · have hlt' : decide ((3 : Int) < (len : Int)) = true := by simp; omega
        have P := put3 n
        go_wp2
        go_region
        go_wp2
        go_roundw
        case rel =>
          obtain ⟨e0, e1, e2⟩ := keep3 n
          exact ⟨4, q + 1, by omega, rfl, by rw [e0, e1, e2]; exact setN _ _ _ _ _ _ (by simp)⟩
        case measure => simp [intOf]; omega
      · have hlt' : decide ((4 : Int) < (len : Int)) = true := by simp; omega
        have P := put4 n
        go_wp2
        go_region
        go_wp2
        go_roundw
        case rel =>
          obtain ⟨e0, e1, e2⟩ := keep4 n
          exact ⟨5, q + 1, by omega, rfl, by rw [e0, e1, e2]; exact setN _ _ _ _ _ _ (by simp)⟩
        case measure => simp [intOf]; omega
      · have hlt' : decide ((5 : Int) < (len : Int)) = true := by simp; omega
        have P := put5 n
        go_wp2
        go_region
        go_wp2
        go_roundw
        case rel =>
          obtain ⟨e0, e1, e2⟩ := keep5 n
          exact ⟨6, q + 1, by omega, rfl, by rw [e0, e1, e2]; exact setN _ _ _ _ _ _ (by simp)⟩
        case measure => simp [intOf]; omega
      · have hlt' : decide ((6 : Int) < (len : Int)) = true := by simp; omega
        have P := put6 n
        go_wp2
        go_region
        go_wp2
        go_roundw
        case rel =>
          obtain ⟨e0, e1, e2⟩ := keep6 n
          exact ⟨7, q + 1, by omega, rfl, by rw [e0, e1, e2]; exact setN _ _ _ _ _ _ (by simp)⟩
        case measure => simp [intOf]; omega
      · have hlt' : decide ((7 : Int) < (len : Int)) = true := by simp; omega
        have P := put7 n
        go_wp2
        go_region
        go_wp2
        go_roundw
        case rel =>
          obtain ⟨e0, e1, e2⟩ := keep7 n
          exact ⟨8, q + 1, by omega, rfl, by rw [e0, e1, e2]; exact setN _ _ _ _ _ _ (by simp)⟩
        case measure => simp [intOf]; omega
      · have hlt' : decide ((8 : Int) < (len : Int)) = true := by simp; omega
        have P := put8 n
        go_wp2
        go_region
        go_wp2
        go_roundw
        case rel =>
          obtain ⟨e0, e1, e2⟩ := keep8 n
          exact ⟨9, q + 1, by omega, rfl, by rw [e0, e1, e2]; exact setN _ _ _ _ _ _ (by simp)⟩
        case measure => simp [intOf]; omega
      · have hlt' : decide ((9 : Int) < (len : Int)) = true := by simp; omega
        have P := put9 n
        go_wp2
        go_region
        go_wp2
        go_roundw
        case rel =>
          obtain ⟨e0, e1, e2⟩ := keep9 n
          exact ⟨10, q + 1, by omega, rfl, by rw [e0, e1, e2]; exact setN _ _ _ _ _ _ (by simp)⟩
        case measure => simp [intOf]; omega
      · have hlt' : decide ((10 : Int) < (len : Int)) = true := by simp; omega
        have P := put10 n
        go_wp2
        go_region
        go_wp2
        go_roundw
        case rel =>
          obtain ⟨e0, e1, e2⟩ := keep10 n
          exact ⟨11, q + 1, by omega, rfl, by rw [e0, e1, e2]; exact setN _ _ _ _ _ _ (by simp)⟩
        case measure => simp [intOf]; omega
      · have hlt' : decide ((11 : Int) < (len : Int)) = true := by simp; omega
        have P := put11 n
        go_wp2
        go_region
        go_wp2
        go_roundw
        case rel =>
          obtain ⟨e0, e1, e2⟩ := keep11 n
          exact ⟨12, q + 1, by omega, rfl, by rw [e0, e1, e2]; exact setN _ _ _ _ _ _ (by simp)⟩
        case measure => simp [intOf]; omega
      · have hlt' : decide ((12 : Int) < (len : Int)) = true := by simp; omega
        have P := put12 n
        go_wp2
        go_region
        go_wp2
        go_roundw
        case rel =>
          obtain ⟨e0, e1, e2⟩ := keep12 n
          exact ⟨13, q + 1, by omega, rfl, by rw [e0, e1, e2]; exact setN _ _ _ _ _ _ (by simp)⟩
        case measure => simp [intOf]; omega
      · have hlt' : decide ((13 : Int) < (len : Int)) = true := by simp; omega
        have P := put13 n
        go_wp2
        go_region
        go_wp2
        go_roundw
        case rel =>
          obtain ⟨e0, e1, e2⟩ := keep13 n
          exact ⟨14, q + 1, by omega, rfl, by rw [e0, e1, e2]; exact setN _ _ _ _ _ _ (by simp)⟩
        case measure => simp [intOf]; omega
      · have hlt' : decide ((14 : Int) < (len : Int)) = true := by simp; omega
        have P := put14 n
        go_wp2
        go_region
        go_wp2
        go_roundw
        case rel =>
          obtain ⟨e0, e1, e2⟩ := keep14 n
          exact ⟨15, q + 1, by omega, rfl, by rw [e0, e1, e2]; exact setN _ _ _ _ _ _ (by simp)⟩
        case measure => simp [intOf]; omega
      · have hlt' : decide ((15 : Int) < (len : Int)) = true := by simp; omega
        have P := put15 n
        go_wp2
        go_region
        go_wp2
        go_roundw
        case rel =>
          obtain ⟨e0, e1, e2⟩ := keep15 n
          exact ⟨16, q + 1, by omega, rfl, by rw [e0, e1, e2]; exact setN _ _ _ _ _ _ (by simp)⟩
        case measure => simp [intOf]; omega
    · obtain rfl : k = len := by omega
      have hlt' : decide ((k : Int) < (k : Int)) = false := by simp
      go_wp2
      refine bodyPost_ret (v := U (lowp n k)) (by simp [results, Tryd.results47, go_sem]) rfl ⟨rfl, ?_⟩
      iterate 4 refine Below.setCell ?_ (by exact Nat.le_refl _) _
      exact belowN (by go_grown)

theorem to_zero (A : Option Addr) (cap : Nat) (w : World) :
    Calls Tryd.prog 47 #[.slice A 0 cap] w fun e w' => e = .returned (.agg #[.int .u64 0, .int .u64 0, .int .u64 0, .int .u64 0]) ∧ Below w.heap.size w w' := by
  go_enter Tryd.func47, Tryd.ntmps47
  go_wp2
  refine wp_loop_rounds 1 ?_
  rw [rounds_succ]
  go_wp2
  refine bodyPost_ret (v := .agg #[.int .u64 0, .int .u64 0, .int .u64 0, .int .u64 0]) (by simp [results, Tryd.results47, go_sem]) rfl ⟨rfl, ?_⟩
  go_grown

/-- A part of a slice of digits. -/
theorem to_part (g o len cap n m : Nat) (w : World) (hlen : len ≤ 16) (hg : g < w.heap.size) (hm : m = n / 65536 ^ o % 65536 ^ len)
    (hc : ∀ i, i < len → w.cell? ⟨g, o + i, none⟩ = some (.int .i64 (dig n (o + i)))) :
    Calls Tryd.prog 47 #[.slice (some ⟨g, o, none⟩) len cap] w fun e w' => e = .returned (U m) ∧ Below w.heap.size w w' := by
  have := to_core g o len cap (n / 65536 ^ o) w hlen hg (fun i hi => by rw [dig_shift]; exact hc i hi)
  rw [show lowp (n / 65536 ^ o) len = m from by rw [hm]; rfl] at this
  exact this

theorem to_any (v : Value) (n : Nat) (w : World) (h : Big w v n) (hn : n < B256) :
    Calls Tryd.prog 47 #[v] w fun e w' => e = .returned (U n) ∧ Below w.heap.size w w' := by
  obtain ⟨A, cap, rfl, h1, h2, h3, h4⟩ := h
  have h16 := nd_16.2 hn
  by_cases hl : 0 < nd n
  · obtain ⟨b, rfl, hb, hc⟩ := h4 hl
    have := to_core b 0 (nd n) cap n w h16 hb (fun i hi => by rw [Nat.zero_add]; exact hc i hi)
    rw [lowp_all h3] at this
    exact this
  · have e : nd n = 0 := by omega
    rw [e] at h3 ⊢
    obtain rfl : n = 0 := by simpa using h3
    rw [U_zero]
    exact to_zero A cap w

theorem checked_ok (A : Option Addr) (len cap n : Nat) (w : World) (hl : len ≤ 16)
    (C : ∀ w' : World, Below w.heap.size w w' → Calls Tryd.prog 47 #[.slice A len cap] w' fun e w2 => e = .returned (U n) ∧ Below w'.heap.size w' w2) :
    Calls Tryd.prog 34 #[.slice A len cap] w fun e w' => e = .returned (.tuple #[U n, .int .i64 0]) ∧ Below w.heap.size w w' := by
  have HC := Lib.hid C
  have HF := Lib.hid (fun w => fits_yes A len cap w hl)
  clear C
  go_enter Tryd.func34, Tryd.ntmps34
  go_wp2_with (first | (go_at_call 46; refine (HF.out _).mono ?_; rintro e w2 ⟨rfl, rfl⟩) | (go_at_call 47; refine (HC.out _ (by go_grown)).mono ?_; rintro e w2 ⟨rfl, hw⟩; obtain ⟨hc, hm, hs⟩ := keepNew hw))
  have hb0 : Below w.heap.size w w2 := Below.trans (by go_grown) (hw.mono (by simp))
  refine bodyPost_ret (v := .tuple #[U n, .int .i64 0]) (by simp [results, Tryd.results34, go_sem, hc]) rfl ⟨rfl, ?_⟩
  go_grown

theorem checked_over (A : Option Addr) (len cap : Nat) (w : World) (hl : 16 < len) :
    Calls Tryd.prog 34 #[.slice A len cap] w fun e w' => e = .returned (.tuple #[.agg #[.int .u64 0, .int .u64 0, .int .u64 0, .int .u64 0], .int .i64 4]) ∧ Below w.heap.size w w' := by
  have HF := Lib.hid (fun w => fits_no A len cap w hl)
  go_enter Tryd.func34, Tryd.ntmps34
  go_wp2_with (go_at_call 46; refine (HF.out _).mono ?_; rintro e w2 ⟨rfl, rfl⟩)
  refine bodyPost_ret (v := .tuple #[.agg #[.int .u64 0, .int .u64 0, .int .u64 0, .int .u64 0], .int .i64 4]) (by simp [results, Tryd.results34, go_sem]) rfl ⟨rfl, ?_⟩
  go_grown

theorem checked_any (v : Value) (n : Nat) (w : World) (h : Big w v n) :
    Calls Tryd.prog 34 #[v] w fun e w' => e = .returned (.tuple #[U (chkR n), .int .i64 (chkE n)]) ∧ Below w.heap.size w w' := by
  have h0 := h
  obtain ⟨A, cap, rfl, h1, h2, h3, h4⟩ := h
  by_cases hn : n < B256
  · rw [show chkR n = n from if_pos hn, show chkE n = 0 from if_pos hn]
    exact checked_ok A (nd n) cap n w (nd_16.2 hn) (fun w' hb => to_any _ n w' (h0.below hb) hn)
  · rw [show chkR n = 0 from if_neg hn, show chkE n = 4 from if_neg hn, U_zero]
    exact checked_over A (nd n) cap w (by have := mt nd_16.1 hn; omega)

end Go.Proofs.YtkionnggdncncaaDoor

