/- Contracts of uint256.SaturatingSub and uint256.Min over this translation: the difference or zero; the least of the numbers. Memory that was there is as it was. -/
import Derived.Test.YthhbijcddbncdaaDoorUc
namespace Go.Proofs.YthhbijcddbncdaaDoor
open Go.RowKit

theorem satsub_ok (a b r : Nat) (c : Int) (w : World) (hc : (c != 0) = false)
    (C : ∀ w, Calls Tryd.prog 8 #[U a, U b] w fun e w' => e = .returned (.tuple #[U r, .int .i64 c]) ∧ Below w.heap.size w w') :
    Calls Tryd.prog 27 #[U a, U b] w fun e w' => e = .returned (U r) ∧ Below w.heap.size w w' := by
  have HC := Lib.hid C
  clear C
  go_enter Tryd.func27, Tryd.ntmps27
  go_wp2_with (go_at_call 8; refine (HC.out _).mono ?_; rintro e w2 ⟨rfl, hw⟩; obtain ⟨hk, hm, hs⟩ := keepNew hw; simp only [World.size_alloc] at hk hm hs; have hs1 := Nat.lt_succ_of_lt hs; rw [Nat.succ_eq_add_one] at hs1)
  have hb0 : Below w.heap.size w w2 := Below.trans (by go_grown) (hw.mono (by simp; omega))
  refine bodyPost_ret (v := U r) (by simp [results, Tryd.results27, go_sem, hs, hk]) rfl ⟨rfl, ?_⟩
  go_grown

theorem satsub_over (a b r : Nat) (c : Int) (w : World) (hc : (c != 0) = true)
    (C : ∀ w, Calls Tryd.prog 8 #[U a, U b] w fun e w' => e = .returned (.tuple #[U r, .int .i64 c]) ∧ Below w.heap.size w w') :
    Calls Tryd.prog 27 #[U a, U b] w fun e w' => e = .returned (.agg #[.int .u64 0, .int .u64 0, .int .u64 0, .int .u64 0]) ∧ Below w.heap.size w w' := by
  have HC := Lib.hid C
  clear C
  go_enter Tryd.func27, Tryd.ntmps27
  go_wp2_with (go_at_call 8; refine (HC.out _).mono ?_; rintro e w2 ⟨rfl, hw⟩; obtain ⟨hk, hm, hs⟩ := keepNew hw; simp only [World.size_alloc] at hk hm hs; have hs1 := Nat.lt_succ_of_lt hs; rw [Nat.succ_eq_add_one] at hs1)
  have hb0 : Below w.heap.size w w2 := Below.trans (by go_grown) (hw.mono (by simp; omega))
  refine bodyPost_ret (v := .agg #[.int .u64 0, .int .u64 0, .int .u64 0, .int .u64 0]) (by simp [results, Tryd.results27, go_sem, hs, hk]) rfl ⟨rfl, ?_⟩
  go_grown

theorem satsub_any (a b : Nat) (ha : a < B256) (hb : b < B256) (w : World) :
    Calls Tryd.prog 27 #[U a, U b] w fun e w' => e = .returned (U (subR a b)) ∧ Below w.heap.size w w' := by
  have C := sub_any a b ha hb
  by_cases h : b ≤ a
  · exact satsub_ok a b _ _ w (by rw [show subE a b = 0 from if_pos h]; rfl) C
  · rw [show subR a b = 0 from if_neg h, U_zero]
    exact satsub_over a b _ _ w (by rw [show subE a b = 4 from if_neg h]; rfl) C

/-! ### Min -/
/-- The least of a and the numbers of l. -/
def minL (a : Nat) (l : List Nat) : Nat := l.foldl (fun m x => if x < m then x else m) a
theorem minL_snoc (a : Nat) (l : List Nat) (x : Nat) : minL a (l ++ [x]) = if x < minL a l then x else minL a l := by
  unfold minL; rw [List.foldl_append]; rfl

theorem Res.put4 {g : Nat} {t : TypeId} {c0 c1 c2 c3 : Value} {w : World} (h : Res g t #[c0, c1, c2, c3] w) (x0 x1 x2 x3 : Value) :
    Res g t #[x0, x1, x2, x3] ((((w.setCell ⟨g, 0, none⟩ x0).setCell ⟨g, 1, none⟩ x1).setCell ⟨g, 2, none⟩ x2).setCell ⟨g, 3, none⟩ x3) := by
  have e : ∀ (w : World) (c : Array Value) (i : Nat) (x : Value), Res g t c w → Res g t (c.setIfInBounds i x) (w.setCell ⟨g, i, none⟩ x) := fun w c i x h => by
    unfold Res at h ⊢
    simp [World.setCell, Array.getElem?_modify, h]
  exact e _ _ 3 x3 (e _ _ 2 x2 (e _ _ 1 x1 (e _ _ 0 x0 h)))
theorem Res.far4 {g g' : Nat} {t : TypeId} {c : Array Value} {w : World} (h : Res g t c w) (x0 x1 x2 x3 : Value) (hg : g ≠ g') :
    Res g t c ((((w.setCell ⟨g', 0, none⟩ x0).setCell ⟨g', 1, none⟩ x1).setCell ⟨g', 2, none⟩ x2).setCell ⟨g', 3, none⟩ x3) := by
  unfold Res at h ⊢
  rw [Below.heap_setCell _ _ _ _ hg, Below.heap_setCell _ _ _ _ hg, Below.heap_setCell _ _ _ _ hg, Below.heap_setCell _ _ _ _ hg]
  exact h

/-- A slice of numbers. -/
def Us (w : World) (v : Value) (l : List Nat) : Prop :=
  ∃ (A : Option Addr) (cap : Nat), v = .slice A l.length cap ∧ l.length ≤ 4294967296 ∧ (∀ x ∈ l, x < B256) ∧
    (0 < l.length → ∃ b o, A = some ⟨b, o, none⟩ ∧ b < w.heap.size ∧ ∀ i j, i < l.length → j < 4 → w.cell? ⟨b, o + i * 4 + j, none⟩ = some (.int .u64 (limb (l.getD i 0) j)))

set_option maxHeartbeats 1000000 in
theorem min_core (a b o cap : Nat) (l : List Nat) (w : World) (ha : a < B256) (hl : l.length ≤ 4294967296) (hx : ∀ x ∈ l, x < B256) (hb : b < w.heap.size)
    (hc : ∀ i j, i < l.length → j < 4 → w.cell? ⟨b, o + i * 4 + j, none⟩ = some (.int .u64 (limb (l.getD i 0) j))) :
    Calls Tryd.prog 32 #[U a, .slice (some ⟨b, o, none⟩) l.length cap] w fun e w' => e = .returned (U (minL a l)) ∧ Below w.heap.size w w' := by
  have HC := Lib.hid hc
  have HX := Lib.hid hx
  clear hc hx
  go_enter Tryd.func32, Tryd.ntmps32
  go_wp2
  go_loopw [11] (fun i wr => ∃ k m : Nat, k ≤ l.length ∧ i = .int .i64 k ∧ m < B256 ∧ Hid (m = minL a (l.take k)) ∧ Res (w.heap.size + 1) 24 #[.int .u64 0, .int .u64 0, .int .u64 0, .int .u64 0] wr ∧ Res (w.heap.size + 1 + 1) 24 (arr m) wr ∧ Below w.heap.size w wr) (fun i _ => l.length - (intOf i).toNat)
  case atStart =>
    have e1 := (Res.new (w.alloc (.cells (arr a) 24)) 24 #[.int .u64 0, .int .u64 0, .int .u64 0, .int .u64 0]).alloc (.cells (arr a) 24)
    have e2 := Res.new ((w.alloc (.cells (arr a) 24)).alloc (.cells #[.int .u64 0, .int .u64 0, .int .u64 0, .int .u64 0] 24)) 24 (arr a)
    rw [World.size_alloc] at e1
    rw [World.size_alloc, World.size_alloc] at e2
    exact ⟨0, a, Nat.zero_le _, rfl, ha, rfl, e1, e2, by go_grown⟩
  case round =>
    obtain ⟨k, m, hk, rfl, hmin, HM, hr1, hr2, hnx⟩ := hrel
    by_cases hlt : k < l.length
    · have c0 := (hnx.cell (p := ⟨b, o + k * 4 + 0, none⟩) hb).trans (HC.out k 0 hlt (by omega))
      have c1 := (hnx.cell (p := ⟨b, o + k * 4 + 1, none⟩) hb).trans (HC.out k 1 hlt (by omega))
      have c2 := (hnx.cell (p := ⟨b, o + k * 4 + 2, none⟩) hb).trans (HC.out k 2 hlt (by omega))
      have c3 := (hnx.cell (p := ⟨b, o + k * 4 + 3, none⟩) hb).trans (HC.out k 3 hlt (by omega))
      rw [Nat.add_zero] at c0
      have hxB : l.getD k 0 < B256 := HX.out _ (by rw [List.getD_eq_getElem?_getD, List.getElem?_eq_getElem hlt]; exact List.getElem_mem hlt)
      have htake : l.take (k + 1) = l.take k ++ [l.getD k 0] := by rw [List.take_add_one, List.getD_eq_getElem?_getD, List.getElem?_eq_getElem hlt]; rfl
      have HT := Lib.hid htake
      clear htake
      generalize l.getD k 0 = x at *
      have hstep : minL a (l.take (k + 1)) = if x < m then x else m := by rw [HT.out, minL_snoc, ← HM.out]
      have HS := Lib.hid hstep
      clear hstep HT HM
      have z2 := hr2.cells
      have l2 := hr2.lt
      go_wp2_with fail
      refine (cmp_any x m hxB hmin _).mono ?_
      rintro e w2 ⟨rfl, hw⟩
      have k1 := (hr1.alloc _).keep hw
      have k2 := (hr2.alloc _).keep hw
      have k3 := (Res.new _ _ _).keep hw
      have hb2 : Below w.heap.size w w2 := Below.trans (hnx.alloc hnx.size _) (hw.mono (by have := hnx.size; simp; omega))
      clear z2 c0 c1 c2 c3 hr1 hr2 HC HX
      have y2 := k2.cells
      have m2 := k2.marks
      have y3 := k3.cells
      by_cases hxm : x < m
      · have hneg : cmpI x m < 0 := by unfold cmpI; rw [if_pos hxm]; omega
        go_wp2
        go_roundw
        case rel => exact ⟨k + 1, x, by omega, by go_num, hxB, HS.out.symm ▸ (if_pos hxm).symm, k1.far4 _ _ _ _ (by omega), k2.put4 _ _ _ _, by go_grown⟩
        case measure => simp [intOf]; omega
      · have hneg : ¬ cmpI x m < 0 := by unfold cmpI; rw [if_neg hxm]; split <;> omega
        go_wp2
        go_roundw
        case rel => exact ⟨k + 1, m, by omega, by go_num, hmin, HS.out.symm ▸ (if_neg hxm).symm, k1, k2, hb2⟩
        case measure => simp [intOf]; omega
    · obtain rfl : k = l.length := by omega
      have hfin : m = minL a l := by rw [HM.out, List.take_length]
      have HF := Lib.hid hfin
      have y1 := hr1.cells
      have m1 := hr1.marks
      have y2 := hr2.cells
      clear hfin HM HC HX
      have tk : decide (l.length < l.length) = false := by simp
      go_wp2
      refine bodyPost_ret (v := U m) (by simp [results, Tryd.results32, go_sem, y1]) rfl ⟨by rw [HF.out], ?_⟩
      go_grown

theorem min_none (a cap : Nat) (A : Option Addr) (w : World) :
    Calls Tryd.prog 32 #[U a, .slice A 0 cap] w fun e w' => e = .returned (U a) ∧ Below w.heap.size w w' := by
  go_enter Tryd.func32, Tryd.ntmps32
  go_wp2
  refine wp_loop_rounds 1 ?_
  rw [rounds_succ]
  go_wp2
  refine bodyPost_ret (v := U a) (by simp [results, Tryd.results32, go_sem]) rfl ⟨rfl, ?_⟩
  go_grown

theorem min_any (a : Nat) (v : Value) (l : List Nat) (w : World) (ha : a < B256) (h : Us w v l) :
    Calls Tryd.prog 32 #[U a, v] w fun e w' => e = .returned (U (minL a l)) ∧ Below w.heap.size w w' := by
  obtain ⟨A, cap, rfl, h1, h2, h3⟩ := h
  by_cases hl : 0 < l.length
  · obtain ⟨b, o, rfl, hb, hc⟩ := h3 hl
    exact min_core a b o cap l w ha h1 h2 hb hc
  · obtain rfl : l = [] := List.eq_nil_of_length_eq_zero (by omega)
    exact min_none a cap A w

end Go.Proofs.YthhbijcddbncdaaDoor
