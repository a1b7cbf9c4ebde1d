/- Contracts of uint256.SaturatingSub and uint256.Min over this translation: the difference or zero; the least of the numbers. Memory that was there is as it was. -/
import Derived.Test.YtbhffhipbdakgaaDoorUc
namespace Go.Proofs.YtbhffhipbdakgaaDoor
open Go.RowKit

theorem satsub_ok (a b r : Nat) (c : Int) (w : World) (hc : (c != 0) = false)
    (C : ∀ w, Calls Tryd.prog 55 #[U a, U b] w fun e w' => e = .returned (.tuple #[U r, .int .i64 c]) ∧ Below w.heap.size w w') :
    Calls Tryd.prog 39 #[U a, U b] w fun e w' => e = .returned (U r) ∧ Below w.heap.size w w' := by
  have HC := Lib.hid C
  clear C
  go_enter Tryd.func39, Tryd.ntmps39
  go_wp2_with (go_at_call 55; refine (HC.out _).mono ?_; rintro e w2 ⟨rfl, hw⟩; obtain ⟨hk, hm, hs⟩ := keepNew hw; simp only [World.size_alloc] at hk hm hs; have hs1 := Nat.lt_succ_of_lt hs; rw [Nat.succ_eq_add_one] at hs1)
  have hb0 : Below w.heap.size w w2 := Below.trans (by go_grown) (hw.mono (by simp; omega))
  refine bodyPost_ret (v := U r) (by simp [results, Tryd.results39, go_sem, hs, hk]) rfl ⟨rfl, ?_⟩
  go_grown

theorem satsub_over (a b r : Nat) (c : Int) (w : World) (hc : (c != 0) = true)
    (C : ∀ w, Calls Tryd.prog 55 #[U a, U b] w fun e w' => e = .returned (.tuple #[U r, .int .i64 c]) ∧ Below w.heap.size w w') :
    Calls Tryd.prog 39 #[U a, U b] w fun e w' => e = .returned (.agg #[.int .u64 0, .int .u64 0, .int .u64 0, .int .u64 0]) ∧ Below w.heap.size w w' := by
  have HC := Lib.hid C
  clear C
  go_enter Tryd.func39, Tryd.ntmps39
  go_wp2_with (go_at_call 55; refine (HC.out _).mono ?_; rintro e w2 ⟨rfl, hw⟩; obtain ⟨hk, hm, hs⟩ := keepNew hw; simp only [World.size_alloc] at hk hm hs; have hs1 := Nat.lt_succ_of_lt hs; rw [Nat.succ_eq_add_one] at hs1)
  have hb0 : Below w.heap.size w w2 := Below.trans (by go_grown) (hw.mono (by simp; omega))
  refine bodyPost_ret (v := .agg #[.int .u64 0, .int .u64 0, .int .u64 0, .int .u64 0]) (by simp [results, Tryd.results39, go_sem, hs, hk]) rfl ⟨rfl, ?_⟩
  go_grown

theorem satsub_any (a b : Nat) (ha : a < B256) (hb : b < B256) (w : World) :
    Calls Tryd.prog 39 #[U a, U b] w fun e w' => e = .returned (U (subR a b)) ∧ Below w.heap.size w w' := by
  have C := sub_any a b ha hb
  by_cases h : b ≤ a
  · exact satsub_ok a b _ _ w (by rw [show subE a b = 0 from if_pos h]; rfl) C
  · rw [show subR a b = 0 from if_neg h, U_zero]
    exact satsub_over a b _ _ w (by rw [show subE a b = 4 from if_neg h]; rfl) C

/-! ### Min -/
/-- The least of a and the numbers of l. -/
def minL (a : Nat) (l : List Nat) : Nat := l.foldl (fun m x => if x < m then x else m) a
theorem minL_snoc (a : Nat) (l : List Nat) (x : Nat) : minL a (l ++ [x]) = if x < minL a l then x else minL a l := by
  unfold minL; rw [List.foldl_append]; rfl

theorem Res.put4 {g : Nat} {t : TypeId} {c0 c1 c2 c3 : Value} {w : World} (h : Res g t #[c0, c1, c2, c3] w) (x0 x1 x2 x3 : Value) :
    Res g t #[x0, x1, x2, x3] ((((w.setCell ⟨g, 0, none⟩ x0).setCell ⟨g, 1, none⟩ x1).setCell ⟨g, 2, none⟩ x2).setCell ⟨g, 3, none⟩ x3) := by
  have e : ∀ (w : World) (c : Array Value) (i : Nat) (x : Value), Res g t c w → Res g t (c.setIfInBounds i x) (w.setCell ⟨g, i, none⟩ x) := fun w c i x h => by
    unfold Res at h ⊢
    simp [World.setCell, Array.getElem?_modify, h]
  exact e _ _ 3 x3 (e _ _ 2 x2 (e _ _ 1 x1 (e _ _ 0 x0 h)))
theorem Res.far4 {g g' : Nat} {t : TypeId} {c : Array Value} {w : World} (h : Res g t c w) (x0 x1 x2 x3 : Value) (hg : g ≠ g') :
    Res g t c ((((w.setCell ⟨g', 0, none⟩ x0).setCell ⟨g', 1, none⟩ x1).setCell ⟨g', 2, none⟩ x2).setCell ⟨g', 3, none⟩ x3) := by
  unfold Res at h ⊢
  rw [Below.heap_setCell _ _ _ _ hg, Below.heap_setCell _ _ _ _ hg, Below.heap_setCell _ _ _ _ hg, Below.heap_setCell _ _ _ _ hg]
  exact h

/-- A slice of numbers. -/
def Us (w : World) (v : Value) (l : List Nat) : Prop :=
  ∃ (A : Option Addr) (cap : Nat), v = .slice A l.length cap ∧ l.length ≤ 4294967296 ∧ (∀ x ∈ l, x < B256) ∧
    (0 < l.length → ∃ b o, A = some ⟨b, o, none⟩ ∧ b < w.heap.size ∧ ∀ i j, i < l.length → j < 4 → w.cell? ⟨b, o + i * 4 + j, none⟩ = some (.int .u64 (limb (l.getD i 0) j)))

end Go.Proofs.YtbhffhipbdakgaaDoor

