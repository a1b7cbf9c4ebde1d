/- Contract of the reference's short over this translation: quotient and remainder of a number by a digit; memory that was there is as it was. -/
import Derived.Test.YtkionnggdncncaaDoorRefe
import Derived.Test.YtkionnggdncncaaDoorDivn
namespace Go.Proofs.YtkionnggdncncaaDoor
open Go.RowKit

theorem Res.set1 {g : Nat} {t : TypeId} {c : Array Value} {w : World} (h : Res g t c w) (i : Nat) (x : Value) : Res g t (c.setIfInBounds i x) (w.setCell ⟨g, i, none⟩ x) := by
  unfold Res at h ⊢
  simp [World.setCell, Array.getElem?_modify, h]
theorem Res.far1 {g g' : Nat} {t : TypeId} {c : Array Value} {w : World} (h : Res g t c w) (i : Nat) (x : Value) (hg : g ≠ g') : Res g t c (w.setCell ⟨g', i, none⟩ x) := by
  unfold Res at h ⊢
  rw [Below.heap_setCell _ _ _ _ hg]; exact h
theorem Res.drewN {g : Nat} {t : TypeId} {c : Array Value} {w : World} (h : Res g t c w) (n : Nat) : Res g t c (w.drewN n) := h
/-- A row of digits that lies in a block of its own. -/
theorem raw_of_res {w : World} {g n L : Nat} {t : TypeId} (h : Res g t (rowA (dig n) L) w) (hn : n < 65536 ^ L) (hL : L ≤ 4294967296) : Raw w (.slice (some ⟨g, 0, none⟩) L L) n L :=
  ⟨_, L, rfl, Nat.le_refl _, hL, hn, fun _ => ⟨g, rfl, h.lt, fun i hi => (h.cells i).trans (rowA_get hi)⟩⟩

/-- Two results that read as numbers. -/
def TwoBig (x y : Nat) (w : World) (e : Ending) (w' : World) : Prop := ∃ u v, e = .returned (.tuple #[u, v]) ∧ Big w' u x ∧ Big w' v y ∧ Below w.heap.size w w'
/-- The same, both in new memory. -/
def TwoBigN (x y : Nat) (w : World) (e : Ending) (w' : World) : Prop := ∃ u v, e = .returned (.tuple #[u, v]) ∧ Big w' u x ∧ Big w' v y ∧ Below w.heap.size w w' ∧ Fresh w u ∧ Fresh w v

set_option maxRecDepth 100000 in
set_option maxHeartbeats 2000000 in
theorem short_core (A : Option Addr) (n d c : Nat) (w : World) (hn : nd n ≤ 1048576) (hd : 0 < d) (hd' : d < 65536) (hA : At w A n) :
    Calls Tryd.prog 61 #[.slice A (nd n) c, .int .i64 d] w fun e w' => TwoBigN (n / d) (n % d) w e w' := by
  have mk := mk_run (nd n) (by omega)
  rw [made_rowA, quoF_top n d] at mk
  have HA := Lib.hid hA
  clear hA
  have hd0 : ((d : Int) == 0) = false := by simp; omega
  have hdp : (0 : Int) < (d : Int) := by omega
  have hdl : (d : Int) < 65536 := by omega
  have H0 := Lib.hid (lft_top (n := n) (d := d) (nd_lt n))
  go_enter Tryd.func61, Tryd.ntmps61
  go_wp2
  go_loopw [7, 8] (fun o i wr => ∃ k q : Nat, k ≤ nd n ∧ i = .int .i64 ((k : Int) - 1) ∧ o = .int .i64 (lft n d k) ∧ Res w.heap.size 3 (rowA (quoF n d k) (nd n)) wr ∧ Below w.heap.size w wr) (fun _ i _ => (intOf i + 1).toNat)
  case atStart => exact ⟨nd n, 0, Nat.le_refl _, rfl, by rw [H0.out], Res.new _ _ _, (Below.refl _ _).alloc (Nat.le_refl _) _⟩
  case round =>
    obtain ⟨k, q, hk, rfl, rfl, hr, hnx⟩ := hrel
    rcases k with _ | j
    · have HR := Lib.hid (raw_of_res (by rw [← quoF_zero]; exact hr : Res w.heap.size 3 (rowA (dig (n / d)) (nd n)) wr) (Nat.lt_of_le_of_lt (Nat.div_le_self _ _) (nd_lt n)) (by omega))
      have hm : n % d < 65536 := Nat.lt_trans (Nat.mod_lt _ hd) hd'
      have HL := Lib.hid (lft_zero n d)
      have H1 : Hid (∀ W : World, Raw (W.alloc (.cells #[.int .i64 (lft n d 0)] 3)) (.slice (some ⟨W.heap.size, 0, none⟩) 1 1) (n % d) 1) := fun W => by
        refine ⟨_, 1, rfl, by omega, by omega, hm, fun _ => ⟨W.heap.size, rfl, by simp, fun i hi => ?_⟩⟩
        obtain rfl : i = 0 := by omega
        rw [(Res.new W 3 #[.int .i64 (lft n d 0)]).cells 0, HL.out]
        show some (Value.int .i64 _) = _
        unfold dig
        rw [Nat.pow_zero, Nat.div_one, Nat.mod_eq_of_lt hm]
      clear HA hr HL
      go_wp2_with fail
      refine (norm_own _ (n / d) (nd n) _ HR.out).mono ?_
      rintro e w2 ⟨u, rfl, hu, ho1, rfl⟩
      have HO1 := Lib.hid ho1
      clear ho1
      go_wp2_with fail
      refine (norm_own _ (n % d) 1 _ (H1.out _)).mono ?_
      rintro e w3 ⟨v, rfl, hv, ho2, rfl⟩
      have HO2 := Lib.hid ho2
      clear ho2
      go_wp2
      go_ret2
      have hb : Below wr.heap.size wr (wr.alloc (.cells #[.int .i64 (lft n d 0)] 3)) := (Below.refl _ _).alloc (Nat.le_refl _) _
      have hsz := hnx.size
      exact ⟨u, v, rfl, hu.below hb, hv, hnx.alloc hnx.size _, fun b h => by rw [HO1.out] at h; simp [Value.ownBlock] at h; omega, fun b h => by rw [HO2.out] at h; simp [Value.ownBlock] at h; omega⟩
    · obtain ⟨g, rfl, hgB, hga⟩ := HA.out (by omega)
      have ca := (hnx.cell (p := ⟨g, j, none⟩) hgB).trans (hga j (by omega))
      have d1 := dig_nonneg n j
      have d2 := dig_lt n j
      obtain ⟨l1, l2⟩ := lft_bounds n d (j + 1) hd
      obtain ⟨s1, s2⟩ := short_step n d j hd
      have hi : ((j + 1 : Nat) : Int) - 1 = (j : Int) := by omega
      rw [hi]
      have i1 : (0 : Int) ≤ (j : Int) := by omega
      have i2 : (j : Int) < (nd n : Int) := by omega
      have co := (hr.cells j).trans (rowA_get (by omega))
      have hfz := hr.marks j
      have R := (hr.set1 j (.int .i64 (dig (n / d) j)))
      rw [quoF_set] at R
      clear hga HA hr
      go_wp2
      go_region
      go_wp2
      go_roundw
      case rel => exact ⟨j, 0, by omega, by go_num, by first | rfl | rw [s2], R.drew, (hnx.setCell (by exact Nat.le_refl _) _).drew⟩
      case measure => simp [intOf]

theorem short_any (u : Value) (n d : Nat) (w : World) (hu : Big w u n) (hn : nd n ≤ 1048576) (hd : 0 < d) (hd' : d < 65536) :
    Calls Tryd.prog 61 #[u, .int .i64 d] w fun e w' => TwoBigN (n / d) (n % d) w e w' := by
  obtain ⟨A, c, rfl, h1, h2, h3, h4⟩ := hu
  exact short_core A n d c w hn hd hd' h4

end Go.Proofs.YtkionnggdncncaaDoor

