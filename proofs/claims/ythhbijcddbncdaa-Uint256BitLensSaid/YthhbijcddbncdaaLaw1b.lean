/- The walk of the law Uint256BitLens over this translation: for all numbers it returns true, and memory that was there is as it was. -/
import Derived.Test.YthhbijcddbncdaaUm
import Derived.Test.YthhbijcddbncdaaAwake1
namespace Go.Proofs.Ythhbijcddbncdaa
open Go.RowKit

/-! ### The numbers of binary digits of sums and products -/
theorem blen_sum (a b : Nat) : max (blen a) (blen b) ≤ blen (a + b) ∧ blen (a + b) ≤ max (blen a) (blen b) + 1 := by
  refine ⟨Nat.max_le.2 ⟨blen_mono (by omega), blen_mono (by omega)⟩, blen_le_of ?_⟩
  have h1 : a < 2 ^ max (blen a) (blen b) := Nat.lt_of_lt_of_le (blen_lt a) (Nat.pow_le_pow_right (by omega) (Nat.le_max_left _ _))
  have h2 : b < 2 ^ max (blen a) (blen b) := Nat.lt_of_lt_of_le (blen_lt b) (Nat.pow_le_pow_right (by omega) (Nat.le_max_right _ _))
  rw [Nat.pow_succ]; omega
theorem B256_pow : B256 = 2 ^ 256 := rfl
theorem blen_over {a b : Nat} (ha : a < B256) (hb : b < B256) (h : ¬ a + b < B256) : max (blen a) (blen b) = 256 := by
  have h1 := blen_256 ha; have h2 := blen_256 hb
  have h3 := (blen_sum a b).2
  have h4 : ¬ blen (a + b) ≤ 256 := fun h5 => h (by rw [B256_pow]; exact Nat.lt_of_lt_of_le (blen_lt _) (Nat.pow_le_pow_right (by omega) h5))
  omega
theorem blen_prod {a b : Nat} (ha : a ≠ 0) (hb : b ≠ 0) : blen (a * b) = blen a + blen b ∨ blen (a * b) + 1 = blen a + blen b := by
  have c1 := blen_pos ha; have c2 := blen_pos hb
  have h1 : a * b < 2 ^ (blen a + blen b) := by rw [Nat.pow_add]; exact Nat.mul_lt_mul'' (blen_lt a) (blen_lt b)
  have h2 : 2 ^ (blen a - 1 + (blen b - 1)) ≤ a * b := by rw [Nat.pow_add]; exact Nat.mul_le_mul (blen_le ha) (blen_le hb)
  have h3 := blen_le_of h1
  have hn : a * b ≠ 0 := Nat.mul_ne_zero ha hb
  have h4 : blen a - 1 + (blen b - 1) < blen (a * b) := (Nat.pow_lt_pow_iff_right (by omega : 1 < 2)).1 (Nat.lt_of_le_of_lt h2 (blen_lt _))
  omega
theorem blen_mover {a b : Nat} (h : ¬ a * b < B256) : 256 < blen a + blen b := by
  have h1 : a * b < 2 ^ (blen a + blen b) := by rw [Nat.pow_add]; exact Nat.mul_lt_mul'' (blen_lt a) (blen_lt b)
  rw [B256_pow] at h
  exact (Nat.pow_lt_pow_iff_right (by omega : 1 < 2)).1 (Nat.lt_of_le_of_lt (Nat.le_of_not_lt h) h1)

set_option maxHeartbeats 4000000 in
theorem bitlens_core (a b r s m n k l : Nat) (x y : Int) (w : World) (ha : a < B256) (hb : b < B256) (hr : r < B256) (hs : s < B256)
    (hm : m ≤ 256) (hn : n ≤ 256) (hk : k ≤ 256) (hl : l ≤ 256)
    (cm : Hid (blen a = m)) (cn : Hid (blen b = n)) (ck : Hid (blen r = k)) (cl : Hid (blen s = l))
    (cx : Hid (addE a b = x)) (cy : Hid (mulE a b = y)) (cr : Hid (addR a b = r)) (cs : Hid (mulR a b = s))
    (HF : Hid ((x = 0 → max m n ≤ k ∧ k ≤ max m n + 1) ∧ (x ≠ 0 → max m n = 256) ∧ (y = 0 → 0 < m → 0 < n → l = m + n ∨ l + 1 = m + n) ∧ (y ≠ 0 → 256 < m + n))) :
    Calls Try.prog 7 #[U a, U b] w fun e w' => e = .returned (.bool true) ∧ Below w.heap.size w w' := by
  have rA0 : Res w.heap.size 24 (arr a) ((w.alloc (.cells (arr a) 24)).alloc (.cells (arr b) 24)) := (Res.new w 24 (arr a)).alloc _
  have rB0 : Res (w.heap.size + 1) 24 (arr b) ((w.alloc (.cells (arr a) 24)).alloc (.cells (arr b) 24)) := by
    have h := Res.new (w.alloc (.cells (arr a) 24)) 24 (arr b)
    rw [World.size_alloc] at h
    exact h
  have b0 : Below w.heap.size w ((w.alloc (.cells (arr a) 24)).alloc (.cells (arr b) 24)) := by go_grown
  replace rA0 := rA0.drew
  replace rB0 := rB0.drew
  replace b0 := b0.drew
  go_enter Try.func7, Try.ntmps7
  go_wp2
  go_region_held3 (fun w' => w'.cell? ⟨w.heap.size, 0, none⟩ = some (.int .u64 (limb a 0)) ∧ w'.cell? ⟨w.heap.size, 1, none⟩ = some (.int .u64 (limb a 1)) ∧ w'.cell? ⟨w.heap.size, 2, none⟩ = some (.int .u64 (limb a 2)) ∧ w'.cell? ⟨w.heap.size, 3, none⟩ = some (.int .u64 (limb a 3)) ∧ w'.cell? ⟨w.heap.size + 1, 0, none⟩ = some (.int .u64 (limb b 0)) ∧ w'.cell? ⟨w.heap.size + 1, 1, none⟩ = some (.int .u64 (limb b 1)) ∧ w'.cell? ⟨w.heap.size + 1, 2, none⟩ = some (.int .u64 (limb b 2)) ∧ w'.cell? ⟨w.heap.size + 1, 3, none⟩ = some (.int .u64 (limb b 3)))
    (first | (go_keep; done) | (go_split_ands; refine ⟨?_, ?_, ?_, ?_, ?_, ?_, ?_, ?_⟩ <;> (rw [hw.cell (World.block_lt_of_cell? _ _ (by assumption))]; assumption)))
    (first | (go_at_call 27; refine (bitlen_any _ (by assumption) _).mono ?_; rintro e w2 ⟨rfl, hw⟩; have b0 := chain b0 hw; have rA0 := Res.keep rA0 hw; have rB0 := Res.keep rB0 hw))
  rw [cm.out, cn.out]
  have zA := rA0.cells
  have zB := rB0.cells
  go_wp2_with fail
  refine (add_any a b ha hb _).mono ?_
  rintro e w3 ⟨rfl, h3⟩
  rw [cx.out, cr.out]
  have rA3 := rA0.keep h3
  have rB3 := rB0.keep h3
  have b3 := chain b0 h3
  clear zA zB
  have zA3 := rA3.cells
  have zB3 := rB3.cells
  have lA3 := rA3.lt
  have lB3 := rB3.lt
  go_wp2_with fail
  refine (mul_any a b ha hb _).mono ?_
  rintro e w4 ⟨rfl, h4⟩
  rw [cy.out, cs.out]
  have rX4 := (Res.new _ _ _).keep h4
  have b4 := chain (b3.alloc b3.size _) h4
  clear zA3 zB3 lA3 lB3
  have lX4 := rX4.lt
  have rX5 := (rX4.alloc (.cells (arr s) 24)).drew
  have rY5 := (Res.new w4 24 (arr s)).drew
  have b5 := (b4.alloc b4.size (.cells (arr s) 24)).drew
  have zX4 := rX4.cells
  go_wp2
  go_region_held3 (fun w' => w'.cell? ⟨w3.heap.size, 0, none⟩ = some (.int .u64 (limb r 0)) ∧ w'.cell? ⟨w3.heap.size, 1, none⟩ = some (.int .u64 (limb r 1)) ∧ w'.cell? ⟨w3.heap.size, 2, none⟩ = some (.int .u64 (limb r 2)) ∧ w'.cell? ⟨w3.heap.size, 3, none⟩ = some (.int .u64 (limb r 3)) ∧ w'.cell? ⟨w4.heap.size, 0, none⟩ = some (.int .u64 (limb s 0)) ∧ w'.cell? ⟨w4.heap.size, 1, none⟩ = some (.int .u64 (limb s 1)) ∧ w'.cell? ⟨w4.heap.size, 2, none⟩ = some (.int .u64 (limb s 2)) ∧ w'.cell? ⟨w4.heap.size, 3, none⟩ = some (.int .u64 (limb s 3)))
    (first | (go_keep; done) | (go_split_ands; refine ⟨?_, ?_, ?_, ?_, ?_, ?_, ?_, ?_⟩ <;> (rw [hw.cell (World.block_lt_of_cell? _ _ (by assumption))]; assumption)))
    (first | (go_at_call 27; refine (bitlen_any _ (by assumption) _).mono ?_; rintro e w2 ⟨rfl, hw⟩; have b5 := chain b5 hw))
  rw [ck.out, cl.out]
  clear zX4 lX4
  go_wp2_with fail
  all_goals first | (refine (awake_any _).mono ?_; rintro e wz ⟨rfl, hz⟩; go_wp2; go_ret; exact ⟨rfl, chain b5 hz⟩) | (exfalso; have F := HF.out; omega) | (exfalso; have F := HF.out; have h1 : ((l : Int) != (m : Int) + (n : Int)) = true ∧ ((l : Int) != (m : Int) + (n : Int) - 1) = true := (by assumption); simp at h1; omega)

theorem bitlens_law (a b : Nat) (ha : a < B256) (hb : b < B256) (w : World) :
    Calls Try.prog 7 #[U a, U b] w fun e w' => e = .returned (.bool true) ∧ Below w.heap.size w w' := by
  refine bitlens_core a b (addR a b) (mulR a b) (blen a) (blen b) (blen (addR a b)) (blen (mulR a b)) (addE a b) (mulE a b) w ha hb (addR_lt a b) (mulR_lt a b) (blen_256 ha) (blen_256 hb) (blen_256 (addR_lt a b)) (blen_256 (mulR_lt a b)) rfl rfl rfl rfl rfl rfl rfl rfl ⟨fun hx => ?_, fun hx => ?_, fun hy hm hn => ?_, fun hy => ?_⟩
  · have h : a + b < B256 := by
      by_cases h : a + b < B256
      · exact h
      · rw [show addE a b = 4 from if_neg h] at hx; omega
    rw [show addR a b = a + b from if_pos h]
    exact blen_sum a b
  · exact blen_over ha hb fun h => hx (if_pos h)
  · have h : a * b < B256 := by
      by_cases h : a * b < B256
      · exact h
      · rw [show mulE a b = 4 from if_neg h] at hy; omega
    rw [show mulR a b = a * b from if_pos h]
    exact blen_prod (fun e => by subst e; simp [blen_zero] at hm) (fun e => by subst e; simp [blen_zero] at hn)
  · exact blen_mover fun h => hy (if_pos h)

end Go.Proofs.Ythhbijcddbncdaa
