/- Contract of the reference's Cmp over this translation: it returns the order of the two numbers that the slices read as; memory is as it was but for draws. -/
import Derived.Test.YtkionnggdncncaaDoorRefa
namespace Go.Proofs.YtkionnggdncncaaDoor
open Go.RowKit

theorem rcmp_lt (A B : Option Addr) (m n c d : Nat) (w : World) (h : m < n) (_hn : n ≤ 4294967296) :
    Calls Tryd.prog 62 #[.slice A m c, .slice B n d] w fun e w' => e = .returned (.int .i64 (-1)) ∧ Below w.heap.size w w' := by
  have h1 : ((m : Int) != (n : Int)) = true := by simp; omega
  go_enter Tryd.func62, Tryd.ntmps62
  go_wp2
  go_ret
  exact ⟨rfl, Below.refl _ _⟩
theorem rcmp_gt (A B : Option Addr) (m n c d : Nat) (w : World) (h : n < m) (_hn : m ≤ 4294967296) :
    Calls Tryd.prog 62 #[.slice A m c, .slice B n d] w fun e w' => e = .returned (.int .i64 1) ∧ Below w.heap.size w w' := by
  have h1 : ((m : Int) != (n : Int)) = true := by simp; omega
  have h2 : decide ((m : Int) < (n : Int)) = false := by simp; omega
  go_enter Tryd.func62, Tryd.ntmps62
  go_wp2
  go_ret
  exact ⟨rfl, Below.refl _ _⟩

set_option maxHeartbeats 1000000 in
theorem rcmp_same (A B : Option Addr) (len c d a b : Nat) (w : World) (hl : len ≤ 4294967296) (ha : a < 65536 ^ len) (hb : b < 65536 ^ len)
    (hA : 0 < len → ∃ g, A = some ⟨g, 0, none⟩ ∧ ∀ i, i < len → w.cell? ⟨g, i, none⟩ = some (.int .i64 (dig a i)))
    (hB : 0 < len → ∃ g, B = some ⟨g, 0, none⟩ ∧ ∀ i, i < len → w.cell? ⟨g, i, none⟩ = some (.int .i64 (dig b i))) :
    Calls Tryd.prog 62 #[.slice A len c, .slice B len d] w fun e w' => e = .returned (.int .i64 (cmpI a b)) ∧ Below w.heap.size w w' := by
  have h1 : ((len : Int) != (len : Int)) = false := by simp
  have HA := Lib.hid hA
  have HB := Lib.hid hB
  have HE := Lib.hid (show a / 65536 ^ len = b / 65536 ^ len by rw [Nat.div_eq_of_lt ha, Nat.div_eq_of_lt hb])
  clear hA hB ha hb
  go_enter Tryd.func62, Tryd.ntmps62
  go_wp2
  go_loopw [5] (fun i w' => ∃ k q : Nat, k ≤ len ∧ i = .int .i64 ((k : Int) - 1) ∧ Hid (a / 65536 ^ k = b / 65536 ^ k) ∧ w' = w.drewN q) (fun i _ => (intOf i + 1).toNat)
  case atStart => exact ⟨len, 0, Nat.le_refl _, rfl, HE, rfl⟩
  case round =>
    obtain ⟨k, q, hk, rfl, HK, rfl⟩ := hrel
    rcases k with _ | j
    · have e : cmpI a b = 0 := by
        have := HK.out
        rw [Nat.pow_zero, Nat.div_one, Nat.div_one] at this
        subst this
        unfold cmpI; rw [if_neg (by omega), if_neg (by omega)]
      have He := Lib.hid e
      clear e
      go_wp2
      go_ret
      exact ⟨by rw [He.out]; rfl, by repeat (first | exact Below.refl _ _ | refine belowN ?_)⟩
    · obtain ⟨g, rfl, hcA⟩ := HA.out (by omega)
      obtain ⟨g', rfl, hcB⟩ := HB.out (by omega)
      have ca := hcA j (by omega)
      have cb := hcB j (by omega)
      clear hcA hcB HA HB
      have hi : ((j + 1 : Nat) : Int) - 1 = (j : Int) := by omega
      rw [hi]
      have hj1 : (j : Int) < (len : Int) := by omega
      rcases Int.lt_trichotomy (dig a j) (dig b j) with h | h | h
      · have e : cmpI a b = -1 := if_pos (lt_of_dig HK.out h)
        have He := Lib.hid e
        clear e
        go_wp2
        go_quiet (fail)
        go_wp2
        go_ret
        exact ⟨by rw [He.out]; rfl, by repeat (first | exact Below.refl _ _ | refine belowN ?_)⟩
      · have He := Lib.hid (eq_of_dig HK.out h)
        have d1 : decide (dig a j < dig b j) = false := by simp; omega
        have d2 : decide (dig b j < dig a j) = false := by simp; omega
        clear h HK
        go_wp2
        go_quiet (fail)
        go_wp2
        go_quiet (fail)
        go_wp2
        go_roundw
        case rel => exact ⟨j, _, by omega, by go_num, He, rfl⟩
        case measure => simp [intOf]
      · have e : cmpI a b = 1 := by
          have := lt_of_dig HK.out.symm h
          unfold cmpI; rw [if_neg (by omega), if_pos this]
        have He := Lib.hid e
        have d1 : decide (dig a j < dig b j) = false := by simp; omega
        clear e
        go_wp2
        go_quiet (fail)
        go_wp2
        go_quiet (fail)
        go_wp2
        go_ret
        exact ⟨by rw [He.out]; rfl, by repeat (first | exact Below.refl _ _ | refine belowN ?_)⟩

theorem rcmp_any (u v : Value) (a b : Nat) (w : World) (hu : Big w u a) (hv : Big w v b) :
    Calls Tryd.prog 62 #[u, v] w fun e w' => e = .returned (.int .i64 (cmpI a b)) ∧ Below w.heap.size w w' := by
  obtain ⟨A, c, rfl, h1, h2, h3, h4⟩ := hu
  obtain ⟨B, d, rfl, k1, k2, k3, k4⟩ := hv
  rcases Nat.lt_trichotomy (nd a) (nd b) with h | h | h
  · rw [show cmpI a b = -1 from if_pos (lt_of_nd h)]
    exact rcmp_lt _ _ _ _ _ _ w h k2
  · rw [h] at h2 h3 h4 ⊢
    exact rcmp_same A B (nd b) c d a b w k2 h3 k3 (fun hp => by obtain ⟨g, e, _, hc⟩ := h4 hp; exact ⟨g, e, hc⟩) (fun hp => by obtain ⟨g, e, _, hc⟩ := k4 hp; exact ⟨g, e, hc⟩)
  · have hlt := lt_of_nd h
    rw [show cmpI a b = 1 from by unfold cmpI; rw [if_neg (by omega), if_pos hlt]]
    exact rcmp_gt _ _ _ _ _ _ w h h2

end Go.Proofs.YtkionnggdncncaaDoor

