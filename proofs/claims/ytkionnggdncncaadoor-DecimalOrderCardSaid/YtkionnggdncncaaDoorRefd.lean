/- Contract of the reference's Add over this translation: the slice that it returns reads as the sum of the two numbers; memory that was there is as it was. -/
import Derived.Test.YtkionnggdncncaaDoorRefa
import Derived.Test.YtkionnggdncncaaDoorCar
import Derived.OwnWalk
namespace Go.Proofs.YtkionnggdncncaaDoor
open Go.RowKit

/-- A slice that lies below B, reads as n, and keeps so. -/
def At (w : World) (A : Option Addr) (n : Nat) : Prop := 0 < nd n → ∃ g, A = some ⟨g, 0, none⟩ ∧ g < w.heap.size ∧ ∀ i, i < nd n → w.cell? ⟨g, i, none⟩ = some (.int .i64 (dig n i))

set_option maxRecDepth 100000 in
set_option maxHeartbeats 2000000 in
theorem radd_core (A B : Option Addr) (a b c d : Nat) (w : World) (ha : nd a ≤ 1048576) (hb : nd b ≤ 1048576) (hA : At w A a) (hB : At w B b) :
    Calls Tryd.prog 31 #[.slice A (nd a) c, .slice B (nd b) d] w fun e w' => ∃ v, e = .returned v ∧ w'.ownsRow w.heap.size 3 1 v (nd (a + b)) (digs (a + b) (nd (a + b))) ∧ Below w.heap.size w w' := by
  have hi : Tryd.prog.info? 3 = some Tryd.t3 := by kernel_rfl
  have HA := Lib.hid hA
  have HB := Lib.hid hB
  clear hA hB
  go_enter Tryd.func31, Tryd.ntmps31
  go_wp2
  go_loopw [5, 6, 7] (fun v o i wr => ∃ k : Nat, k ≤ nd (a + b) ∧ i = .int .i64 k ∧ o = .int .i64 (car a b k) ∧ wr.ownsRow w.heap.size 3 1 v k (digs (a + b) k) ∧ Below w.heap.size w wr) (fun _ _ i _ => nd (a + b) - (intOf i).toNat)
  case atStart => exact ⟨0, Nat.zero_le _, rfl, by rw [car_zero], World.ownsRow_nil _ _ _ _, Below.refl _ _⟩
  case round =>
    obtain ⟨k, hk, rfl, rfl, hown, hnx⟩ := hrel
    have hkb : k ≤ 1048577 := Nat.le_trans hk (nd_add a b 1048576 ha hb)
    have c0 := car_nonneg a b k
    have c1 := car_le a b k
    by_cases ta : k < nd a
    · by_cases tb : k < nd b
      · skip
        obtain ⟨g, rfl, hgB, hga⟩ := HA.out (by omega)
        have ca := (hnx.cell (p := ⟨g, k, none⟩) hgB).trans (hga k ta)
        have d1 := dig_nonneg a k
        have d2 := dig_lt a k
        obtain ⟨g', rfl, hgB', hgb⟩ := HB.out (by omega)
        have cb := (hnx.cell (p := ⟨g', k, none⟩) hgB').trans (hgb k tb)
        have d3 := dig_nonneg b k
        have d4 := dig_lt b k
        have e1 := dig_add a b k
        have e2 := car_succ a b k
        have hand : bits BinOp.and IntKind.i64 (car a b k + dig a k + dig b k) 65535 = dig (a + b) k := (and16i _ (by omega) (by omega)).trans e1
        have hlt := add_more (a := a) (b := b) (k := k) (by omega)
        have hshr : (car a b k + dig a k + dig b k) / 65536 = car a b (k + 1) := e2
        clear e1 e2 
        clear HA HB hga hgb
        go_wp2_with (at_builtin; refine wpList_append_own _ rfl _ _ 54 rfl w.heap.size 3 Tryd.t3 (.int .i64 0) 1 8 Tryd.underlying54 hi rfl rfl rfl rfl (by decide) _ _ _ rfl (hown.alloc _) ⟨wr.heap.size, 0, none⟩ 1 1 [.int .i64 (dig (a + b) k)] rfl rfl (cell_one_new _ _ _) ?c2 ?c3 ?c4 ?c5 ?_)
        case c2 => intro u hu; simp at hu; subst hu; rfl
        case c3 => unfold maxLen; omega
        case c4 => omega
        case c5 => have := hnx.size; simp; omega
        intro v' w1 hown' hgrow _
        obtain ⟨R1, R2⟩ := grow_rel hown hnx hnx.size hown' hgrow
        clear hown' hgrow hown hand
        go_wp2
        go_roundw
        case rel => exact ⟨k + 1, by omega, by go_num, rfl, R1, R2⟩
        case measure => simp [intOf]; omega
      · skip
        obtain ⟨g, rfl, hgB, hga⟩ := HA.out (by omega)
        have ca := (hnx.cell (p := ⟨g, k, none⟩) hgB).trans (hga k ta)
        have d1 := dig_nonneg a k
        have d2 := dig_lt a k
        have tb' : decide (k < nd b) = false := by simp; omega
        have zb := dig_high (n := b) (k := k) (by omega)
        have e1 := dig_add a b k
        have e2 := car_succ a b k
        rw [zb] at e1 e2
        simp only [Int.add_zero] at e1 e2
        have hand : bits BinOp.and IntKind.i64 (car a b k + dig a k) 65535 = dig (a + b) k := (and16i _ (by omega) (by omega)).trans e1
        have hlt := add_more (a := a) (b := b) (k := k) (by omega)
        have hshr : (car a b k + dig a k) / 65536 = car a b (k + 1) := e2
        clear e1 e2 zb
        clear HA HB hga
        go_wp2_with (at_builtin; refine wpList_append_own _ rfl _ _ 54 rfl w.heap.size 3 Tryd.t3 (.int .i64 0) 1 8 Tryd.underlying54 hi rfl rfl rfl rfl (by decide) _ _ _ rfl (hown.alloc _) ⟨wr.heap.size, 0, none⟩ 1 1 [.int .i64 (dig (a + b) k)] rfl rfl (cell_one_new _ _ _) ?c2 ?c3 ?c4 ?c5 ?_)
        case c2 => intro u hu; simp at hu; subst hu; rfl
        case c3 => unfold maxLen; omega
        case c4 => omega
        case c5 => have := hnx.size; simp; omega
        intro v' w1 hown' hgrow _
        obtain ⟨R1, R2⟩ := grow_rel hown hnx hnx.size hown' hgrow
        clear hown' hgrow hown hand
        go_wp2
        go_roundw
        case rel => exact ⟨k + 1, by omega, by go_num, rfl, R1, R2⟩
        case measure => simp [intOf]; omega
    · by_cases tb : k < nd b
      · skip
        have ta' : decide (k < nd a) = false := by simp; omega
        have za := dig_high (n := a) (k := k) (by omega)
        obtain ⟨g', rfl, hgB', hgb⟩ := HB.out (by omega)
        have cb := (hnx.cell (p := ⟨g', k, none⟩) hgB').trans (hgb k tb)
        have d3 := dig_nonneg b k
        have d4 := dig_lt b k
        have e1 := dig_add a b k
        have e2 := car_succ a b k
        rw [za] at e1 e2
        simp only [Int.add_zero] at e1 e2
        have hand : bits BinOp.and IntKind.i64 (car a b k + dig b k) 65535 = dig (a + b) k := (and16i _ (by omega) (by omega)).trans e1
        have hlt := add_more (a := a) (b := b) (k := k) (by omega)
        have hshr : (car a b k + dig b k) / 65536 = car a b (k + 1) := e2
        clear e1 e2 za
        clear HA HB hgb
        go_wp2_with (at_builtin; refine wpList_append_own _ rfl _ _ 54 rfl w.heap.size 3 Tryd.t3 (.int .i64 0) 1 8 Tryd.underlying54 hi rfl rfl rfl rfl (by decide) _ _ _ rfl (hown.alloc _) ⟨wr.heap.size, 0, none⟩ 1 1 [.int .i64 (dig (a + b) k)] rfl rfl (cell_one_new _ _ _) ?c2 ?c3 ?c4 ?c5 ?_)
        case c2 => intro u hu; simp at hu; subst hu; rfl
        case c3 => unfold maxLen; omega
        case c4 => omega
        case c5 => have := hnx.size; simp; omega
        intro v' w1 hown' hgrow _
        obtain ⟨R1, R2⟩ := grow_rel hown hnx hnx.size hown' hgrow
        clear hown' hgrow hown hand
        go_wp2
        go_roundw
        case rel => exact ⟨k + 1, by omega, by go_num, rfl, R1, R2⟩
        case measure => simp [intOf]; omega
      · by_cases tc : 0 < car a b k
        · skip
          have ta' : decide (k < nd a) = false := by simp; omega
          have za := dig_high (n := a) (k := k) (by omega)
          have tb' : decide (k < nd b) = false := by simp; omega
          have zb := dig_high (n := b) (k := k) (by omega)
          have tc' : decide (0 < car a b k) = true := by simpa using tc
          have e1 := dig_add a b k
          have e2 := car_succ a b k
          rw [za, zb] at e1 e2
          simp only [Int.add_zero] at e1 e2
          have hand : bits BinOp.and IntKind.i64 (car a b k) 65535 = dig (a + b) k := (and16i _ (by omega) (by omega)).trans e1
          have hlt := add_more (a := a) (b := b) (k := k) (by omega)
          have hshr : car a b k / 65536 = car a b (k + 1) := e2
          clear e1 e2 za zb
          clear HA HB
          go_wp2_with (at_builtin; refine wpList_append_own _ rfl _ _ 54 rfl w.heap.size 3 Tryd.t3 (.int .i64 0) 1 8 Tryd.underlying54 hi rfl rfl rfl rfl (by decide) _ _ _ rfl (hown.alloc _) ⟨wr.heap.size, 0, none⟩ 1 1 [.int .i64 (dig (a + b) k)] rfl rfl (cell_one_new _ _ _) ?c2 ?c3 ?c4 ?c5 ?_)
          case c2 => intro u hu; simp at hu; subst hu; rfl
          case c3 => unfold maxLen; omega
          case c4 => omega
          case c5 => have := hnx.size; simp; omega
          intro v' w1 hown' hgrow _
          obtain ⟨R1, R2⟩ := grow_rel hown hnx hnx.size hown' hgrow
          clear hown' hgrow hown hand
          go_wp2
          go_roundw
          case rel => exact ⟨k + 1, by omega, by go_num, rfl, R1, R2⟩
          case measure => simp [intOf]; omega
        · have he : car a b k = 0 := by omega
          have hend := add_end (a := a) (b := b) (k := k) (by omega) (by omega) he hk
          have ta' : decide (k < nd a) = false := by simp; omega
          have tb' : decide (k < nd b) = false := by simp; omega
          have tc' : decide (0 < car a b k) = false := by simp; omega
          have HEnd := Lib.hid hend
          clear HA HB he hend
          go_wp2
          go_ret
          exact ⟨_, rfl, by rw [← HEnd.out]; exact hown, hnx⟩

theorem fresh_of_own {w w' : World} {e : TypeId} {v : Value} {n : Nat} {xs : List Value} (h : w'.ownsRow w.heap.size e 1 v n xs) : Fresh w v := by
  intro b hb
  obtain ⟨_, h2⟩ := h
  rcases h2 with ⟨rfl, _⟩ | ⟨g, cap, cur, rfl, hg, _⟩
  · simp [Value.ownBlock] at hb
  · simp [Value.ownBlock] at hb; omega
theorem radd_new (u v : Value) (a b : Nat) (w : World) (hu : Big w u a) (hv : Big w v b) (ha : nd a ≤ 1048576) (hb : nd b ≤ 1048576) :
    Calls Tryd.prog 31 #[u, v] w fun e w' => ∃ r, e = .returned r ∧ Big w' r (a + b) ∧ Fresh w r ∧ Below w.heap.size w w' := by
  obtain ⟨A, c, rfl, h1, h2, h3, h4⟩ := hu
  obtain ⟨B, d, rfl, k1, k2, k3, k4⟩ := hv
  refine (radd_core A B a b c d w ha hb h4 k4).mono ?_
  rintro e w' ⟨r, rfl, ho, hw⟩
  exact ⟨r, rfl, raw_of_own ho (nd_lt _) (by have := nd_add a b 1048576 ha hb; omega), fresh_of_own ho, hw⟩
theorem radd_any (u v : Value) (a b : Nat) (w : World) (hu : Big w u a) (hv : Big w v b) (ha : nd a ≤ 1048576) (hb : nd b ≤ 1048576) :
    Calls Tryd.prog 31 #[u, v] w fun e w' => ∃ r, e = .returned r ∧ Big w' r (a + b) ∧ Below w.heap.size w w' := by
  exact (radd_new u v a b w hu hv ha hb).mono fun _ _ ⟨v, h1, h2, _, h3⟩ => ⟨v, h1, h2, h3⟩

end Go.Proofs.YtkionnggdncncaaDoor

