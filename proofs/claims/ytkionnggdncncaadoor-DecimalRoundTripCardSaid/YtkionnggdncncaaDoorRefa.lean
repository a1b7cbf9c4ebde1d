/- Contracts of the reference's norm, Fits, FromUint256, ToUint256, Checked and Cmp over this translation: slices of digits read as numbers; memory that was there is as it was. -/
import Derived.Test.YtkionnggdncncaaDoorUh
import Derived.Test.YtkionnggdncncaaDoorDig
import Derived.Laws.AppendOwn
namespace Go.Proofs.YtkionnggdncncaaDoor
open Go.RowKit

/-- The slice lies in a block that is new since w. -/
def Fresh (w : World) (v : Value) : Prop := ∀ b, v.ownBlock = some b → w.heap.size ≤ b

theorem norm_core (b len cap n : Nat) (w : World) (hcap : len ≤ cap) (hlen : len ≤ 4294967296) (hn : n < 65536 ^ len)
    (hc : ∀ i, i < len → w.cell? ⟨b, i, none⟩ = some (.int .i64 (dig n i))) :
    Calls Tryd.prog 43 #[.slice (some ⟨b, 0, none⟩) len cap] w fun e w' => e = .returned (.slice (some ⟨b, 0, none⟩) (nd n) cap) ∧ w = w' := by
  have HC := Lib.hid hc
  have HN := Lib.hid hn
  clear hc hn
  go_enter Tryd.func43, Tryd.ntmps43
  go_wp2
  go_loop [3] (fun i => ∃ k : Nat, k ≤ len ∧ i = .int .i64 k ∧ Hid (n < 65536 ^ k)) (fun i => (intOf i).toNat)
  case atStart => exact ⟨len, Nat.le_refl _, rfl, HN⟩
  case round =>
    obtain ⟨k, hk, rfl, HK⟩ := hrel
    rcases k with _ | j
    · have e : nd n = 0 := by have := nd_le.2 HK.out; omega
      have He := Lib.hid e
      clear e
      go_wp2
      go_ret
      exact ⟨by rw [He.out]; rfl, rfl⟩
    · have hcell := HC.out j (by omega)
      by_cases hz : dig n j = 0
      · have HD := Lib.hid (nd_drop HK.out hz)
        have ht : (dig n j == 0) = true := by simpa using hz
        clear hz HK
        go_wp2
        go_round
        case rel => exact ⟨j, by omega, by go_num, HD⟩
        case measure => simp [intOf]
      · have e : nd n = j + 1 := nd_top HK.out hz
        have ht : (dig n j == 0) = false := by simpa using hz
        have He := Lib.hid e
        clear hz HK e
        go_wp2
        go_ret
        exact ⟨by rw [He.out]; rfl, rfl⟩

theorem norm_zero (A : Option Addr) (cap : Nat) (w : World) :
    Calls Tryd.prog 43 #[.slice A 0 cap] w fun e w' => e = .returned (.slice A 0 cap) ∧ w = w' := by
  go_enter Tryd.func43, Tryd.ntmps43
  go_wp2
  refine wp_loop_rounds 1 ?_
  rw [rounds_succ]
  go_wp2
  go_ret
  exact ⟨rfl, rfl⟩

theorem norm_any (v : Value) (n len : Nat) (w : World) (h : Raw w v n len) :
    Calls Tryd.prog 43 #[v] w fun e w' => ∃ v', e = .returned v' ∧ Big w v' n ∧ w = w' := by
  obtain ⟨A, cap, rfl, h1, h2, h3, h4⟩ := h
  by_cases hl : 0 < len
  · obtain ⟨b, rfl, hb, hc⟩ := h4 hl
    have hle := nd_le.2 h3
    exact (norm_core b len cap n w h1 h2 h3 hc).mono fun e w' h => ⟨_, h.1, ⟨_, cap, rfl, by omega, by omega, nd_lt n, fun _ => ⟨b, rfl, hb, fun i hi => hc i (by omega)⟩⟩, h.2⟩
  · obtain rfl : len = 0 := by omega
    have e : nd n = 0 := by have := nd_le.2 h3; omega
    exact (norm_zero A cap w).mono fun e' w' h => ⟨_, h.1, ⟨A, cap, by rw [e], by omega, by omega, nd_lt n, fun hp => absurd hp (by omega)⟩, h.2⟩

/-- The same, and where the result lies. -/
theorem norm_own (v : Value) (n len : Nat) (w : World) (h : Raw w v n len) :
    Calls Tryd.prog 43 #[v] w fun e w' => ∃ v', e = .returned v' ∧ Big w v' n ∧ v'.ownBlock = v.ownBlock ∧ w = w' := by
  obtain ⟨A, cap, rfl, h1, h2, h3, h4⟩ := h
  by_cases hl : 0 < len
  · obtain ⟨b, rfl, hb, hc⟩ := h4 hl
    have hle := nd_le.2 h3
    exact (norm_core b len cap n w h1 h2 h3 hc).mono fun e w' h => ⟨_, h.1, ⟨_, cap, rfl, by omega, by omega, nd_lt n, fun _ => ⟨b, rfl, hb, fun i hi => hc i (by omega)⟩⟩, rfl, h.2⟩
  · obtain rfl : len = 0 := by omega
    have e : nd n = 0 := by have := nd_le.2 h3; omega
    exact (norm_zero A cap w).mono fun e' w' h => ⟨_, h.1, ⟨A, cap, by rw [e], by omega, by omega, nd_lt n, fun hp => absurd hp (by omega)⟩, rfl, h.2⟩

theorem fits_yes (A : Option Addr) (len cap : Nat) (w : World) (h : len ≤ 16) :
    Calls Tryd.prog 46 #[.slice A len cap] w fun e w' => e = .returned (.bool true) ∧ w = w' := by
  have hd : decide ((len : Int) ≤ 16) = true := by simp; omega
  go_enter Tryd.func46, Tryd.ntmps46
  go_wp2
  go_ret
  exact ⟨rfl, rfl⟩
theorem fits_no (A : Option Addr) (len cap : Nat) (w : World) (h : 16 < len) :
    Calls Tryd.prog 46 #[.slice A len cap] w fun e w' => e = .returned (.bool false) ∧ w = w' := by
  have hd : decide ((len : Int) ≤ 16) = false := by simp; omega
  go_enter Tryd.func46, Tryd.ntmps46
  go_wp2
  go_ret
  exact ⟨rfl, rfl⟩

set_option maxRecDepth 100000 in
set_option maxHeartbeats 4000000 in
theorem from_new (a : Nat) (ha : a < B256) (w : World) :
    Calls Tryd.prog 25 #[U a] w fun e w' => ∃ v, e = .returned v ∧ Big w' v a ∧ Fresh w v ∧ Below w.heap.size w w' := by
  have mk : ∀ w, (Instr.makeSlice 54 (.int .i64 16) (.int .i64 16)).run Tryd.prog w = .ok (.slice (some ⟨w.heap.size, 0, none⟩) 16 16) (w.alloc (.cells #[.int .i64 0, .int .i64 0, .int .i64 0, .int .i64 0, .int .i64 0, .int .i64 0, .int .i64 0, .int .i64 0, .int .i64 0, .int .i64 0, .int .i64 0, .int .i64 0, .int .i64 0, .int .i64 0, .int .i64 0, .int .i64 0] 3)) := fun _ => by kernel_rfl
  have d0 := word0 a
  have d1 := word1 a
  have d2 := word2 a
  have d3 := word3 a
  have d4 := word4 a
  have d5 := word5 a
  have d6 := word6 a
  have d7 := word7 a
  have d8 := word8 a
  have d9 := word9 a
  have d10 := word10 a
  have d11 := word11 a
  have d12 := word12 a
  have d13 := word13 a
  have d14 := word14 a
  have d15 := word15 a
  have hR : ∀ w : World, Raw ((w.alloc (.cells #[.int .u64 (limb a 0), .int .u64 (limb a 1), .int .u64 (limb a 2), .int .u64 (limb a 3)] 24)).alloc (.cells #[.int .i64 (dig a 0), .int .i64 (dig a 1), .int .i64 (dig a 2), .int .i64 (dig a 3), .int .i64 (dig a 4), .int .i64 (dig a 5), .int .i64 (dig a 6), .int .i64 (dig a 7), .int .i64 (dig a 8), .int .i64 (dig a 9), .int .i64 (dig a 10), .int .i64 (dig a 11), .int .i64 (dig a 12), .int .i64 (dig a 13), .int .i64 (dig a 14), .int .i64 (dig a 15)] 3)) (.slice (some ⟨w.heap.size + 1, 0, none⟩) 16 16) a 16 := fun w => by
    refine ⟨_, _, rfl, by omega, by omega, ha, fun _ => ⟨w.heap.size + 1, rfl, by simp, fun i hi => ?_⟩⟩
    have e := cell_of_row ((w.alloc (.cells #[.int .u64 (limb a 0), .int .u64 (limb a 1), .int .u64 (limb a 2), .int .u64 (limb a 3)] 24)).alloc (.cells #[.int .i64 (dig a 0), .int .i64 (dig a 1), .int .i64 (dig a 2), .int .i64 (dig a 3), .int .i64 (dig a 4), .int .i64 (dig a 5), .int .i64 (dig a 6), .int .i64 (dig a 7), .int .i64 (dig a 8), .int .i64 (dig a 9), .int .i64 (dig a 10), .int .i64 (dig a 11), .int .i64 (dig a 12), .int .i64 (dig a 13), .int .i64 (dig a 14), .int .i64 (dig a 15)] 3)) (w.heap.size + 1) i #[.int .i64 (dig a 0), .int .i64 (dig a 1), .int .i64 (dig a 2), .int .i64 (dig a 3), .int .i64 (dig a 4), .int .i64 (dig a 5), .int .i64 (dig a 6), .int .i64 (dig a 7), .int .i64 (dig a 8), .int .i64 (dig a 9), .int .i64 (dig a 10), .int .i64 (dig a 11), .int .i64 (dig a 12), .int .i64 (dig a 13), .int .i64 (dig a 14), .int .i64 (dig a 15)] 3 (0, 0) (by have h := heap_alloc_new (w.alloc (.cells #[.int .u64 (limb a 0), .int .u64 (limb a 1), .int .u64 (limb a 2), .int .u64 (limb a 3)] 24)) (.cells #[.int .i64 (dig a 0), .int .i64 (dig a 1), .int .i64 (dig a 2), .int .i64 (dig a 3), .int .i64 (dig a 4), .int .i64 (dig a 5), .int .i64 (dig a 6), .int .i64 (dig a 7), .int .i64 (dig a 8), .int .i64 (dig a 9), .int .i64 (dig a 10), .int .i64 (dig a 11), .int .i64 (dig a 12), .int .i64 (dig a 13), .int .i64 (dig a 14), .int .i64 (dig a 15)] 3); rw [World.size_alloc] at h; exact h)
    rw [e]
    match i, hi with
    | 0, _ | 1, _ | 2, _ | 3, _ | 4, _ | 5, _ | 6, _ | 7, _ | 8, _ | 9, _ | 10, _ | 11, _ | 12, _ | 13, _ | 14, _ | 15, _ => rfl
    | j + 16, h => exact absurd h (by omega)
  have HR := Lib.hid hR
  clear hR
  go_enter Tryd.func25, Tryd.ntmps25
  go_wp2
  refine wp_loop_rounds 17 ?_
  iterate 16 (rw [rounds_succ]; go_wp2)
  rw [rounds_succ]
  go_wp2_with (go_at_call 43; refine (norm_own _ a 16 _ (HR.out w)).mono ?_; rintro e w2 ⟨v, rfl, hb, ho, rfl⟩)
  go_ret
  refine ⟨v, rfl, hb, fun b h => ?_, ?_⟩
  · rw [ho] at h
    simp [Value.ownBlock] at h
    omega
  · go_grown
theorem from_any (a : Nat) (ha : a < B256) (w : World) :
    Calls Tryd.prog 25 #[U a] w fun e w' => ∃ v, e = .returned v ∧ Big w' v a ∧ Below w.heap.size w w' :=
  (from_new a ha w).mono fun _ _ ⟨v, h1, h2, _, h3⟩ => ⟨v, h1, h2, h3⟩
end Go.Proofs.YtkionnggdncncaaDoor

