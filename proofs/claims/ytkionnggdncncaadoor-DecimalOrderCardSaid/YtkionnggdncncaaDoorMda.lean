/- Contracts of muldiv's limbAt, shiftLeft and shiftRight over this translation: a word of a row, or zero outside; the row's number times or by a power of two, in place. Nothing else changes. -/
import Derived.Test.YtkionnggdncncaaDoorMdn
import Derived.StillTailTactics
namespace Go.Proofs.YtkionnggdncncaaDoor
open Go.RowKit

theorem stillOf {P : Program} {f : FuncId} {args : Array Value} {w : World} {v : Value} (h : Calls P f args w fun e w' => e = .returned v ∧ w = w') : Calls P f args w fun e w' => e = .returned v ∧ w' = w :=
  h.mono fun _ _ h => ⟨h.1, h.2.symm⟩

theorem limbAt_in (g L i : Nat) (t : TypeId) (f : Nat → Int) (w : World) (hi : i < L) (h : Res g t (wrow f L) w) :
    Calls Tryd.prog 79 #[.slice (some ⟨g, 0, none⟩) L L, .int .i64 (i : Int)] w fun e w' => e = .returned (.int .u64 (f i)) ∧ w = w' := by
  have h1 : decide ((i : Int) < 0) = false := decide_eq_false (by omega)
  have h1' : (0 : Int) ≤ (i : Int) := by omega
  have h2 : decide ((L : Int) ≤ (i : Int)) = false := decide_eq_false (by omega)
  have h3 : (i : Int) < (L : Int) := by omega
  have hc := (h.cells i).trans (wrow_get hi)
  clear h
  go_enter Tryd.func79, Tryd.ntmps79
  go_wp2
  go_ret
  exact ⟨rfl, rfl⟩

theorem limbAt_out (A : Option Addr) (L : Nat) (i : Int) (w : World) (hi : i < 0 ∨ (L : Int) ≤ i) :
    Calls Tryd.prog 79 #[.slice A L L, .int .i64 i] w fun e w' => e = .returned (.int .u64 0) ∧ w = w' := by
  by_cases h0 : i < 0
  · go_enter Tryd.func79, Tryd.ntmps79
    go_wp2
    go_ret
    exact ⟨rfl, rfl⟩
  · have h1 : decide (i < 0) = false := decide_eq_false h0
    have h2 : (L : Int) ≤ i := by omega
    go_enter Tryd.func79, Tryd.ntmps79
    go_wp2
    go_ret
    exact ⟨rfl, rfl⟩

/-- The word that limbAt reads of a row that reads as n up to place k. -/
theorem limbAt_low (g L k : Nat) (t : TypeId) (n : Nat) (f : Nat → Int) (i : Int) (w : World) (hk : k ≤ L) (hi : i < (k : Int)) (hf : ∀ j, j < k → f j = limb n j) (h : Res g t (wrow f L) w) :
    Calls Tryd.prog 79 #[.slice (some ⟨g, 0, none⟩) L L, .int .i64 i] w fun e w' => e = .returned (.int .u64 ((wordAt n i : Nat) : Int)) ∧ w = w' := by
  unfold wordAt
  by_cases h0 : 0 ≤ i
  · obtain ⟨i, rfl⟩ := Int.eq_ofNat_of_zero_le h0
    rw [if_pos h0, Int.toNat_natCast, ← limb_word, ← hf i (by omega)]
    exact limbAt_in g L i t f w (by omega) h
  · rw [if_neg h0]
    exact limbAt_out _ L i w (by omega)

theorem word_lt (n i : Nat) : word n i < 18446744073709551616 := Nat.mod_lt _ (by omega)
theorem wordAt_lt (n : Nat) (i : Int) : wordAt n i < 18446744073709551616 := by unfold wordAt; split; exact word_lt _ _; omega
theorem shl_bits (n wh p j : Nat) (hp : p < 64) :
    bits .or .u64 (IntKind.u64.wrap (((wordAt n ((j : Int) - wh) : Nat) : Int) * 2 ^ p)) (((wordAt n ((j : Int) - wh - 1) : Nat) : Int) / 2 ^ (64 - p)) = limb (n * 2 ^ (64 * wh + p)) j := by
  have h1 : IntKind.u64.wrap (((wordAt n ((j : Int) - wh) : Nat) : Int) * 2 ^ p) = ((wordAt n ((j : Int) - wh) * 2 ^ p % 18446744073709551616 : Nat) : Int) := by
    rw [IntKind.wrap_u64]; simp
  have h2 : ((wordAt n ((j : Int) - wh - 1) : Nat) : Int) / 2 ^ (64 - p) = ((wordAt n ((j : Int) - wh - 1) / 2 ^ (64 - p) : Nat) : Int) := by simp
  rw [h1, h2, bits_or_u64_nat _ _ (Nat.mod_lt _ (by omega)) (Nat.lt_of_le_of_lt (Nat.div_le_self _ _) (wordAt_lt _ _)), limb_word, shl_word n wh p j hp]

/-- The row while it is shifted left: below k the old words. -/
def slF (n s k : Nat) : Nat → Int := fun j => if j < k then limb n j else limb (n * 2 ^ s) j
theorem slF_set (n s k L : Nat) : (wrow (slF n s (k + 1)) L).setIfInBounds k (.int .u64 (limb (n * 2 ^ s) k)) = wrow (slF n s k) L :=
  wrow_set (by simp [slF]) fun i _ hne => by
    unfold slF
    by_cases h : i < k
    · rw [if_pos h, if_pos (by omega)]
    · rw [if_neg h, if_neg (by omega)]
theorem slF_top (n s L : Nat) : wrow (limb n) L = wrow (slF n s L) L := wrow_congr fun j hj => by simp [slF, hj]
theorem slF_zero (n s L : Nat) : wrow (slF n s 0) L = wrow (limb (n * 2 ^ s)) L := wrow_congr fun j _ => by simp [slF]

set_option maxRecDepth 100000 in
set_option maxHeartbeats 2000000 in
theorem shl_core (g L n s wh p : Nat) (t : TypeId) (w : World) (hL : L ≤ 8) (hp : p < 64) (hw : wh ≤ 4) (q1 : (s : Int) / 64 = (wh : Int)) (q2 : (s : Int) % 64 = (p : Int)) (hs : s = 64 * wh + p) (h : Res g t (wrow (limb n) L) w) :
    Calls Tryd.prog 67 #[.slice (some ⟨g, 0, none⟩) L L, .int .i64 (s : Int)] w fun e w' =>
      e = .returned (.tuple #[]) ∧ Res g t (wrow (limb (n * 2 ^ s)) L) w' ∧ Only g w w' := by
  have HS := Lib.hid hs
  clear hs
  go_enter Tryd.func67, Tryd.ntmps67
  go_wp2
  rw [q2]
  go_loopw [6] (fun i wr => ∃ k : Nat, k ≤ L ∧ i = .int .i64 ((k : Int) - 1) ∧ Res g t (wrow (slF n s k) L) wr ∧ Only g w wr) (fun i _ => (intOf i + 1).toNat)
  case atStart => exact ⟨L, Nat.le_refl _, by go_num, by rw [← slF_top]; exact h, Only.refl _ _⟩
  case round =>
    obtain ⟨k, hk, rfl, hr, ho⟩ := hrel
    rcases k with _ | j
    · rw [slF_zero] at hr
      go_wp2
      go_end0
      exact ⟨rfl, hr, ho⟩
    · have hi : ((j + 1 : Nat) : Int) - 1 = (j : Int) := by omega
      rw [hi]
      have i1 : (0 : Int) ≤ (j : Int) := by omega
      have i2 : (j : Int) < (L : Int) := by omega
      have co := (hr.cells j).trans (wrow_get (by omega))
      have hfz := hr.marks j
      have X1 := Lib.hid (stillOf (limbAt_low g L (j + 1) t n (slF n s (j + 1)) ((j : Int) - wh) wr.drew hk (by omega) (fun z hz => if_pos hz) hr))
      have X2 := Lib.hid (stillOf (limbAt_low g L (j + 1) t n (slF n s (j + 1)) ((j : Int) - wh - 1) wr.drew hk (by omega) (fun z hz => if_pos hz) hr))
      have e1 : IntKind.i64.wrap ((j : Int) - wh) = (j : Int) - wh := by rw [IntKind.wrap_i64]; omega
      have e2 : IntKind.i64.wrap ((j : Int) - wh - 1) = (j : Int) - wh - 1 := by rw [IntKind.wrap_i64]; omega
      obtain ⟨r, hr64⟩ : ∃ r : Nat, r = 64 - p := ⟨_, rfl⟩
      have e3 : IntKind.i64.wrap (64 - (p : Int)) = (r : Int) := by rw [IntKind.wrap_i64]; omega
      have e4 : r ≤ 64 := by omega
      have e5 := shl_bits n wh p j hp
      rw [← HS.out] at e5
      have R := hr.setw j (.int .u64 (limb (n * 2 ^ s) j))
      rw [slF_set] at R
      clear hr
      go_wp2
      refine wp_region_still_tail 20 (by kernel_rfl) (by kernel_rfl) ?_
      simp only [List.take_succ_cons, List.take_zero, List.drop_succ_cons, List.drop_zero]
      repeat still_step
      still_call X1.out
      repeat still_step
      still_call X2.out
      repeat still_step
      refine wpStill_nil ?_
      change wpList _ _ _ _ _ wr.drew
      go_wp2
      go_roundw
      case rel => exact ⟨j, by omega, by go_num, R.drew, (ho.setCell _ _).drew⟩
      case measure => simp [intOf]

theorem shl_any (g L n s : Nat) (t : TypeId) (w : World) (hL : L ≤ 8) (hs : s ≤ 256) (h : Res g t (wrow (limb n) L) w) :
    Calls Tryd.prog 67 #[.slice (some ⟨g, 0, none⟩) L L, .int .i64 (s : Int)] w fun e w' =>
      e = .returned (.tuple #[]) ∧ Res g t (wrow (limb (n * 2 ^ s)) L) w' ∧ Only g w w' :=
  shl_core g L n s (s / 64) (s % 64) t w hL (by omega) (by omega) (by omega) (by omega) (by omega) h

/-- The word that limbAt reads of a row that reads as n from place k on. -/
theorem limbAt_high (g L k : Nat) (t : TypeId) (n : Nat) (f : Nat → Int) (i : Nat) (w : World) (hn : n < 18446744073709551616 ^ L) (hi : k ≤ i) (hf : ∀ j, k ≤ j → f j = limb n j) (h : Res g t (wrow f L) w) :
    Calls Tryd.prog 79 #[.slice (some ⟨g, 0, none⟩) L L, .int .i64 (i : Int)] w fun e w' => e = .returned (.int .u64 ((word n i : Nat) : Int)) ∧ w = w' := by
  by_cases h0 : i < L
  · rw [← limb_word, ← hf i hi]
    exact limbAt_in g L i t f w h0 h
  · rw [word_ge hn (by omega)]
    exact limbAt_out _ L i w (by omega)

theorem shr_bits (n wh p j : Nat) (hp : p < 64) :
    bits .or .u64 (((word n (j + wh) : Nat) : Int) / 2 ^ p) (IntKind.u64.wrap (((word n (j + wh + 1) : Nat) : Int) * 2 ^ (64 - p))) = limb (n / 2 ^ (64 * wh + p)) j := by
  have h1 : IntKind.u64.wrap (((word n (j + wh + 1) : Nat) : Int) * 2 ^ (64 - p)) = ((word n (j + wh + 1) * 2 ^ (64 - p) % 18446744073709551616 : Nat) : Int) := by
    rw [IntKind.wrap_u64]; simp
  have h2 : ((word n (j + wh) : Nat) : Int) / 2 ^ p = ((word n (j + wh) / 2 ^ p : Nat) : Int) := by simp
  rw [h1, h2, bits_or_u64_nat _ _ (Nat.lt_of_le_of_lt (Nat.div_le_self _ _) (word_lt _ _)) (Nat.mod_lt _ (by omega)), limb_word, shr_word n wh p j hp]

/-- The row while it is shifted right: below k the new words. -/
def srF (n s k : Nat) : Nat → Int := fun j => if j < k then limb (n / 2 ^ s) j else limb n j
theorem srF_set (n s k L : Nat) : (wrow (srF n s k) L).setIfInBounds k (.int .u64 (limb (n / 2 ^ s) k)) = wrow (srF n s (k + 1)) L :=
  wrow_set (by simp [srF]) fun i _ hne => by
    unfold srF
    by_cases h : i < k
    · rw [if_pos h, if_pos (by omega)]
    · rw [if_neg h, if_neg (by omega)]
theorem srF_zero (n s L : Nat) : wrow (limb n) L = wrow (srF n s 0) L := wrow_congr fun j _ => by simp [srF]
theorem srF_top (n s L : Nat) : wrow (srF n s L) L = wrow (limb (n / 2 ^ s)) L := wrow_congr fun j hj => by simp [srF, hj]

set_option maxRecDepth 100000 in
set_option maxHeartbeats 2000000 in
theorem shr_core (g L n s wh p : Nat) (t : TypeId) (w : World) (hL : L ≤ 8) (hn : n < 18446744073709551616 ^ L) (hp : p < 64) (hw : wh ≤ 4) (q1 : (s : Int) / 64 = (wh : Int)) (q2 : (s : Int) % 64 = (p : Int)) (hs : s = 64 * wh + p) (h : Res g t (wrow (limb n) L) w) :
    Calls Tryd.prog 69 #[.slice (some ⟨g, 0, none⟩) L L, .int .i64 (s : Int)] w fun e w' =>
      e = .returned (.tuple #[]) ∧ Res g t (wrow (limb (n / 2 ^ s)) L) w' ∧ Only g w w' := by
  have HS := Lib.hid hs
  have HN := Lib.hid hn
  clear hs hn
  go_enter Tryd.func69, Tryd.ntmps69
  go_wp2
  rw [q2]
  go_loopw [6, 13] (fun _ i wr => ∃ k : Nat, k ≤ L ∧ i = .int .i64 (k : Int) ∧ Res g t (wrow (srF n s k) L) wr ∧ Only g w wr) (fun _ i _ => (L - intOf i).toNat)
  case atStart => exact ⟨0, by omega, by go_num, by rw [← srF_zero]; exact h, Only.refl _ _⟩
  case round =>
    obtain ⟨j, hk, rfl, hr, ho⟩ := hrel
    by_cases hj : j = L
    · subst hj
      rw [srF_top] at hr
      go_wp2
      go_end0
      exact ⟨rfl, hr, ho⟩
    · have i1 : (0 : Int) ≤ (j : Int) := by omega
      have i2 : (j : Int) < (L : Int) := by omega
      have co := (hr.cells j).trans (wrow_get (by omega))
      have hfz := hr.marks j
      have X1 := Lib.hid (stillOf (limbAt_high g L j t n (srF n s j) (j + wh) wr.drew HN.out (by omega) (fun z hz => if_neg (by omega)) hr))
      have X2 := Lib.hid (stillOf (limbAt_high g L j t n (srF n s j) (j + wh + 1) wr.drew HN.out (by omega) (fun z hz => if_neg (by omega)) hr))
      have e1 : IntKind.i64.wrap ((j : Int) + wh) = ((j + wh : Nat) : Int) := by rw [IntKind.wrap_i64]; omega
      have e2 : IntKind.i64.wrap (((j + wh : Nat) : Int) + 1) = ((j + wh + 1 : Nat) : Int) := by rw [IntKind.wrap_i64]; omega
      generalize hA : j + wh = A at *
      generalize hB : A + 1 = B at *
      have HA := Lib.hid hA
      have HB := Lib.hid hB
      clear hA hB
      obtain ⟨r, hr64⟩ : ∃ r : Nat, r = 64 - p := ⟨_, rfl⟩
      have e3 : IntKind.i64.wrap (64 - (p : Int)) = (r : Int) := by rw [IntKind.wrap_i64]; omega
      have e4 : r ≤ 64 := by omega
      have e5 := shr_bits n wh p j hp
      rw [← HS.out, HA.out, HB.out] at e5
      have e6 : ∀ x : Int, min 64 x = x ∨ True := fun _ => Or.inr trivial
      have R := hr.setw j (.int .u64 (limb (n / 2 ^ s) j))
      rw [srF_set] at R
      clear hr e6
      go_wp2
      refine wp_region_still_tail 20 (by kernel_rfl) (by kernel_rfl) ?_
      simp only [List.take_succ_cons, List.take_zero, List.drop_succ_cons, List.drop_zero]
      repeat still_step
      still_call X1.out
      repeat still_step
      still_call X2.out
      repeat still_step
      refine wpStill_nil ?_
      change wpList _ _ _ _ _ wr.drew
      go_wp2
      go_roundw
      case rel => exact ⟨j + 1, by omega, by go_num, R.drew, (ho.setCell _ _).drew⟩
      case measure => simp [intOf]; omega

theorem shr_any (g L n s : Nat) (t : TypeId) (w : World) (hL : L ≤ 8) (hn : n < 18446744073709551616 ^ L) (hs : s ≤ 256) (h : Res g t (wrow (limb n) L) w) :
    Calls Tryd.prog 69 #[.slice (some ⟨g, 0, none⟩) L L, .int .i64 (s : Int)] w fun e w' =>
      e = .returned (.tuple #[]) ∧ Res g t (wrow (limb (n / 2 ^ s)) L) w' ∧ Only g w w' :=
  shr_core g L n s (s / 64) (s % 64) t w hL hn (by omega) (by omega) (by omega) (by omega) (by omega) h

end Go.Proofs.YtkionnggdncncaaDoor

