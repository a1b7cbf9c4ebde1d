/- Plain arithmetic of words of 64 bits: shifts of numbers word by word, and what a block of words is. No Go function in this text; no conditions. Contracts of muldiv's limbAt, shiftLeft and shiftRight over this translation: a word of a row, or zero outside; the row's number times or by a power of two, in place. Nothing else changes. Contracts of math/bits.Div64 (by a divisor whose highest bit is set) and of muldiv.estimateDigit over this translation: the quotient of two words by one; an estimate that is never less than the digit. Memory that was there is as it was. Contracts of muldiv's subtractMultiple and addWide over this translation: the difference modulo 2^320 and whether it is negative; the sum modulo 2^320 and its carry. Memory that was there is as it was. Contracts of muldiv's estimateDigit and divideDigit over this translation: an estimate that is never less than the digit; the digit and the rest of a division by a number whose highest bit is set. Memory that was there is as it was. Contract of muldiv.divide over this translation: quotient and remainder of low + 2^256 * high by c, for high below c. Memory that was there is as it was. Contracts of muldiv.Div512 and DivMod over this translation: quotient and remainder, or zeros and ErrDivisionByZero or ErrOverflow. Memory that was there is as it was. Contracts of muldiv.Mul, DivMod, MulDivFloor and MulDivCeil over this translation: both halves of the product; quotient and remainder; the product's quotient rounded down and up, or zero and an error. Memory that was there is as it was. -/
import Derived.Test.YtlaapbenpjopiaaMu
import Derived.Laws.Bits64b
import Derived.StillTailTactics
import Derived.Laws.CopyRow
namespace Go.Proofs.Ytlaapbenpjopiaa
open Go.RowKit

/-- A row of words. -/
def wrow (f : Nat → Int) (L : Nat) : Array Value := ((List.range L).map fun j => Value.int .u64 (f j)).toArray
theorem wrow_size (f : Nat → Int) (L : Nat) : (wrow f L).size = L := by simp [wrow]
theorem wrow_get {f : Nat → Int} {L j : Nat} (h : j < L) : (wrow f L)[j]? = some (.int .u64 (f j)) := by simp [wrow, h]
theorem wrow_set {f g : Nat → Int} {L j : Nat} {x : Int} (hj : g j = x) (hne : ∀ i, i < L → i ≠ j → g i = f i) : (wrow f L).setIfInBounds j (.int .u64 x) = wrow g L := by
  apply Array.ext
  · simp [wrow]
  · intro i h1 h2
    have hi : i < L := by simpa [wrow] using h2
    rw [Array.getElem_setIfInBounds]
    · by_cases e : j = i
      · subst e; simp [wrow, hj]
      · rw [if_neg e]; simp [wrow, hne i hi (Ne.symm e)]
    · simpa [wrow] using hi
theorem wrow_congr {f g : Nat → Int} {L : Nat} (h : ∀ j, j < L → f j = g j) : wrow f L = wrow g L := by
  unfold wrow
  congr 1
  exact List.map_congr_left fun j hj => by rw [h j (List.mem_range.1 hj)]

/-- Only block g may have changed. -/
def Only (g : Nat) (w w' : World) : Prop :=
  w'.os = w.os ∧ w'.tape = w.tape ∧ w'.output = w.output ∧ w'.heap.size = w.heap.size ∧ ∀ k, k ≠ g → w'.heap[k]? = w.heap[k]?
theorem Only.os {g : Nat} {w w' : World} (h : Only g w w') : w'.os = w.os := h.1
theorem Only.tape {g : Nat} {w w' : World} (h : Only g w w') : w'.tape = w.tape := h.2.1
theorem Only.output {g : Nat} {w w' : World} (h : Only g w w') : w'.output = w.output := h.2.2.1
theorem Only.size {g : Nat} {w w' : World} (h : Only g w w') : w'.heap.size = w.heap.size := h.2.2.2.1
theorem Only.block {g : Nat} {w w' : World} (h : Only g w w') : ∀ k, k ≠ g → w'.heap[k]? = w.heap[k]? := h.2.2.2.2
theorem Only.refl (g : Nat) (w : World) : Only g w w := ⟨rfl, rfl, rfl, rfl, fun _ _ => rfl⟩
theorem Only.drew {g : Nat} {w w' : World} (h : Only g w w') : Only g w w'.drew := ⟨h.os, h.tape, h.output, h.size, h.block⟩
theorem Only.drewN {g : Nat} {w w' : World} (h : Only g w w') (n : Nat) : Only g w (w'.drewN n) := ⟨h.os, h.tape, h.output, h.size, h.block⟩
theorem Only.setCell {g : Nat} {w w' : World} (h : Only g w w') (i : Nat) (x : Value) : Only g w (w'.setCell ⟨g, i, none⟩ x) :=
  ⟨h.os, h.tape, h.output, by simp [World.setCell, h.size], fun k hk => (Below.heap_setCell _ _ _ _ hk).trans (h.block k hk)⟩
theorem Only.below {g B : Nat} {w w' : World} (h : Only g w w') (hB : B ≤ g) : Below B w w' :=
  ⟨h.os, h.tape, h.output, by rw [h.size]; exact Nat.le_refl _, fun k hk => h.block k (by omega)⟩
theorem Res.only {g g' : Nat} {t : TypeId} {c : Array Value} {w w' : World} (h : Res g t c w) (k : Only g' w w') (hg : g ≠ g') : Res g t c w' := (k.block g hg).trans h
theorem Res.setw {g : Nat} {t : TypeId} {c : Array Value} {w : World} (h : Res g t c w) (i : Nat) (x : Value) : Res g t (c.setIfInBounds i x) (w.setCell ⟨g, i, none⟩ x) := by
  unfold Res at h ⊢
  simp [World.setCell, Array.getElem?_modify, h]

/-! ### Words -/
def word (n i : Nat) : Nat := n / 18446744073709551616 ^ i % 18446744073709551616
theorem limb_word (n i : Nat) : limb n i = (word n i : Int) := rfl
theorem pow64 (i : Nat) : 18446744073709551616 ^ i = 2 ^ (64 * i) := by rw [Nat.pow_mul]
theorem word_bit (n i b : Nat) : (word n i).testBit b = (decide (b < 64) && n.testBit (64 * i + b)) := by
  unfold word
  rw [pow64, show (18446744073709551616 : Nat) = 2 ^ 64 from rfl, Nat.testBit_mod_two_pow, Nat.testBit_div_two_pow, Nat.add_comm b]
theorem word_ge {n L i : Nat} (h : n < 18446744073709551616 ^ L) (hi : L ≤ i) : word n i = 0 := by
  unfold word
  rw [Nat.div_eq_of_lt (Nat.lt_of_lt_of_le h (Nat.pow_le_pow_right (by omega) hi))]
/-- What limbAt reads: nothing below the first word. -/
def wordAt (n : Nat) (i : Int) : Nat := if 0 ≤ i then word n i.toNat else 0

theorem shl_word (n wh p j : Nat) (hp : p < 64) :
    word (n * 2 ^ (64 * wh + p)) j = (wordAt n ((j : Int) - wh) * 2 ^ p % 18446744073709551616) ||| (wordAt n ((j : Int) - wh - 1) / 2 ^ (64 - p)) := by
  apply Nat.eq_of_testBit_eq
  intro b
  rw [word_bit, Nat.testBit_or, show (18446744073709551616 : Nat) = 2 ^ 64 from rfl, Nat.testBit_mod_two_pow, Nat.testBit_mul_two_pow, Nat.testBit_div_two_pow, Nat.testBit_mul_two_pow]
  unfold wordAt
  by_cases hb : b < 64
  · by_cases hpb : p ≤ b
    · have e2 : ∀ (x : Int), (if 0 ≤ x then word n x.toNat else 0).testBit (b + (64 - p)) = false := by
        intro x
        split
        · rw [word_bit, decide_eq_false (by omega)]; rfl
        · simp
      rw [e2]
      by_cases hj : wh ≤ j
      · rw [if_pos (by omega), word_bit, show ((j : Int) - wh).toNat = j - wh by omega]
        rw [decide_eq_true hb, decide_eq_true (by omega : 64 * wh + p ≤ 64 * j + b), decide_eq_true (by omega : p ≤ b), decide_eq_true (by omega : b - p < 64)]
        rw [show 64 * j + b - (64 * wh + p) = 64 * (j - wh) + (b - p) by omega]
        simp
      · rw [if_neg (by omega), decide_eq_false (by omega : ¬ 64 * wh + p ≤ 64 * j + b)]
        simp
    · rw [decide_eq_false (by omega : ¬ p ≤ b)]
      by_cases hj : wh + 1 ≤ j
      · rw [if_pos (by omega : 0 ≤ (j : Int) - wh - 1), word_bit, show ((j : Int) - wh - 1).toNat = j - wh - 1 by omega]
        rw [decide_eq_true hb, decide_eq_true (by omega : 64 * wh + p ≤ 64 * j + b), decide_eq_true (by omega : b + (64 - p) < 64)]
        rw [show 64 * j + b - (64 * wh + p) = 64 * (j - wh - 1) + (b + (64 - p)) by omega]
        simp
      · rw [if_neg (by omega : ¬ 0 ≤ (j : Int) - wh - 1), decide_eq_false (by omega : ¬ 64 * wh + p ≤ 64 * j + b)]
        simp
  · rw [decide_eq_false hb]
    have e2 : ∀ (x : Int), (if 0 ≤ x then word n x.toNat else 0).testBit (b + (64 - p)) = false := by
      intro x
      split
      · rw [word_bit, decide_eq_false (by omega)]; rfl
      · simp
    rw [e2]; simp

theorem shr_word (n wh p j : Nat) (hp : p < 64) :
    word (n / 2 ^ (64 * wh + p)) j = (word n (j + wh) / 2 ^ p) ||| (word n (j + wh + 1) * 2 ^ (64 - p) % 18446744073709551616) := by
  apply Nat.eq_of_testBit_eq
  intro b
  rw [word_bit, Nat.testBit_or, show (18446744073709551616 : Nat) = 2 ^ 64 from rfl, Nat.testBit_mod_two_pow, Nat.testBit_mul_two_pow, Nat.testBit_div_two_pow, Nat.testBit_div_two_pow, word_bit, word_bit]
  by_cases hb : b < 64
  · by_cases hpb : b + p < 64
    · rw [decide_eq_true hb, decide_eq_true hpb, decide_eq_false (by omega : ¬ 64 - p ≤ b)]
      rw [show 64 * j + b + (64 * wh + p) = 64 * (j + wh) + (b + p) by omega]
      simp
    · rw [decide_eq_true hb, decide_eq_false hpb, decide_eq_true (by omega : 64 - p ≤ b), decide_eq_true (by omega : b - (64 - p) < 64)]
      rw [show 64 * j + b + (64 * wh + p) = 64 * (j + wh + 1) + (b - (64 - p)) by omega]
      simp
  · rw [decide_eq_false hb, decide_eq_false (by omega : ¬ b + p < 64)]
    simp

end Go.Proofs.Ytlaapbenpjopiaa

namespace Go.Proofs.Ytlaapbenpjopiaa
open Go.RowKit

theorem stillOf {P : Program} {f : FuncId} {args : Array Value} {w : World} {v : Value} (h : Calls P f args w fun e w' => e = .returned v ∧ w = w') : Calls P f args w fun e w' => e = .returned v ∧ w' = w :=
  h.mono fun _ _ h => ⟨h.1, h.2.symm⟩

theorem limbAt_in (g L i : Nat) (t : TypeId) (f : Nat → Int) (w : World) (hi : i < L) (h : Res g t (wrow f L) w) :
    Calls Try.prog 78 #[.slice (some ⟨g, 0, none⟩) L L, .int .i64 (i : Int)] w fun e w' => e = .returned (.int .u64 (f i)) ∧ w = w' := by
  have h1 : decide ((i : Int) < 0) = false := decide_eq_false (by omega)
  have h1' : (0 : Int) ≤ (i : Int) := by omega
  have h2 : decide ((L : Int) ≤ (i : Int)) = false := decide_eq_false (by omega)
  have h3 : (i : Int) < (L : Int) := by omega
  have hc := (h.cells i).trans (wrow_get hi)
  clear h
  go_enter Try.func78, Try.ntmps78
  go_wp2
  go_ret
  exact ⟨rfl, rfl⟩

theorem limbAt_out (A : Option Addr) (L : Nat) (i : Int) (w : World) (hi : i < 0 ∨ (L : Int) ≤ i) :
    Calls Try.prog 78 #[.slice A L L, .int .i64 i] w fun e w' => e = .returned (.int .u64 0) ∧ w = w' := by
  by_cases h0 : i < 0
  · go_enter Try.func78, Try.ntmps78
    go_wp2
    go_ret
    exact ⟨rfl, rfl⟩
  · have h1 : decide (i < 0) = false := decide_eq_false h0
    have h2 : (L : Int) ≤ i := by omega
    go_enter Try.func78, Try.ntmps78
    go_wp2
    go_ret
    exact ⟨rfl, rfl⟩

/-- The word that limbAt reads of a row that reads as n up to place k. -/
theorem limbAt_low (g L k : Nat) (t : TypeId) (n : Nat) (f : Nat → Int) (i : Int) (w : World) (hk : k ≤ L) (hi : i < (k : Int)) (hf : ∀ j, j < k → f j = limb n j) (h : Res g t (wrow f L) w) :
    Calls Try.prog 78 #[.slice (some ⟨g, 0, none⟩) L L, .int .i64 i] w fun e w' => e = .returned (.int .u64 ((wordAt n i : Nat) : Int)) ∧ w = w' := by
  unfold wordAt
  by_cases h0 : 0 ≤ i
  · obtain ⟨i, rfl⟩ := Int.eq_ofNat_of_zero_le h0
    rw [if_pos h0, Int.toNat_natCast, ← limb_word, ← hf i (by omega)]
    exact limbAt_in g L i t f w (by omega) h
  · rw [if_neg h0]
    exact limbAt_out _ L i w (by omega)

theorem word_lt (n i : Nat) : word n i < 18446744073709551616 := Nat.mod_lt _ (by omega)
theorem wordAt_lt (n : Nat) (i : Int) : wordAt n i < 18446744073709551616 := by unfold wordAt; split; exact word_lt _ _; omega
theorem shl_bits (n wh p j : Nat) (hp : p < 64) :
    bits .or .u64 (IntKind.u64.wrap (((wordAt n ((j : Int) - wh) : Nat) : Int) * 2 ^ p)) (((wordAt n ((j : Int) - wh - 1) : Nat) : Int) / 2 ^ (64 - p)) = limb (n * 2 ^ (64 * wh + p)) j := by
  have h1 : IntKind.u64.wrap (((wordAt n ((j : Int) - wh) : Nat) : Int) * 2 ^ p) = ((wordAt n ((j : Int) - wh) * 2 ^ p % 18446744073709551616 : Nat) : Int) := by
    rw [IntKind.wrap_u64]; simp
  have h2 : ((wordAt n ((j : Int) - wh - 1) : Nat) : Int) / 2 ^ (64 - p) = ((wordAt n ((j : Int) - wh - 1) / 2 ^ (64 - p) : Nat) : Int) := by simp
  rw [h1, h2, bits_or_u64_nat _ _ (Nat.mod_lt _ (by omega)) (Nat.lt_of_le_of_lt (Nat.div_le_self _ _) (wordAt_lt _ _)), limb_word, shl_word n wh p j hp]

/-- The row while it is shifted left: below k the old words. -/
def slF (n s k : Nat) : Nat → Int := fun j => if j < k then limb n j else limb (n * 2 ^ s) j
theorem slF_set (n s k L : Nat) : (wrow (slF n s (k + 1)) L).setIfInBounds k (.int .u64 (limb (n * 2 ^ s) k)) = wrow (slF n s k) L :=
  wrow_set (by simp [slF]) fun i _ hne => by
    unfold slF
    by_cases h : i < k
    · rw [if_pos h, if_pos (by omega)]
    · rw [if_neg h, if_neg (by omega)]
theorem slF_top (n s L : Nat) : wrow (limb n) L = wrow (slF n s L) L := wrow_congr fun j hj => by simp [slF, hj]
theorem slF_zero (n s L : Nat) : wrow (slF n s 0) L = wrow (limb (n * 2 ^ s)) L := wrow_congr fun j _ => by simp [slF]

set_option maxRecDepth 100000 in
set_option maxHeartbeats 2000000 in
theorem shl_core (g L n s wh p : Nat) (t : TypeId) (w : World) (hL : L ≤ 8) (hp : p < 64) (hw : wh ≤ 4) (q1 : (s : Int) / 64 = (wh : Int)) (q2 : (s : Int) % 64 = (p : Int)) (hs : s = 64 * wh + p) (h : Res g t (wrow (limb n) L) w) :
    Calls Try.prog 74 #[.slice (some ⟨g, 0, none⟩) L L, .int .i64 (s : Int)] w fun e w' =>
      e = .returned (.tuple #[]) ∧ Res g t (wrow (limb (n * 2 ^ s)) L) w' ∧ Only g w w' := by
  have HS := Lib.hid hs
  clear hs
  go_enter Try.func74, Try.ntmps74
  go_wp2
  rw [q2]
  go_loopw [6] (fun i wr => ∃ k : Nat, k ≤ L ∧ i = .int .i64 ((k : Int) - 1) ∧ Res g t (wrow (slF n s k) L) wr ∧ Only g w wr) (fun i _ => (intOf i + 1).toNat)
  case atStart => exact ⟨L, Nat.le_refl _, by go_num, by rw [← slF_top]; exact h, Only.refl _ _⟩
  case round =>
    obtain ⟨k, hk, rfl, hr, ho⟩ := hrel
    rcases k with _ | j
    · rw [slF_zero] at hr
      go_wp2
      go_end0
      exact ⟨rfl, hr, ho⟩
    · have hi : ((j + 1 : Nat) : Int) - 1 = (j : Int) := by omega
      rw [hi]
      have i1 : (0 : Int) ≤ (j : Int) := by omega
      have i2 : (j : Int) < (L : Int) := by omega
      have co := (hr.cells j).trans (wrow_get (by omega))
      have hfz := hr.marks j
      have X1 := Lib.hid (stillOf (limbAt_low g L (j + 1) t n (slF n s (j + 1)) ((j : Int) - wh) wr.drew hk (by omega) (fun z hz => if_pos hz) hr))
      have X2 := Lib.hid (stillOf (limbAt_low g L (j + 1) t n (slF n s (j + 1)) ((j : Int) - wh - 1) wr.drew hk (by omega) (fun z hz => if_pos hz) hr))
      have e1 : IntKind.i64.wrap ((j : Int) - wh) = (j : Int) - wh := by rw [IntKind.wrap_i64]; omega
      have e2 : IntKind.i64.wrap ((j : Int) - wh - 1) = (j : Int) - wh - 1 := by rw [IntKind.wrap_i64]; omega
      obtain ⟨r, hr64⟩ : ∃ r : Nat, r = 64 - p := ⟨_, rfl⟩
      have e3 : IntKind.i64.wrap (64 - (p : Int)) = (r : Int) := by rw [IntKind.wrap_i64]; omega
      have e4 : r ≤ 64 := by omega
      have e5 := shl_bits n wh p j hp
      rw [← HS.out] at e5
      have R := hr.setw j (.int .u64 (limb (n * 2 ^ s) j))
      rw [slF_set] at R
      clear hr
      go_wp2
      refine wp_region_still_tail 20 (by kernel_rfl) (by kernel_rfl) ?_
      simp only [List.take_succ_cons, List.take_zero, List.drop_succ_cons, List.drop_zero]
      repeat still_step
      still_call X1.out
      repeat still_step
      still_call X2.out
      repeat still_step
      refine wpStill_nil ?_
      change wpList _ _ _ _ _ wr.drew
      go_wp2
      go_roundw
      case rel => exact ⟨j, by omega, by go_num, R.drew, (ho.setCell _ _).drew⟩
      case measure => simp [intOf]

theorem shl_any (g L n s : Nat) (t : TypeId) (w : World) (hL : L ≤ 8) (hs : s ≤ 256) (h : Res g t (wrow (limb n) L) w) :
    Calls Try.prog 74 #[.slice (some ⟨g, 0, none⟩) L L, .int .i64 (s : Int)] w fun e w' =>
      e = .returned (.tuple #[]) ∧ Res g t (wrow (limb (n * 2 ^ s)) L) w' ∧ Only g w w' :=
  shl_core g L n s (s / 64) (s % 64) t w hL (by omega) (by omega) (by omega) (by omega) (by omega) h

/-- The word that limbAt reads of a row that reads as n from place k on. -/
theorem limbAt_high (g L k : Nat) (t : TypeId) (n : Nat) (f : Nat → Int) (i : Nat) (w : World) (hn : n < 18446744073709551616 ^ L) (hi : k ≤ i) (hf : ∀ j, k ≤ j → f j = limb n j) (h : Res g t (wrow f L) w) :
    Calls Try.prog 78 #[.slice (some ⟨g, 0, none⟩) L L, .int .i64 (i : Int)] w fun e w' => e = .returned (.int .u64 ((word n i : Nat) : Int)) ∧ w = w' := by
  by_cases h0 : i < L
  · rw [← limb_word, ← hf i hi]
    exact limbAt_in g L i t f w h0 h
  · rw [word_ge hn (by omega)]
    exact limbAt_out _ L i w (by omega)

theorem shr_bits (n wh p j : Nat) (hp : p < 64) :
    bits .or .u64 (((word n (j + wh) : Nat) : Int) / 2 ^ p) (IntKind.u64.wrap (((word n (j + wh + 1) : Nat) : Int) * 2 ^ (64 - p))) = limb (n / 2 ^ (64 * wh + p)) j := by
  have h1 : IntKind.u64.wrap (((word n (j + wh + 1) : Nat) : Int) * 2 ^ (64 - p)) = ((word n (j + wh + 1) * 2 ^ (64 - p) % 18446744073709551616 : Nat) : Int) := by
    rw [IntKind.wrap_u64]; simp
  have h2 : ((word n (j + wh) : Nat) : Int) / 2 ^ p = ((word n (j + wh) / 2 ^ p : Nat) : Int) := by simp
  rw [h1, h2, bits_or_u64_nat _ _ (Nat.lt_of_le_of_lt (Nat.div_le_self _ _) (word_lt _ _)) (Nat.mod_lt _ (by omega)), limb_word, shr_word n wh p j hp]

/-- The row while it is shifted right: below k the new words. -/
def srF (n s k : Nat) : Nat → Int := fun j => if j < k then limb (n / 2 ^ s) j else limb n j
theorem srF_set (n s k L : Nat) : (wrow (srF n s k) L).setIfInBounds k (.int .u64 (limb (n / 2 ^ s) k)) = wrow (srF n s (k + 1)) L :=
  wrow_set (by simp [srF]) fun i _ hne => by
    unfold srF
    by_cases h : i < k
    · rw [if_pos h, if_pos (by omega)]
    · rw [if_neg h, if_neg (by omega)]
theorem srF_zero (n s L : Nat) : wrow (limb n) L = wrow (srF n s 0) L := wrow_congr fun j _ => by simp [srF]
theorem srF_top (n s L : Nat) : wrow (srF n s L) L = wrow (limb (n / 2 ^ s)) L := wrow_congr fun j hj => by simp [srF, hj]

set_option maxRecDepth 100000 in
set_option maxHeartbeats 2000000 in
theorem shr_core (g L n s wh p : Nat) (t : TypeId) (w : World) (hL : L ≤ 8) (hn : n < 18446744073709551616 ^ L) (hp : p < 64) (hw : wh ≤ 4) (q1 : (s : Int) / 64 = (wh : Int)) (q2 : (s : Int) % 64 = (p : Int)) (hs : s = 64 * wh + p) (h : Res g t (wrow (limb n) L) w) :
    Calls Try.prog 76 #[.slice (some ⟨g, 0, none⟩) L L, .int .i64 (s : Int)] w fun e w' =>
      e = .returned (.tuple #[]) ∧ Res g t (wrow (limb (n / 2 ^ s)) L) w' ∧ Only g w w' := by
  have HS := Lib.hid hs
  have HN := Lib.hid hn
  clear hs hn
  go_enter Try.func76, Try.ntmps76
  go_wp2
  rw [q2]
  go_loopw [6, 13] (fun _ i wr => ∃ k : Nat, k ≤ L ∧ i = .int .i64 (k : Int) ∧ Res g t (wrow (srF n s k) L) wr ∧ Only g w wr) (fun _ i _ => (L - intOf i).toNat)
  case atStart => exact ⟨0, by omega, by go_num, by rw [← srF_zero]; exact h, Only.refl _ _⟩
  case round =>
    obtain ⟨j, hk, rfl, hr, ho⟩ := hrel
    by_cases hj : j = L
    · subst hj
      rw [srF_top] at hr
      go_wp2
      go_end0
      exact ⟨rfl, hr, ho⟩
    · have i1 : (0 : Int) ≤ (j : Int) := by omega
      have i2 : (j : Int) < (L : Int) := by omega
      have co := (hr.cells j).trans (wrow_get (by omega))
      have hfz := hr.marks j
      have X1 := Lib.hid (stillOf (limbAt_high g L j t n (srF n s j) (j + wh) wr.drew HN.out (by omega) (fun z hz => if_neg (by omega)) hr))
      have X2 := Lib.hid (stillOf (limbAt_high g L j t n (srF n s j) (j + wh + 1) wr.drew HN.out (by omega) (fun z hz => if_neg (by omega)) hr))
      have e1 : IntKind.i64.wrap ((j : Int) + wh) = ((j + wh : Nat) : Int) := by rw [IntKind.wrap_i64]; omega
      have e2 : IntKind.i64.wrap (((j + wh : Nat) : Int) + 1) = ((j + wh + 1 : Nat) : Int) := by rw [IntKind.wrap_i64]; omega
      generalize hA : j + wh = A at *
      generalize hB : A + 1 = B at *
      have HA := Lib.hid hA
      have HB := Lib.hid hB
      clear hA hB
      obtain ⟨r, hr64⟩ : ∃ r : Nat, r = 64 - p := ⟨_, rfl⟩
      have e3 : IntKind.i64.wrap (64 - (p : Int)) = (r : Int) := by rw [IntKind.wrap_i64]; omega
      have e4 : r ≤ 64 := by omega
      have e5 := shr_bits n wh p j hp
      rw [← HS.out, HA.out, HB.out] at e5
      have e6 : ∀ x : Int, min 64 x = x ∨ True := fun _ => Or.inr trivial
      have R := hr.setw j (.int .u64 (limb (n / 2 ^ s) j))
      rw [srF_set] at R
      clear hr e6
      go_wp2
      refine wp_region_still_tail 20 (by kernel_rfl) (by kernel_rfl) ?_
      simp only [List.take_succ_cons, List.take_zero, List.drop_succ_cons, List.drop_zero]
      repeat still_step
      still_call X1.out
      repeat still_step
      still_call X2.out
      repeat still_step
      refine wpStill_nil ?_
      change wpList _ _ _ _ _ wr.drew
      go_wp2
      go_roundw
      case rel => exact ⟨j + 1, by omega, by go_num, R.drew, (ho.setCell _ _).drew⟩
      case measure => simp [intOf]; omega

theorem shr_any (g L n s : Nat) (t : TypeId) (w : World) (hL : L ≤ 8) (hn : n < 18446744073709551616 ^ L) (hs : s ≤ 256) (h : Res g t (wrow (limb n) L) w) :
    Calls Try.prog 76 #[.slice (some ⟨g, 0, none⟩) L L, .int .i64 (s : Int)] w fun e w' =>
      e = .returned (.tuple #[]) ∧ Res g t (wrow (limb (n / 2 ^ s)) L) w' ∧ Only g w w' :=
  shr_core g L n s (s / 64) (s % 64) t w hL hn (by omega) (by omega) (by omega) (by omega) (by omega) h

end Go.Proofs.Ytlaapbenpjopiaa

namespace Go.Proofs.Ytlaapbenpjopiaa
open Go.RowKit

/-! ### Half a step: two half words by a word -/
theorem half_eq {v1 v0 u Q R y : Nat} (hy : y = v1 * 4294967296 + v0) (hQ : Q * v1 + R = u) : Q * y + R * 4294967296 = u * 4294967296 + Q * v0 := by
  subst hy; subst hQ
  rw [Nat.mul_add, ← Nat.mul_assoc, Nat.add_mul]
  omega
theorem half_le {v1 v0 u d Q R y : Nat} (hy : y = v1 * 4294967296 + v0) (hy0 : 0 < y) (hQ : Q * v1 + R = u) (h : Q * v0 ≤ 4294967296 * R + d) : Q ≤ (u * 4294967296 + d) / y := by
  have E := half_eq hy hQ
  rw [Nat.le_div_iff_mul_le hy0]
  omega
theorem half_gt {v1 v0 u d Q R y : Nat} (hy : y = v1 * 4294967296 + v0) (hy0 : 0 < y) (hQ : Q * v1 + R = u) (h : 4294967296 * R + d < Q * v0) : (u * 4294967296 + d) / y < Q := by
  have E := half_eq hy hQ
  rw [Nat.div_lt_iff_lt_mul hy0]
  omega
theorem half_lt {u d y : Nat} (hu : u < y) (hd : d < 4294967296) : (u * 4294967296 + d) / y < 4294967296 := by
  rw [Nat.div_lt_iff_lt_mul (by omega), Nat.mul_comm 4294967296 y]
  have h : (u + 1) * 4294967296 ≤ y * 4294967296 := Nat.mul_le_mul_right _ hu
  omega
/-- Where the rest has grown past half a word the estimate is the digit. -/
theorem half_break {v1 v0 u d Q R y : Nat} (hy : y = v1 * 4294967296 + v0) (hv0 : v0 < 4294967296) (hu : u < y) (hQ : Q * v1 + R = u) (hR : 4294967296 ≤ R) : Q ≤ (u * 4294967296 + d) / y := by
  have hq : Q < 4294967296 := by
    rcases Nat.lt_or_ge Q 4294967296 with h | h
    · exact h
    · have h1 : 4294967296 * v1 ≤ Q * v1 := Nat.mul_le_mul_right _ h
      omega
  have h2 : Q * v0 ≤ 4294967296 * 4294967296 := Nat.mul_le_mul (by omega) (by omega)
  refine half_le hy (by omega) hQ ?_
  omega
theorem half_step {v1 u Q R : Nat} (hQ : Q * v1 + R = u) (h : 0 < Q) : (Q - 1) * v1 + (R + v1) = u := by
  obtain ⟨q, rfl⟩ : ∃ q, Q = q + 1 := ⟨Q - 1, by omega⟩
  rw [Nat.add_mul] at hQ
  simp only [Nat.add_sub_cancel]
  omega
theorem start_le {v1 v0 u d Q R y : Nat} (hy : y = v1 * 4294967296 + v0) (h : 0 < v1 ∧ R < v1 ∧ d < 4294967296) (hQ : Q * v1 + R = u) : (u * 4294967296 + d) / y ≤ Q := by
  have E := half_eq hy hQ
  have h2 : u * 4294967296 + d < (Q + 1) * y := by
    have e : (Q + 1) * y = Q * y + y := by rw [Nat.add_mul, Nat.one_mul]
    have e2 : (R + 1) * 4294967296 ≤ v1 * 4294967296 := Nat.mul_le_mul_right _ h.2.1
    omega
  have h3 := (Nat.div_lt_iff_lt_mul (by omega : 0 < y)).2 h2
  omega
theorem q_bound {v1 v0 u Q R y : Nat} (hy : y = v1 * 4294967296 + v0) (hv0 : v0 < 4294967296) (hv1 : 2147483648 ≤ v1) (hu : u < y) (hQ : Q * v1 + R = u) : Q ≤ 8589934592 := by
  rcases Nat.lt_or_ge 8589934592 Q with h | h
  · have h1 : 8589934593 * v1 ≤ Q * v1 := Nat.mul_le_mul_right _ h
    omega
  · exact h
/-- The two halves together. -/
theorem half_join (u d1 d0 y : Nat) (hy : 0 < y) :
    (u * 18446744073709551616 + (d1 * 4294967296 + d0)) / y = (u * 4294967296 + d1) / y * 4294967296 + ((u * 4294967296 + d1) % y * 4294967296 + d0) / y := by
  obtain ⟨q, hq⟩ : ∃ q, q = (u * 4294967296 + d1) / y := ⟨_, rfl⟩
  obtain ⟨r, hr⟩ : ∃ r, r = (u * 4294967296 + d1) % y := ⟨_, rfl⟩
  have h : y * q + r = u * 4294967296 + d1 := by rw [hq, hr]; exact Nat.div_add_mod _ y
  rw [← hq, ← hr]
  have e : u * 18446744073709551616 + (d1 * 4294967296 + d0) = r * 4294967296 + d0 + y * (q * 4294967296) := by
    rw [← Nat.mul_assoc]
    omega
  rw [e, Nat.add_mul_div_left _ _ hy]
  omega

theorem lz_any (y : Nat) (h0 : 9223372036854775808 ≤ y) (h1 : y < 18446744073709551616) (w : World) :
    Calls Try.prog 60 #[.int .u64 (y : Int)] w fun e w' => e = .returned (.int .i64 0) ∧ w = w' := by
  have hb : blen y = 64 := blen_eq (k := 63) h0 h1
  have C := Lib.hid (len64_any (y : Int) (by omega) (by omega))
  rw [Int.toNat_natCast, hb] at C
  go_enter Try.func60, Try.ntmps60
  go_wp2_with (go_at_call 66; refine (C.out _).mono ?_; rintro e w2 ⟨rfl, rfl⟩)
  go_ret
  exact ⟨rfl, rfl⟩

theorem div64_zero (lo y : Nat) (h0 : 9223372036854775808 ≤ y) (h1 : y < 18446744073709551616) (hl : lo < 18446744073709551616) (w : World) :
    Calls Try.prog 53 #[.int .u64 0, .int .u64 (lo : Int), .int .u64 (y : Int)] w fun e w' => (∃ r : Int, e = .returned (.tuple #[.int .u64 ((lo / y : Nat) : Int), .int .u64 r])) ∧ Below w.heap.size w w' := by
  have hy0 : ((y : Int) == 0) = false := by simp; omega
  have hy1 : ¬ (y : Int) ≤ 0 := by omega
  have hy2 : (0 : Int) < (y : Int) := by omega
  have hq : IntKind.u64.wrap ((lo : Int) / (y : Int)) = ((lo / y : Nat) : Int) := by
    have h := Nat.div_le_self lo y
    rw [← Int.natCast_ediv, IntKind.wrap_u64]; generalize lo / y = z at *; omega
  go_enter Try.func53, Try.ntmps53
  go_wp2
  go_region
  go_wp2
  go_ret2
  refine ⟨⟨(lo : Int) % (y : Int), by first | rfl | (simp only [hq]; rfl)⟩, ?_⟩
  go_grown

theorem and32 (x a b : Nat) (h : x = a * 4294967296 + b) (hb : b < 4294967296) (hx : x < 18446744073709551616) : bits BinOp.and IntKind.u64 (x : Int) 4294967295 = (b : Int) := by
  have e := bits_and_u64_nat x 4294967295 hx (by omega)
  have e2 : x &&& 4294967295 = x % 4294967296 := Nat.and_two_pow_sub_one_eq_mod x 32
  rw [e2] at e
  rw [show bits BinOp.and IntKind.u64 (x : Int) 4294967295 = ((x % 4294967296 : Nat) : Int) from e]
  omega
theorem or0 (x : Nat) (hx : x < 18446744073709551616) : bits BinOp.or IntKind.u64 (x : Int) 0 = (x : Int) := by
  have e := bits_or_u64_nat x 0 hx (by omega)
  rw [Nat.or_zero] at e
  exact e

set_option maxRecDepth 100000 in
set_option maxHeartbeats 4000000 in
theorem div64_pos (hi lo y v1 v0 d1 d0 quo : Nat) (hquo : quo = (hi * 18446744073709551616 + lo) / y) (hy : y = v1 * 4294967296 + v0) (hv0 : v0 < 4294967296) (hv1 : 2147483648 ≤ v1) (hv1' : v1 < 4294967296) (hl : lo = d1 * 4294967296 + d0) (hd0 : d0 < 4294967296) (hd1 : d1 < 4294967296)
    (hu : hi < y) (hp : 0 < hi) (w : World) :
    Calls Try.prog 53 #[.int .u64 (hi : Int), .int .u64 (lo : Int), .int .u64 (y : Int)] w fun e w' => (∃ r : Int, e = .returned (.tuple #[.int .u64 (quo : Int), .int .u64 r])) ∧ Below w.heap.size w w' := by
  have hy1 : y < 18446744073709551616 := by omega
  have hl1 : lo < 18446744073709551616 := by omega
  have HL := Lib.hid (lz_any y (by omega) hy1)
  have y0 : ((y : Int) == 0) = false := by simp; omega
  have y1 : ¬ (y : Int) ≤ (hi : Int) := by omega
  have y2 : ((hi : Int) == 0) = false := by simp; omega
  have a1 : bits BinOp.and IntKind.u64 (y : Int) 4294967295 = (v0 : Int) := and32 y v1 v0 hy hv0 hy1
  have a2 : bits BinOp.and IntKind.u64 (lo : Int) 4294967295 = (d0 : Int) := and32 lo d1 d0 hl hd0 hl1
  have a3 : (y : Int) / 4294967296 = (v1 : Int) := by omega
  have a4 : (lo : Int) / 4294967296 = (d1 : Int) := by omega
  have a5 : bits BinOp.or IntKind.u64 (hi : Int) 0 = (hi : Int) := or0 hi (by omega)
  have a6 : (lo : Int) / 18446744073709551616 = 0 := by omega
  have a7 : IntKind.u64.wrap (y : Int) = y := by rw [IntKind.wrap_u64]; omega
  have a8 : IntKind.u64.wrap (lo : Int) = lo := by rw [IntKind.wrap_u64]; omega
  have a9 : IntKind.u64.wrap (hi : Int) = hi := by rw [IntKind.wrap_u64]; omega
  have HY := Lib.hid hy
  have HLO := Lib.hid hl
  have HQ := Lib.hid hquo
  clear hy hl hquo
  obtain ⟨q0, hq0⟩ : ∃ q, q = hi / v1 := ⟨_, rfl⟩
  obtain ⟨r0, hr0⟩ : ∃ r, r = hi % v1 := ⟨_, rfl⟩
  have i1 : q0 * v1 + r0 = hi := by rw [hq0, hr0, Nat.mul_comm]; exact Nat.div_add_mod _ _
  have i2 : r0 < v1 := by rw [hr0]; exact Nat.mod_lt _ (by omega)
  have i3 : q0 ≤ hi := by rw [hq0]; exact Nat.div_le_self _ _
  have b1 : IntKind.u64.wrap ((hi : Int) / (v1 : Int)) = (q0 : Int) := by rw [← Int.natCast_ediv, ← hq0, IntKind.wrap_u64]; omega
  have b2 : IntKind.u64.wrap ((hi : Int) - IntKind.u64.wrap ((q0 : Int) * (v1 : Int))) = (r0 : Int) := by
    rw [← Int.natCast_mul]; simp only [IntKind.wrap_u64]; generalize q0 * v1 = z at *; omega
  have J := Lib.hid i1
  have K := Lib.hid (start_le HY.out (by omega) i1 : (hi * 4294967296 + d1) / y ≤ q0)
  clear hq0 hr0 i1 i3
  go_enter Try.func53, Try.ntmps53
  go_wp2_with (go_at_call 60; refine (HL.out _).mono ?_; rintro e w2 ⟨rfl, rfl⟩)
  go_loopw [15, 16] (fun q r wr => ∃ Q R : Nat, q = .int .u64 (Q : Int) ∧ r = .int .u64 (R : Int) ∧ Hid (Q * v1 + R = hi) ∧ Hid ((hi * 4294967296 + d1) / y ≤ Q) ∧ R < 4294967296 ∧ w = wr) (fun q r _ => (intOf q).toNat)
  case atStart => exact ⟨q0, r0, rfl, rfl, J, K, by omega, by first | rfl | trivial⟩
  case round =>
    obtain ⟨Q, R, rfl, rfl, hQ, hle, hR, rfl⟩ := hrel
    have qb : Hid (Q ≤ 8589934592) := q_bound HY.out hv0 hv1 hu hQ.out
    by_cases t1 : 4294967296 ≤ Q
    · have t1' : (4294967296 : Int) ≤ (Q : Int) := by omega
      have T1 := Lib.hid t1
      clear t1
      have hgt : (hi * 4294967296 + d1) / y < Q := Nat.lt_of_lt_of_le (half_lt hu (by omega)) T1.out
      have hq0 : 0 < Q := Nat.lt_of_le_of_lt (Nat.zero_le _) hgt
      obtain ⟨Z, hZ⟩ : ∃ q, q = Q - 1 := ⟨_, rfl⟩
      have hs := half_step hQ.out hq0
      have hgz : (hi * 4294967296 + d1) / y ≤ Z := by rw [hZ]; exact Nat.le_sub_one_of_lt hgt
      have c1 : IntKind.u64.wrap ((Q : Int) - 1) = (Z : Int) := by
        have := qb.out
        rw [IntKind.wrap_u64]; omega
      have c3 : Z < Q := by omega
      obtain ⟨S, hS⟩ : ∃ s, s = R + v1 := ⟨_, rfl⟩
      have c2 : IntKind.u64.wrap ((R : Int) + (v1 : Int)) = (S : Int) := by rw [IntKind.wrap_u64]; omega
      rw [← hS, ← hZ] at hs
      have HS := Lib.hid hs
      have HG := Lib.hid hgz
      have C3 := Lib.hid c3
      clear hs hgt hgz hQ hle hS hZ c3 hq0
      by_cases t3 : 4294967296 ≤ S
      · have t3' : (4294967296 : Int) ≤ (S : Int) := by omega
        have HE : Hid (Z = (hi * 4294967296 + d1) / y) := Nat.le_antisymm (half_break HY.out hv0 (by omega) HS.out t3) HG.out
        clear t3
        obtain ⟨u2, hu2⟩ : ∃ u, u = (hi * 4294967296 + d1) % y := ⟨_, rfl⟩
        have hub : u2 < y := by rw [hu2]; exact Nat.mod_lt _ (by omega)
        have hdm : Z * y + u2 = hi * 4294967296 + d1 := by rw [HE.out, hu2, Nat.mul_comm]; exact Nat.div_add_mod _ _
        have m1 : IntKind.u64.wrap (IntKind.u64.wrap (IntKind.u64.wrap ((hi : Int) * 4294967296) + (d1 : Int)) - IntKind.u64.wrap ((Z : Int) * (y : Int))) = (u2 : Int) := by
          rw [← Int.natCast_mul]; simp only [IntKind.wrap_u64]; generalize Z * y = z at *; omega
        have HU := Lib.hid hu2
        clear hu2 hdm
        obtain ⟨q0b, hq0b⟩ : ∃ q, q = u2 / v1 := ⟨_, rfl⟩
        obtain ⟨r0b, hr0b⟩ : ∃ r, r = u2 % v1 := ⟨_, rfl⟩
        have i1b : q0b * v1 + r0b = u2 := by rw [hq0b, hr0b, Nat.mul_comm]; exact Nat.div_add_mod _ _
        have i2b : r0b < v1 := by rw [hr0b]; exact Nat.mod_lt _ (by omega)
        have i3b : q0b ≤ u2 := by rw [hq0b]; exact Nat.div_le_self _ _
        have b1b : IntKind.u64.wrap ((u2 : Int) / (v1 : Int)) = (q0b : Int) := by rw [← Int.natCast_ediv, ← hq0b, IntKind.wrap_u64]; omega
        have b2b : IntKind.u64.wrap ((u2 : Int) - IntKind.u64.wrap ((q0b : Int) * (v1 : Int))) = (r0b : Int) := by
          rw [← Int.natCast_mul]; simp only [IntKind.wrap_u64]; generalize q0b * v1 = z at *; omega
        have Jb := Lib.hid i1b
        have Kb := Lib.hid (start_le HY.out (by omega) i1b : (u2 * 4294967296 + d0) / y ≤ q0b)
        clear hq0b hr0b i1b i3b
        go_wp2
        go_loopw [16, 18] (fun r q wr => ∃ Q R : Nat, q = .int .u64 (Q : Int) ∧ r = .int .u64 (R : Int) ∧ Hid (Q * v1 + R = u2) ∧ Hid ((u2 * 4294967296 + d0) / y ≤ Q) ∧ R < 4294967296 ∧ w = wr) (fun r q _ => (intOf q).toNat)
        case atStart => exact ⟨q0b, r0b, rfl, rfl, Jb, Kb, by omega, by first | rfl | trivial⟩
        case round =>
          obtain ⟨Qb, Rb, rfl, rfl, hQb, hleb, hRb, rfl⟩ := hrel
          have qbb : Hid (Qb ≤ 8589934592) := q_bound HY.out hv0 hv1 hub hQb.out
          by_cases t1 : 4294967296 ≤ Qb
          · have t1' : (4294967296 : Int) ≤ (Qb : Int) := by omega
            have T1 := Lib.hid t1
            clear t1
            have hgt : (u2 * 4294967296 + d0) / y < Qb := Nat.lt_of_lt_of_le (half_lt hub (by omega)) T1.out
            have hq0 : 0 < Qb := Nat.lt_of_le_of_lt (Nat.zero_le _) hgt
            obtain ⟨Zb, hZb⟩ : ∃ q, q = Qb - 1 := ⟨_, rfl⟩
            have hs := half_step hQb.out hq0
            have hgz : (u2 * 4294967296 + d0) / y ≤ Zb := by rw [hZb]; exact Nat.le_sub_one_of_lt hgt
            have c1 : IntKind.u64.wrap ((Qb : Int) - 1) = (Zb : Int) := by
              have := qbb.out
              rw [IntKind.wrap_u64]; omega
            have c3 : Zb < Qb := by omega
            obtain ⟨Sb, hSb⟩ : ∃ s, s = Rb + v1 := ⟨_, rfl⟩
            have c2 : IntKind.u64.wrap ((Rb : Int) + (v1 : Int)) = (Sb : Int) := by rw [IntKind.wrap_u64]; omega
            rw [← hSb, ← hZb] at hs
            have HSb := Lib.hid hs
            have HGb := Lib.hid hgz
            have C3b := Lib.hid c3
            clear hs hgt hgz hQb hleb hSb hZb c3 hq0
            by_cases t3 : 4294967296 ≤ Sb
            · have t3' : (4294967296 : Int) ≤ (Sb : Int) := by omega
              have HEb : Hid (Zb = (u2 * 4294967296 + d0) / y) := Nat.le_antisymm (half_break HY.out hv0 (by omega) HSb.out t3) HGb.out
              clear t3
              obtain ⟨rr, hrr⟩ : ∃ r, r = (u2 * 4294967296 + d0) % y := ⟨_, rfl⟩
              have hrb : rr < y := by rw [hrr]; exact Nat.mod_lt _ (by omega)
              have hdn : Zb * y + rr = u2 * 4294967296 + d0 := by rw [HEb.out, hrr, Nat.mul_comm]; exact Nat.div_add_mod _ _
              have f2 : IntKind.u64.wrap (IntKind.u64.wrap (IntKind.u64.wrap ((u2 : Int) * 4294967296) + (d0 : Int)) - IntKind.u64.wrap ((Zb : Int) * (y : Int))) = (rr : Int) := by
                rw [← Int.natCast_mul]; simp only [IntKind.wrap_u64]; generalize Zb * y = z at *; omega
              have f3 : (hi * 18446744073709551616 + lo) / y = Z * 4294967296 + Zb := by rw [HLO.out, half_join hi d1 d0 y (by omega), ← HU.out, ← HE.out, ← HEb.out]
              have f4 : Z < 4294967296 := by rw [HE.out]; exact half_lt hu hd1
              have f5 : Zb < 4294967296 := by rw [HEb.out]; exact half_lt hub hd0
              have f6 : IntKind.u64.wrap ((Z : Int) * 4294967296) = (Z : Int) * 4294967296 := by rw [IntKind.wrap_u64]; omega
              have f7 : IntKind.u64.wrap ((Z : Int) * 4294967296 + (Zb : Int)) = (quo : Int) := by rw [HQ.out, f3, IntKind.wrap_u64]; omega
              clear f3 f4 f5 hdn hrr HLO
              go_wp2
              go_ret2
              exact ⟨⟨(rr : Int), rfl⟩, Below.refl _ _⟩
            · have t3' : decide ((4294967296 : Int) ≤ (Sb : Int)) = false := decide_eq_false (by omega)
              have t4 : Sb < 4294967296 := by omega
              clear t3
              go_wp2
              go_roundw
              case rel => exact ⟨Zb, Sb, rfl, rfl, HSb, HGb, by omega, by first | rfl | trivial⟩
              case measure => simp [intOf]; exact C3b.out
          · have t1' : decide ((4294967296 : Int) ≤ (Qb : Int)) = false := decide_eq_false (by omega)
            have hqv : Qb * v0 ≤ 4294967295 * 4294967295 := Nat.mul_le_mul (by omega) (by omega)
            obtain ⟨Pb, hPb⟩ : ∃ p, p = Qb * v0 := ⟨_, rfl⟩
            obtain ⟨Tb, hTb⟩ : ∃ t, t = 4294967296 * Rb + d0 := ⟨_, rfl⟩
            rw [← hPb] at hqv
            have e1 : IntKind.u64.wrap ((Qb : Int) * (v0 : Int)) = (Pb : Int) := by rw [← Int.natCast_mul, ← hPb, IntKind.wrap_u64]; omega
            have e2 : IntKind.u64.wrap (4294967296 * (Rb : Int)) = 4294967296 * (Rb : Int) := by rw [IntKind.wrap_u64]; omega
            have e3 : IntKind.u64.wrap (4294967296 * (Rb : Int) + (d0 : Int)) = (Tb : Int) := by rw [IntKind.wrap_u64]; omega
            have HPb := Lib.hid hPb
            have HTb := Lib.hid hTb
            clear hPb hTb hqv t1
            by_cases t2 : Tb < Pb
            · have t2' : (Tb : Int) < (Pb : Int) := by omega
              have hgt : (u2 * 4294967296 + d0) / y < Qb := half_gt HY.out (by omega) hQb.out (by rw [← HPb.out, ← HTb.out]; exact t2)
              have hq0 : 0 < Qb := Nat.lt_of_le_of_lt (Nat.zero_le _) hgt
              obtain ⟨Zb, hZb⟩ : ∃ q, q = Qb - 1 := ⟨_, rfl⟩
              have hs := half_step hQb.out hq0
              have hgz : (u2 * 4294967296 + d0) / y ≤ Zb := by rw [hZb]; exact Nat.le_sub_one_of_lt hgt
              have c1 : IntKind.u64.wrap ((Qb : Int) - 1) = (Zb : Int) := by
                have := qbb.out
                rw [IntKind.wrap_u64]; omega
              have c3 : Zb < Qb := by omega
              obtain ⟨Sb, hSb⟩ : ∃ s, s = Rb + v1 := ⟨_, rfl⟩
              have c2 : IntKind.u64.wrap ((Rb : Int) + (v1 : Int)) = (Sb : Int) := by rw [IntKind.wrap_u64]; omega
              rw [← hSb, ← hZb] at hs
              have HSb := Lib.hid hs
              have HGb := Lib.hid hgz
              have C3b := Lib.hid c3
              clear hs hgt hgz hQb hleb hSb hZb c3 hq0
              by_cases t3 : 4294967296 ≤ Sb
              · have t3' : (4294967296 : Int) ≤ (Sb : Int) := by omega
                have HEb : Hid (Zb = (u2 * 4294967296 + d0) / y) := Nat.le_antisymm (half_break HY.out hv0 (by omega) HSb.out t3) HGb.out
                clear t3
                obtain ⟨rr, hrr⟩ : ∃ r, r = (u2 * 4294967296 + d0) % y := ⟨_, rfl⟩
                have hrb : rr < y := by rw [hrr]; exact Nat.mod_lt _ (by omega)
                have hdn : Zb * y + rr = u2 * 4294967296 + d0 := by rw [HEb.out, hrr, Nat.mul_comm]; exact Nat.div_add_mod _ _
                have f2 : IntKind.u64.wrap (IntKind.u64.wrap (IntKind.u64.wrap ((u2 : Int) * 4294967296) + (d0 : Int)) - IntKind.u64.wrap ((Zb : Int) * (y : Int))) = (rr : Int) := by
                  rw [← Int.natCast_mul]; simp only [IntKind.wrap_u64]; generalize Zb * y = z at *; omega
                have f3 : (hi * 18446744073709551616 + lo) / y = Z * 4294967296 + Zb := by rw [HLO.out, half_join hi d1 d0 y (by omega), ← HU.out, ← HE.out, ← HEb.out]
                have f4 : Z < 4294967296 := by rw [HE.out]; exact half_lt hu hd1
                have f5 : Zb < 4294967296 := by rw [HEb.out]; exact half_lt hub hd0
                have f6 : IntKind.u64.wrap ((Z : Int) * 4294967296) = (Z : Int) * 4294967296 := by rw [IntKind.wrap_u64]; omega
                have f7 : IntKind.u64.wrap ((Z : Int) * 4294967296 + (Zb : Int)) = (quo : Int) := by rw [HQ.out, f3, IntKind.wrap_u64]; omega
                clear f3 f4 f5 hdn hrr HLO
                go_wp2
                go_ret2
                exact ⟨⟨(rr : Int), rfl⟩, Below.refl _ _⟩
              · have t3' : decide ((4294967296 : Int) ≤ (Sb : Int)) = false := decide_eq_false (by omega)
                have t4 : Sb < 4294967296 := by omega
                clear t3
                go_wp2
                go_roundw
                case rel => exact ⟨Zb, Sb, rfl, rfl, HSb, HGb, by omega, by first | rfl | trivial⟩
                case measure => simp [intOf]; exact C3b.out
            · have t2' : decide ((Tb : Int) < (Pb : Int)) = false := decide_eq_false (by omega)
              have HEb : Hid (Qb = (u2 * 4294967296 + d0) / y) := Nat.le_antisymm (half_le HY.out (by omega) hQb.out (by rw [← HPb.out, ← HTb.out]; omega)) hleb.out
              obtain ⟨rr, hrr⟩ : ∃ r, r = (u2 * 4294967296 + d0) % y := ⟨_, rfl⟩
              have hrb : rr < y := by rw [hrr]; exact Nat.mod_lt _ (by omega)
              have hdn : Qb * y + rr = u2 * 4294967296 + d0 := by rw [HEb.out, hrr, Nat.mul_comm]; exact Nat.div_add_mod _ _
              have f2 : IntKind.u64.wrap (IntKind.u64.wrap (IntKind.u64.wrap ((u2 : Int) * 4294967296) + (d0 : Int)) - IntKind.u64.wrap ((Qb : Int) * (y : Int))) = (rr : Int) := by
                rw [← Int.natCast_mul]; simp only [IntKind.wrap_u64]; generalize Qb * y = z at *; omega
              have f3 : (hi * 18446744073709551616 + lo) / y = Z * 4294967296 + Qb := by rw [HLO.out, half_join hi d1 d0 y (by omega), ← HU.out, ← HE.out, ← HEb.out]
              have f4 : Z < 4294967296 := by rw [HE.out]; exact half_lt hu hd1
              have f5 : Qb < 4294967296 := by rw [HEb.out]; exact half_lt hub hd0
              have f6 : IntKind.u64.wrap ((Z : Int) * 4294967296) = (Z : Int) * 4294967296 := by rw [IntKind.wrap_u64]; omega
              have f7 : IntKind.u64.wrap ((Z : Int) * 4294967296 + (Qb : Int)) = (quo : Int) := by rw [HQ.out, f3, IntKind.wrap_u64]; omega
              clear f3 f4 f5 hdn hrr HLO
              go_wp2
              go_ret2
              exact ⟨⟨(rr : Int), rfl⟩, Below.refl _ _⟩
      · have t3' : decide ((4294967296 : Int) ≤ (S : Int)) = false := decide_eq_false (by omega)
        have t4 : S < 4294967296 := by omega
        clear t3
        go_wp2
        go_roundw
        case rel => exact ⟨Z, S, rfl, rfl, HS, HG, by omega, by first | rfl | trivial⟩
        case measure => simp [intOf]; exact C3.out
    · have t1' : decide ((4294967296 : Int) ≤ (Q : Int)) = false := decide_eq_false (by omega)
      have hqv : Q * v0 ≤ 4294967295 * 4294967295 := Nat.mul_le_mul (by omega) (by omega)
      obtain ⟨P, hP⟩ : ∃ p, p = Q * v0 := ⟨_, rfl⟩
      obtain ⟨T, hT⟩ : ∃ t, t = 4294967296 * R + d1 := ⟨_, rfl⟩
      rw [← hP] at hqv
      have e1 : IntKind.u64.wrap ((Q : Int) * (v0 : Int)) = (P : Int) := by rw [← Int.natCast_mul, ← hP, IntKind.wrap_u64]; omega
      have e2 : IntKind.u64.wrap (4294967296 * (R : Int)) = 4294967296 * (R : Int) := by rw [IntKind.wrap_u64]; omega
      have e3 : IntKind.u64.wrap (4294967296 * (R : Int) + (d1 : Int)) = (T : Int) := by rw [IntKind.wrap_u64]; omega
      have HP := Lib.hid hP
      have HT := Lib.hid hT
      clear hP hT hqv t1
      by_cases t2 : T < P
      · have t2' : (T : Int) < (P : Int) := by omega
        have hgt : (hi * 4294967296 + d1) / y < Q := half_gt HY.out (by omega) hQ.out (by rw [← HP.out, ← HT.out]; exact t2)
        have hq0 : 0 < Q := Nat.lt_of_le_of_lt (Nat.zero_le _) hgt
        obtain ⟨Z, hZ⟩ : ∃ q, q = Q - 1 := ⟨_, rfl⟩
        have hs := half_step hQ.out hq0
        have hgz : (hi * 4294967296 + d1) / y ≤ Z := by rw [hZ]; exact Nat.le_sub_one_of_lt hgt
        have c1 : IntKind.u64.wrap ((Q : Int) - 1) = (Z : Int) := by
          have := qb.out
          rw [IntKind.wrap_u64]; omega
        have c3 : Z < Q := by omega
        obtain ⟨S, hS⟩ : ∃ s, s = R + v1 := ⟨_, rfl⟩
        have c2 : IntKind.u64.wrap ((R : Int) + (v1 : Int)) = (S : Int) := by rw [IntKind.wrap_u64]; omega
        rw [← hS, ← hZ] at hs
        have HS := Lib.hid hs
        have HG := Lib.hid hgz
        have C3 := Lib.hid c3
        clear hs hgt hgz hQ hle hS hZ c3 hq0
        by_cases t3 : 4294967296 ≤ S
        · have t3' : (4294967296 : Int) ≤ (S : Int) := by omega
          have HE : Hid (Z = (hi * 4294967296 + d1) / y) := Nat.le_antisymm (half_break HY.out hv0 (by omega) HS.out t3) HG.out
          clear t3
          obtain ⟨u2, hu2⟩ : ∃ u, u = (hi * 4294967296 + d1) % y := ⟨_, rfl⟩
          have hub : u2 < y := by rw [hu2]; exact Nat.mod_lt _ (by omega)
          have hdm : Z * y + u2 = hi * 4294967296 + d1 := by rw [HE.out, hu2, Nat.mul_comm]; exact Nat.div_add_mod _ _
          have m1 : IntKind.u64.wrap (IntKind.u64.wrap (IntKind.u64.wrap ((hi : Int) * 4294967296) + (d1 : Int)) - IntKind.u64.wrap ((Z : Int) * (y : Int))) = (u2 : Int) := by
            rw [← Int.natCast_mul]; simp only [IntKind.wrap_u64]; generalize Z * y = z at *; omega
          have HU := Lib.hid hu2
          clear hu2 hdm
          obtain ⟨q0b, hq0b⟩ : ∃ q, q = u2 / v1 := ⟨_, rfl⟩
          obtain ⟨r0b, hr0b⟩ : ∃ r, r = u2 % v1 := ⟨_, rfl⟩
          have i1b : q0b * v1 + r0b = u2 := by rw [hq0b, hr0b, Nat.mul_comm]; exact Nat.div_add_mod _ _
          have i2b : r0b < v1 := by rw [hr0b]; exact Nat.mod_lt _ (by omega)
          have i3b : q0b ≤ u2 := by rw [hq0b]; exact Nat.div_le_self _ _
          have b1b : IntKind.u64.wrap ((u2 : Int) / (v1 : Int)) = (q0b : Int) := by rw [← Int.natCast_ediv, ← hq0b, IntKind.wrap_u64]; omega
          have b2b : IntKind.u64.wrap ((u2 : Int) - IntKind.u64.wrap ((q0b : Int) * (v1 : Int))) = (r0b : Int) := by
            rw [← Int.natCast_mul]; simp only [IntKind.wrap_u64]; generalize q0b * v1 = z at *; omega
          have Jb := Lib.hid i1b
          have Kb := Lib.hid (start_le HY.out (by omega) i1b : (u2 * 4294967296 + d0) / y ≤ q0b)
          clear hq0b hr0b i1b i3b
          go_wp2
          go_loopw [16, 18] (fun r q wr => ∃ Q R : Nat, q = .int .u64 (Q : Int) ∧ r = .int .u64 (R : Int) ∧ Hid (Q * v1 + R = u2) ∧ Hid ((u2 * 4294967296 + d0) / y ≤ Q) ∧ R < 4294967296 ∧ w = wr) (fun r q _ => (intOf q).toNat)
          case atStart => exact ⟨q0b, r0b, rfl, rfl, Jb, Kb, by omega, by first | rfl | trivial⟩
          case round =>
            obtain ⟨Qb, Rb, rfl, rfl, hQb, hleb, hRb, rfl⟩ := hrel
            have qbb : Hid (Qb ≤ 8589934592) := q_bound HY.out hv0 hv1 hub hQb.out
            by_cases t1 : 4294967296 ≤ Qb
            · have t1' : (4294967296 : Int) ≤ (Qb : Int) := by omega
              have T1 := Lib.hid t1
              clear t1
              have hgt : (u2 * 4294967296 + d0) / y < Qb := Nat.lt_of_lt_of_le (half_lt hub (by omega)) T1.out
              have hq0 : 0 < Qb := Nat.lt_of_le_of_lt (Nat.zero_le _) hgt
              obtain ⟨Zb, hZb⟩ : ∃ q, q = Qb - 1 := ⟨_, rfl⟩
              have hs := half_step hQb.out hq0
              have hgz : (u2 * 4294967296 + d0) / y ≤ Zb := by rw [hZb]; exact Nat.le_sub_one_of_lt hgt
              have c1 : IntKind.u64.wrap ((Qb : Int) - 1) = (Zb : Int) := by
                have := qbb.out
                rw [IntKind.wrap_u64]; omega
              have c3 : Zb < Qb := by omega
              obtain ⟨Sb, hSb⟩ : ∃ s, s = Rb + v1 := ⟨_, rfl⟩
              have c2 : IntKind.u64.wrap ((Rb : Int) + (v1 : Int)) = (Sb : Int) := by rw [IntKind.wrap_u64]; omega
              rw [← hSb, ← hZb] at hs
              have HSb := Lib.hid hs
              have HGb := Lib.hid hgz
              have C3b := Lib.hid c3
              clear hs hgt hgz hQb hleb hSb hZb c3 hq0
              by_cases t3 : 4294967296 ≤ Sb
              · have t3' : (4294967296 : Int) ≤ (Sb : Int) := by omega
                have HEb : Hid (Zb = (u2 * 4294967296 + d0) / y) := Nat.le_antisymm (half_break HY.out hv0 (by omega) HSb.out t3) HGb.out
                clear t3
                obtain ⟨rr, hrr⟩ : ∃ r, r = (u2 * 4294967296 + d0) % y := ⟨_, rfl⟩
                have hrb : rr < y := by rw [hrr]; exact Nat.mod_lt _ (by omega)
                have hdn : Zb * y + rr = u2 * 4294967296 + d0 := by rw [HEb.out, hrr, Nat.mul_comm]; exact Nat.div_add_mod _ _
                have f2 : IntKind.u64.wrap (IntKind.u64.wrap (IntKind.u64.wrap ((u2 : Int) * 4294967296) + (d0 : Int)) - IntKind.u64.wrap ((Zb : Int) * (y : Int))) = (rr : Int) := by
                  rw [← Int.natCast_mul]; simp only [IntKind.wrap_u64]; generalize Zb * y = z at *; omega
                have f3 : (hi * 18446744073709551616 + lo) / y = Z * 4294967296 + Zb := by rw [HLO.out, half_join hi d1 d0 y (by omega), ← HU.out, ← HE.out, ← HEb.out]
                have f4 : Z < 4294967296 := by rw [HE.out]; exact half_lt hu hd1
                have f5 : Zb < 4294967296 := by rw [HEb.out]; exact half_lt hub hd0
                have f6 : IntKind.u64.wrap ((Z : Int) * 4294967296) = (Z : Int) * 4294967296 := by rw [IntKind.wrap_u64]; omega
                have f7 : IntKind.u64.wrap ((Z : Int) * 4294967296 + (Zb : Int)) = (quo : Int) := by rw [HQ.out, f3, IntKind.wrap_u64]; omega
                clear f3 f4 f5 hdn hrr HLO
                go_wp2
                go_ret2
                exact ⟨⟨(rr : Int), rfl⟩, Below.refl _ _⟩
              · have t3' : decide ((4294967296 : Int) ≤ (Sb : Int)) = false := decide_eq_false (by omega)
                have t4 : Sb < 4294967296 := by omega
                clear t3
                go_wp2
                go_roundw
                case rel => exact ⟨Zb, Sb, rfl, rfl, HSb, HGb, by omega, by first | rfl | trivial⟩
                case measure => simp [intOf]; exact C3b.out
            · have t1' : decide ((4294967296 : Int) ≤ (Qb : Int)) = false := decide_eq_false (by omega)
              have hqv : Qb * v0 ≤ 4294967295 * 4294967295 := Nat.mul_le_mul (by omega) (by omega)
              obtain ⟨Pb, hPb⟩ : ∃ p, p = Qb * v0 := ⟨_, rfl⟩
              obtain ⟨Tb, hTb⟩ : ∃ t, t = 4294967296 * Rb + d0 := ⟨_, rfl⟩
              rw [← hPb] at hqv
              have e1 : IntKind.u64.wrap ((Qb : Int) * (v0 : Int)) = (Pb : Int) := by rw [← Int.natCast_mul, ← hPb, IntKind.wrap_u64]; omega
              have e2 : IntKind.u64.wrap (4294967296 * (Rb : Int)) = 4294967296 * (Rb : Int) := by rw [IntKind.wrap_u64]; omega
              have e3 : IntKind.u64.wrap (4294967296 * (Rb : Int) + (d0 : Int)) = (Tb : Int) := by rw [IntKind.wrap_u64]; omega
              have HPb := Lib.hid hPb
              have HTb := Lib.hid hTb
              clear hPb hTb hqv t1
              by_cases t2 : Tb < Pb
              · have t2' : (Tb : Int) < (Pb : Int) := by omega
                have hgt : (u2 * 4294967296 + d0) / y < Qb := half_gt HY.out (by omega) hQb.out (by rw [← HPb.out, ← HTb.out]; exact t2)
                have hq0 : 0 < Qb := Nat.lt_of_le_of_lt (Nat.zero_le _) hgt
                obtain ⟨Zb, hZb⟩ : ∃ q, q = Qb - 1 := ⟨_, rfl⟩
                have hs := half_step hQb.out hq0
                have hgz : (u2 * 4294967296 + d0) / y ≤ Zb := by rw [hZb]; exact Nat.le_sub_one_of_lt hgt
                have c1 : IntKind.u64.wrap ((Qb : Int) - 1) = (Zb : Int) := by
                  have := qbb.out
                  rw [IntKind.wrap_u64]; omega
                have c3 : Zb < Qb := by omega
                obtain ⟨Sb, hSb⟩ : ∃ s, s = Rb + v1 := ⟨_, rfl⟩
                have c2 : IntKind.u64.wrap ((Rb : Int) + (v1 : Int)) = (Sb : Int) := by rw [IntKind.wrap_u64]; omega
                rw [← hSb, ← hZb] at hs
                have HSb := Lib.hid hs
                have HGb := Lib.hid hgz
                have C3b := Lib.hid c3
                clear hs hgt hgz hQb hleb hSb hZb c3 hq0
                by_cases t3 : 4294967296 ≤ Sb
                · have t3' : (4294967296 : Int) ≤ (Sb : Int) := by omega
                  have HEb : Hid (Zb = (u2 * 4294967296 + d0) / y) := Nat.le_antisymm (half_break HY.out hv0 (by omega) HSb.out t3) HGb.out
                  clear t3
                  obtain ⟨rr, hrr⟩ : ∃ r, r = (u2 * 4294967296 + d0) % y := ⟨_, rfl⟩
                  have hrb : rr < y := by rw [hrr]; exact Nat.mod_lt _ (by omega)
                  have hdn : Zb * y + rr = u2 * 4294967296 + d0 := by rw [HEb.out, hrr, Nat.mul_comm]; exact Nat.div_add_mod _ _
                  have f2 : IntKind.u64.wrap (IntKind.u64.wrap (IntKind.u64.wrap ((u2 : Int) * 4294967296) + (d0 : Int)) - IntKind.u64.wrap ((Zb : Int) * (y : Int))) = (rr : Int) := by
                    rw [← Int.natCast_mul]; simp only [IntKind.wrap_u64]; generalize Zb * y = z at *; omega
                  have f3 : (hi * 18446744073709551616 + lo) / y = Z * 4294967296 + Zb := by rw [HLO.out, half_join hi d1 d0 y (by omega), ← HU.out, ← HE.out, ← HEb.out]
                  have f4 : Z < 4294967296 := by rw [HE.out]; exact half_lt hu hd1
                  have f5 : Zb < 4294967296 := by rw [HEb.out]; exact half_lt hub hd0
                  have f6 : IntKind.u64.wrap ((Z : Int) * 4294967296) = (Z : Int) * 4294967296 := by rw [IntKind.wrap_u64]; omega
                  have f7 : IntKind.u64.wrap ((Z : Int) * 4294967296 + (Zb : Int)) = (quo : Int) := by rw [HQ.out, f3, IntKind.wrap_u64]; omega
                  clear f3 f4 f5 hdn hrr HLO
                  go_wp2
                  go_ret2
                  exact ⟨⟨(rr : Int), rfl⟩, Below.refl _ _⟩
                · have t3' : decide ((4294967296 : Int) ≤ (Sb : Int)) = false := decide_eq_false (by omega)
                  have t4 : Sb < 4294967296 := by omega
                  clear t3
                  go_wp2
                  go_roundw
                  case rel => exact ⟨Zb, Sb, rfl, rfl, HSb, HGb, by omega, by first | rfl | trivial⟩
                  case measure => simp [intOf]; exact C3b.out
              · have t2' : decide ((Tb : Int) < (Pb : Int)) = false := decide_eq_false (by omega)
                have HEb : Hid (Qb = (u2 * 4294967296 + d0) / y) := Nat.le_antisymm (half_le HY.out (by omega) hQb.out (by rw [← HPb.out, ← HTb.out]; omega)) hleb.out
                obtain ⟨rr, hrr⟩ : ∃ r, r = (u2 * 4294967296 + d0) % y := ⟨_, rfl⟩
                have hrb : rr < y := by rw [hrr]; exact Nat.mod_lt _ (by omega)
                have hdn : Qb * y + rr = u2 * 4294967296 + d0 := by rw [HEb.out, hrr, Nat.mul_comm]; exact Nat.div_add_mod _ _
                have f2 : IntKind.u64.wrap (IntKind.u64.wrap (IntKind.u64.wrap ((u2 : Int) * 4294967296) + (d0 : Int)) - IntKind.u64.wrap ((Qb : Int) * (y : Int))) = (rr : Int) := by
                  rw [← Int.natCast_mul]; simp only [IntKind.wrap_u64]; generalize Qb * y = z at *; omega
                have f3 : (hi * 18446744073709551616 + lo) / y = Z * 4294967296 + Qb := by rw [HLO.out, half_join hi d1 d0 y (by omega), ← HU.out, ← HE.out, ← HEb.out]
                have f4 : Z < 4294967296 := by rw [HE.out]; exact half_lt hu hd1
                have f5 : Qb < 4294967296 := by rw [HEb.out]; exact half_lt hub hd0
                have f6 : IntKind.u64.wrap ((Z : Int) * 4294967296) = (Z : Int) * 4294967296 := by rw [IntKind.wrap_u64]; omega
                have f7 : IntKind.u64.wrap ((Z : Int) * 4294967296 + (Qb : Int)) = (quo : Int) := by rw [HQ.out, f3, IntKind.wrap_u64]; omega
                clear f3 f4 f5 hdn hrr HLO
                go_wp2
                go_ret2
                exact ⟨⟨(rr : Int), rfl⟩, Below.refl _ _⟩
        · have t3' : decide ((4294967296 : Int) ≤ (S : Int)) = false := decide_eq_false (by omega)
          have t4 : S < 4294967296 := by omega
          clear t3
          go_wp2
          go_roundw
          case rel => exact ⟨Z, S, rfl, rfl, HS, HG, by omega, by first | rfl | trivial⟩
          case measure => simp [intOf]; exact C3.out
      · have t2' : decide ((T : Int) < (P : Int)) = false := decide_eq_false (by omega)
        have HE : Hid (Q = (hi * 4294967296 + d1) / y) := Nat.le_antisymm (half_le HY.out (by omega) hQ.out (by rw [← HP.out, ← HT.out]; omega)) hle.out
        obtain ⟨u2, hu2⟩ : ∃ u, u = (hi * 4294967296 + d1) % y := ⟨_, rfl⟩
        have hub : u2 < y := by rw [hu2]; exact Nat.mod_lt _ (by omega)
        have hdm : Q * y + u2 = hi * 4294967296 + d1 := by rw [HE.out, hu2, Nat.mul_comm]; exact Nat.div_add_mod _ _
        have m1 : IntKind.u64.wrap (IntKind.u64.wrap (IntKind.u64.wrap ((hi : Int) * 4294967296) + (d1 : Int)) - IntKind.u64.wrap ((Q : Int) * (y : Int))) = (u2 : Int) := by
          rw [← Int.natCast_mul]; simp only [IntKind.wrap_u64]; generalize Q * y = z at *; omega
        have HU := Lib.hid hu2
        clear hu2 hdm
        obtain ⟨q0b, hq0b⟩ : ∃ q, q = u2 / v1 := ⟨_, rfl⟩
        obtain ⟨r0b, hr0b⟩ : ∃ r, r = u2 % v1 := ⟨_, rfl⟩
        have i1b : q0b * v1 + r0b = u2 := by rw [hq0b, hr0b, Nat.mul_comm]; exact Nat.div_add_mod _ _
        have i2b : r0b < v1 := by rw [hr0b]; exact Nat.mod_lt _ (by omega)
        have i3b : q0b ≤ u2 := by rw [hq0b]; exact Nat.div_le_self _ _
        have b1b : IntKind.u64.wrap ((u2 : Int) / (v1 : Int)) = (q0b : Int) := by rw [← Int.natCast_ediv, ← hq0b, IntKind.wrap_u64]; omega
        have b2b : IntKind.u64.wrap ((u2 : Int) - IntKind.u64.wrap ((q0b : Int) * (v1 : Int))) = (r0b : Int) := by
          rw [← Int.natCast_mul]; simp only [IntKind.wrap_u64]; generalize q0b * v1 = z at *; omega
        have Jb := Lib.hid i1b
        have Kb := Lib.hid (start_le HY.out (by omega) i1b : (u2 * 4294967296 + d0) / y ≤ q0b)
        clear hq0b hr0b i1b i3b
        go_wp2
        go_loopw [16, 18] (fun r q wr => ∃ Q R : Nat, q = .int .u64 (Q : Int) ∧ r = .int .u64 (R : Int) ∧ Hid (Q * v1 + R = u2) ∧ Hid ((u2 * 4294967296 + d0) / y ≤ Q) ∧ R < 4294967296 ∧ w = wr) (fun r q _ => (intOf q).toNat)
        case atStart => exact ⟨q0b, r0b, rfl, rfl, Jb, Kb, by omega, by first | rfl | trivial⟩
        case round =>
          obtain ⟨Qb, Rb, rfl, rfl, hQb, hleb, hRb, rfl⟩ := hrel
          have qbb : Hid (Qb ≤ 8589934592) := q_bound HY.out hv0 hv1 hub hQb.out
          by_cases t1 : 4294967296 ≤ Qb
          · have t1' : (4294967296 : Int) ≤ (Qb : Int) := by omega
            have T1 := Lib.hid t1
            clear t1
            have hgt : (u2 * 4294967296 + d0) / y < Qb := Nat.lt_of_lt_of_le (half_lt hub (by omega)) T1.out
            have hq0 : 0 < Qb := Nat.lt_of_le_of_lt (Nat.zero_le _) hgt
            obtain ⟨Zb, hZb⟩ : ∃ q, q = Qb - 1 := ⟨_, rfl⟩
            have hs := half_step hQb.out hq0
            have hgz : (u2 * 4294967296 + d0) / y ≤ Zb := by rw [hZb]; exact Nat.le_sub_one_of_lt hgt
            have c1 : IntKind.u64.wrap ((Qb : Int) - 1) = (Zb : Int) := by
              have := qbb.out
              rw [IntKind.wrap_u64]; omega
            have c3 : Zb < Qb := by omega
            obtain ⟨Sb, hSb⟩ : ∃ s, s = Rb + v1 := ⟨_, rfl⟩
            have c2 : IntKind.u64.wrap ((Rb : Int) + (v1 : Int)) = (Sb : Int) := by rw [IntKind.wrap_u64]; omega
            rw [← hSb, ← hZb] at hs
            have HSb := Lib.hid hs
            have HGb := Lib.hid hgz
            have C3b := Lib.hid c3
            clear hs hgt hgz hQb hleb hSb hZb c3 hq0
            by_cases t3 : 4294967296 ≤ Sb
            · have t3' : (4294967296 : Int) ≤ (Sb : Int) := by omega
              have HEb : Hid (Zb = (u2 * 4294967296 + d0) / y) := Nat.le_antisymm (half_break HY.out hv0 (by omega) HSb.out t3) HGb.out
              clear t3
              obtain ⟨rr, hrr⟩ : ∃ r, r = (u2 * 4294967296 + d0) % y := ⟨_, rfl⟩
              have hrb : rr < y := by rw [hrr]; exact Nat.mod_lt _ (by omega)
              have hdn : Zb * y + rr = u2 * 4294967296 + d0 := by rw [HEb.out, hrr, Nat.mul_comm]; exact Nat.div_add_mod _ _
              have f2 : IntKind.u64.wrap (IntKind.u64.wrap (IntKind.u64.wrap ((u2 : Int) * 4294967296) + (d0 : Int)) - IntKind.u64.wrap ((Zb : Int) * (y : Int))) = (rr : Int) := by
                rw [← Int.natCast_mul]; simp only [IntKind.wrap_u64]; generalize Zb * y = z at *; omega
              have f3 : (hi * 18446744073709551616 + lo) / y = Q * 4294967296 + Zb := by rw [HLO.out, half_join hi d1 d0 y (by omega), ← HU.out, ← HE.out, ← HEb.out]
              have f4 : Q < 4294967296 := by rw [HE.out]; exact half_lt hu hd1
              have f5 : Zb < 4294967296 := by rw [HEb.out]; exact half_lt hub hd0
              have f6 : IntKind.u64.wrap ((Q : Int) * 4294967296) = (Q : Int) * 4294967296 := by rw [IntKind.wrap_u64]; omega
              have f7 : IntKind.u64.wrap ((Q : Int) * 4294967296 + (Zb : Int)) = (quo : Int) := by rw [HQ.out, f3, IntKind.wrap_u64]; omega
              clear f3 f4 f5 hdn hrr HLO
              go_wp2
              go_ret2
              exact ⟨⟨(rr : Int), rfl⟩, Below.refl _ _⟩
            · have t3' : decide ((4294967296 : Int) ≤ (Sb : Int)) = false := decide_eq_false (by omega)
              have t4 : Sb < 4294967296 := by omega
              clear t3
              go_wp2
              go_roundw
              case rel => exact ⟨Zb, Sb, rfl, rfl, HSb, HGb, by omega, by first | rfl | trivial⟩
              case measure => simp [intOf]; exact C3b.out
          · have t1' : decide ((4294967296 : Int) ≤ (Qb : Int)) = false := decide_eq_false (by omega)
            have hqv : Qb * v0 ≤ 4294967295 * 4294967295 := Nat.mul_le_mul (by omega) (by omega)
            obtain ⟨Pb, hPb⟩ : ∃ p, p = Qb * v0 := ⟨_, rfl⟩
            obtain ⟨Tb, hTb⟩ : ∃ t, t = 4294967296 * Rb + d0 := ⟨_, rfl⟩
            rw [← hPb] at hqv
            have e1 : IntKind.u64.wrap ((Qb : Int) * (v0 : Int)) = (Pb : Int) := by rw [← Int.natCast_mul, ← hPb, IntKind.wrap_u64]; omega
            have e2 : IntKind.u64.wrap (4294967296 * (Rb : Int)) = 4294967296 * (Rb : Int) := by rw [IntKind.wrap_u64]; omega
            have e3 : IntKind.u64.wrap (4294967296 * (Rb : Int) + (d0 : Int)) = (Tb : Int) := by rw [IntKind.wrap_u64]; omega
            have HPb := Lib.hid hPb
            have HTb := Lib.hid hTb
            clear hPb hTb hqv t1
            by_cases t2 : Tb < Pb
            · have t2' : (Tb : Int) < (Pb : Int) := by omega
              have hgt : (u2 * 4294967296 + d0) / y < Qb := half_gt HY.out (by omega) hQb.out (by rw [← HPb.out, ← HTb.out]; exact t2)
              have hq0 : 0 < Qb := Nat.lt_of_le_of_lt (Nat.zero_le _) hgt
              obtain ⟨Zb, hZb⟩ : ∃ q, q = Qb - 1 := ⟨_, rfl⟩
              have hs := half_step hQb.out hq0
              have hgz : (u2 * 4294967296 + d0) / y ≤ Zb := by rw [hZb]; exact Nat.le_sub_one_of_lt hgt
              have c1 : IntKind.u64.wrap ((Qb : Int) - 1) = (Zb : Int) := by
                have := qbb.out
                rw [IntKind.wrap_u64]; omega
              have c3 : Zb < Qb := by omega
              obtain ⟨Sb, hSb⟩ : ∃ s, s = Rb + v1 := ⟨_, rfl⟩
              have c2 : IntKind.u64.wrap ((Rb : Int) + (v1 : Int)) = (Sb : Int) := by rw [IntKind.wrap_u64]; omega
              rw [← hSb, ← hZb] at hs
              have HSb := Lib.hid hs
              have HGb := Lib.hid hgz
              have C3b := Lib.hid c3
              clear hs hgt hgz hQb hleb hSb hZb c3 hq0
              by_cases t3 : 4294967296 ≤ Sb
              · have t3' : (4294967296 : Int) ≤ (Sb : Int) := by omega
                have HEb : Hid (Zb = (u2 * 4294967296 + d0) / y) := Nat.le_antisymm (half_break HY.out hv0 (by omega) HSb.out t3) HGb.out
                clear t3
                obtain ⟨rr, hrr⟩ : ∃ r, r = (u2 * 4294967296 + d0) % y := ⟨_, rfl⟩
                have hrb : rr < y := by rw [hrr]; exact Nat.mod_lt _ (by omega)
                have hdn : Zb * y + rr = u2 * 4294967296 + d0 := by rw [HEb.out, hrr, Nat.mul_comm]; exact Nat.div_add_mod _ _
                have f2 : IntKind.u64.wrap (IntKind.u64.wrap (IntKind.u64.wrap ((u2 : Int) * 4294967296) + (d0 : Int)) - IntKind.u64.wrap ((Zb : Int) * (y : Int))) = (rr : Int) := by
                  rw [← Int.natCast_mul]; simp only [IntKind.wrap_u64]; generalize Zb * y = z at *; omega
                have f3 : (hi * 18446744073709551616 + lo) / y = Q * 4294967296 + Zb := by rw [HLO.out, half_join hi d1 d0 y (by omega), ← HU.out, ← HE.out, ← HEb.out]
                have f4 : Q < 4294967296 := by rw [HE.out]; exact half_lt hu hd1
                have f5 : Zb < 4294967296 := by rw [HEb.out]; exact half_lt hub hd0
                have f6 : IntKind.u64.wrap ((Q : Int) * 4294967296) = (Q : Int) * 4294967296 := by rw [IntKind.wrap_u64]; omega
                have f7 : IntKind.u64.wrap ((Q : Int) * 4294967296 + (Zb : Int)) = (quo : Int) := by rw [HQ.out, f3, IntKind.wrap_u64]; omega
                clear f3 f4 f5 hdn hrr HLO
                go_wp2
                go_ret2
                exact ⟨⟨(rr : Int), rfl⟩, Below.refl _ _⟩
              · have t3' : decide ((4294967296 : Int) ≤ (Sb : Int)) = false := decide_eq_false (by omega)
                have t4 : Sb < 4294967296 := by omega
                clear t3
                go_wp2
                go_roundw
                case rel => exact ⟨Zb, Sb, rfl, rfl, HSb, HGb, by omega, by first | rfl | trivial⟩
                case measure => simp [intOf]; exact C3b.out
            · have t2' : decide ((Tb : Int) < (Pb : Int)) = false := decide_eq_false (by omega)
              have HEb : Hid (Qb = (u2 * 4294967296 + d0) / y) := Nat.le_antisymm (half_le HY.out (by omega) hQb.out (by rw [← HPb.out, ← HTb.out]; omega)) hleb.out
              obtain ⟨rr, hrr⟩ : ∃ r, r = (u2 * 4294967296 + d0) % y := ⟨_, rfl⟩
              have hrb : rr < y := by rw [hrr]; exact Nat.mod_lt _ (by omega)
              have hdn : Qb * y + rr = u2 * 4294967296 + d0 := by rw [HEb.out, hrr, Nat.mul_comm]; exact Nat.div_add_mod _ _
              have f2 : IntKind.u64.wrap (IntKind.u64.wrap (IntKind.u64.wrap ((u2 : Int) * 4294967296) + (d0 : Int)) - IntKind.u64.wrap ((Qb : Int) * (y : Int))) = (rr : Int) := by
                rw [← Int.natCast_mul]; simp only [IntKind.wrap_u64]; generalize Qb * y = z at *; omega
              have f3 : (hi * 18446744073709551616 + lo) / y = Q * 4294967296 + Qb := by rw [HLO.out, half_join hi d1 d0 y (by omega), ← HU.out, ← HE.out, ← HEb.out]
              have f4 : Q < 4294967296 := by rw [HE.out]; exact half_lt hu hd1
              have f5 : Qb < 4294967296 := by rw [HEb.out]; exact half_lt hub hd0
              have f6 : IntKind.u64.wrap ((Q : Int) * 4294967296) = (Q : Int) * 4294967296 := by rw [IntKind.wrap_u64]; omega
              have f7 : IntKind.u64.wrap ((Q : Int) * 4294967296 + (Qb : Int)) = (quo : Int) := by rw [HQ.out, f3, IntKind.wrap_u64]; omega
              clear f3 f4 f5 hdn hrr HLO
              go_wp2
              go_ret2
              exact ⟨⟨(rr : Int), rfl⟩, Below.refl _ _⟩

theorem div64_any (hi lo y : Nat) (h0 : 9223372036854775808 ≤ y) (h1 : y < 18446744073709551616) (hl : lo < 18446744073709551616) (hu : hi < y) (w : World) :
    Calls Try.prog 53 #[.int .u64 (hi : Int), .int .u64 (lo : Int), .int .u64 (y : Int)] w fun e w' => (∃ r : Int, e = .returned (.tuple #[.int .u64 (((hi * 18446744073709551616 + lo) / y : Nat) : Int), .int .u64 r])) ∧ Below w.heap.size w w' := by
  rcases Nat.eq_zero_or_pos hi with rfl | hp
  · rw [Nat.zero_mul, Nat.zero_add]
    exact div64_zero lo y h0 h1 hl w
  · exact div64_pos hi lo y (y / 4294967296) (y % 4294967296) (lo / 4294967296) (lo % 4294967296) _ rfl (by omega) (by omega) (by omega) (by omega) (by omega) (by omega) (by omega) hu hp w

end Go.Proofs.Ytlaapbenpjopiaa

namespace Go.Proofs.Ytlaapbenpjopiaa
open Go.RowKit

/-- 2^320. -/
def B320 : Nat := 2135987035920910082395021706169552114602704522356652769947041607822219725780640550022962086936576
/-- A number of five words. -/
abbrev W5 (n : Nat) : Value := .agg #[.int .u64 (limb n 0), .int .u64 (limb n 1), .int .u64 (limb n 2), .int .u64 (limb n 3), .int .u64 (limb n 4)]
theorem limb4 (n : Nat) : limb n 4 = ((n / 115792089237316195423570985008687907853269984665640564039457584007913129639936 % 18446744073709551616 : Nat) : Int) := by simp [limb]
theorem limb_of5 {n : Nat} {x0 x1 x2 x3 x4 : Int} (a0 : 0 ≤ x0) (b0 : x0 < 18446744073709551616) (a1 : 0 ≤ x1) (b1 : x1 < 18446744073709551616) (a2 : 0 ≤ x2) (b2 : x2 < 18446744073709551616) (a3 : 0 ≤ x3) (b3 : x3 < 18446744073709551616) (a4 : 0 ≤ x4) (b4 : x4 < 18446744073709551616)
    (h : (n : Int) = x0 + 18446744073709551616 * x1 + 340282366920938463463374607431768211456 * x2 + 6277101735386680763835789423207666416102355444464034512896 * x3 + 115792089237316195423570985008687907853269984665640564039457584007913129639936 * x4) :
    x0 = limb n 0 ∧ x1 = limb n 1 ∧ x2 = limb n 2 ∧ x3 = limb n 3 ∧ x4 = limb n 4 := by
  rw [limb0, limb1, limb2, limb3, limb4]; omega
theorem W5_of {n : Nat} {x0 x1 x2 x3 x4 : Int} (h : x0 = limb n 0 ∧ x1 = limb n 1 ∧ x2 = limb n 2 ∧ x3 = limb n 3 ∧ x4 = limb n 4) : W5 n = .agg #[.int .u64 x0, .int .u64 x1, .int .u64 x2, .int .u64 x3, .int .u64 x4] := by
  obtain ⟨h0, h1, h2, h3, h4⟩ := h
  rw [W5, h0, h1, h2, h3, h4]
theorem limb_sum5 {n : Nat} (h : n < B320) : (n : Int) = limb n 0 + 18446744073709551616 * limb n 1 + 340282366920938463463374607431768211456 * limb n 2 + 6277101735386680763835789423207666416102355444464034512896 * limb n 3 + 115792089237316195423570985008687907853269984665640564039457584007913129639936 * limb n 4 := by
  rw [limb0, limb1, limb2, limb3, limb4]; unfold B320 at h; omega

set_option maxRecDepth 100000 in
set_option maxHeartbeats 2000000 in
theorem aw_core (x0 x1 x2 x3 x4 y0 y1 y2 y3 s0 s1 s2 s3 s4 c0 c1 c2 c3 c4 : Int) (w : World)
  (h0 : ∀ w, (callFunc 17 #[.int .u64 x0, .int .u64 y0, .int .u64 0]).run Try.prog w = .ok (.value (.tuple #[.int .u64 s0, .int .u64 c0])) w)
  (h1 : ∀ w, (callFunc 17 #[.int .u64 x1, .int .u64 y1, .int .u64 c0]).run Try.prog w = .ok (.value (.tuple #[.int .u64 s1, .int .u64 c1])) w)
  (h2 : ∀ w, (callFunc 17 #[.int .u64 x2, .int .u64 y2, .int .u64 c1]).run Try.prog w = .ok (.value (.tuple #[.int .u64 s2, .int .u64 c2])) w)
  (h3 : ∀ w, (callFunc 17 #[.int .u64 x3, .int .u64 y3, .int .u64 c2]).run Try.prog w = .ok (.value (.tuple #[.int .u64 s3, .int .u64 c3])) w)
  (h4 : ∀ w, (callFunc 17 #[.int .u64 x4, .int .u64 0, .int .u64 c3]).run Try.prog w = .ok (.value (.tuple #[.int .u64 s4, .int .u64 c4])) w) :
    Calls Try.prog 81 #[.agg #[.int .u64 x0, .int .u64 x1, .int .u64 x2, .int .u64 x3, .int .u64 x4], .agg #[.int .u64 y0, .int .u64 y1, .int .u64 y2, .int .u64 y3]] w fun e w' =>
      e = .returned (.tuple #[.agg #[.int .u64 s0, .int .u64 s1, .int .u64 s2, .int .u64 s3, .int .u64 s4], .bool (c4 != 0)]) ∧ Below w.heap.size w w' := by
  have i0 : ∀ (p q r s : Value) w, (Instr.index 24 (.agg #[p, q, r, s]) (.int .i64 0)).run Try.prog w = .ok p w := fun _ _ _ _ _ => by kernel_rfl
  have i1 : ∀ (p q r s : Value) w, (Instr.index 24 (.agg #[p, q, r, s]) (.int .i64 1)).run Try.prog w = .ok q w := fun _ _ _ _ _ => by kernel_rfl
  have i2 : ∀ (p q r s : Value) w, (Instr.index 24 (.agg #[p, q, r, s]) (.int .i64 2)).run Try.prog w = .ok r w := fun _ _ _ _ _ => by kernel_rfl
  have i3 : ∀ (p q r s : Value) w, (Instr.index 24 (.agg #[p, q, r, s]) (.int .i64 3)).run Try.prog w = .ok s w := fun _ _ _ _ _ => by kernel_rfl
  go_enter Try.func81, Try.ntmps81
  go_wp2
  refine wp_loop_rounds 5 ?_
  iterate 4 (rw [rounds_succ]; go_wp2)
  rw [rounds_succ]
  go_wp2
  refine bodyPost_ret (v := .tuple #[.agg #[.int .u64 s0, .int .u64 s1, .int .u64 s2, .int .u64 s3, .int .u64 s4], .bool (c4 != 0)]) (by simp [results, Try.results81, go_sem]) rfl ⟨rfl, ?_⟩
  go_grown

theorem aw_any (a b : Nat) (ha : a < B320) (hb : b < B256) (w : World) :
    Calls Try.prog 81 #[W5 a, U b] w fun e w' => e = .returned (.tuple #[W5 ((a + b) % B320), .bool (decide (B320 ≤ a + b))]) ∧ Below w.heap.size w w' := by
  have A := limb_sum5 ha
  have B := limb_sum hb
  obtain ⟨s0, c0, p0, q0, r0, t0, e0⟩ := split_add (limb a 0) (limb b 0) 0 (limb_nonneg _ _) (limb_lt _ _) (limb_nonneg _ _) (limb_lt _ _) (by omega) (by omega)
  obtain ⟨s1, c1, p1, q1, r1, t1, e1⟩ := split_add (limb a 1) (limb b 1) c0 (limb_nonneg _ _) (limb_lt _ _) (limb_nonneg _ _) (limb_lt _ _) r0 t0
  obtain ⟨s2, c2, p2, q2, r2, t2, e2⟩ := split_add (limb a 2) (limb b 2) c1 (limb_nonneg _ _) (limb_lt _ _) (limb_nonneg _ _) (limb_lt _ _) r1 t1
  obtain ⟨s3, c3, p3, q3, r3, t3, e3⟩ := split_add (limb a 3) (limb b 3) c2 (limb_nonneg _ _) (limb_lt _ _) (limb_nonneg _ _) (limb_lt _ _) r2 t2
  obtain ⟨s4, c4, p4, q4, r4, t4, e4⟩ := split_add (limb a 4) 0 c3 (limb_nonneg _ _) (limb_lt _ _) (by omega) (by omega) r3 t3
  have k0 := add64_run (limb_nonneg a 0) (limb_nonneg b 0) (by omega) (by omega) p0 q0 e0
  have k1 := add64_run (limb_nonneg a 1) (limb_nonneg b 1) r0 t0 p1 q1 e1
  have k2 := add64_run (limb_nonneg a 2) (limb_nonneg b 2) r1 t1 p2 q2 e2
  have k3 := add64_run (limb_nonneg a 3) (limb_nonneg b 3) r2 t2 p3 q3 e3
  have k4 := add64_run (limb_nonneg a 4) (by omega) r3 t3 p4 q4 e4
  have hcore := aw_core _ _ _ _ _ _ _ _ _ s0 s1 s2 s3 s4 c0 c1 c2 c3 c4 w k0 k1 k2 k3 k4
  have hh : c4 = 0 ∨ c4 = 1 := by omega
  unfold B320 at *
  rcases hh with rfl | rfl
  · have x := W5_of (limb_of5 (n := (a + b) % 2135987035920910082395021706169552114602704522356652769947041607822219725780640550022962086936576) p0 q0 p1 q1 p2 q2 p3 q3 p4 q4 (by omega))
    rw [decide_eq_false (by omega), x]
    exact hcore
  · have x := W5_of (limb_of5 (n := (a + b) % 2135987035920910082395021706169552114602704522356652769947041607822219725780640550022962086936576) p0 q0 p1 q1 p2 q2 p3 q3 p4 q4 (by omega))
    rw [decide_eq_true (by omega), x]
    exact hcore

/-! ### subtractMultiple -/
set_option maxRecDepth 100000 in
set_option maxHeartbeats 2000000 in
theorem sm_core (r0 r1 r2 r3 n c0 c1 c2 c3 q k1 k2 k3 k4 p0 p1 p2 p3 d0 d1 d2 d3 d4 b1 b2 b3 b4 b5 : Int) (w : World)
  (M0 : ∀ w, Calls Try.prog 71 #[.int .u64 c0, .int .u64 q, .int .u64 0, .int .u64 0] w fun e w' => e = .returned (.tuple #[.int .u64 k1, .int .u64 p0]) ∧ w = w')
  (M1 : ∀ w, Calls Try.prog 71 #[.int .u64 c1, .int .u64 q, .int .u64 k1, .int .u64 0] w fun e w' => e = .returned (.tuple #[.int .u64 k2, .int .u64 p1]) ∧ w = w')
  (M2 : ∀ w, Calls Try.prog 71 #[.int .u64 c2, .int .u64 q, .int .u64 k2, .int .u64 0] w fun e w' => e = .returned (.tuple #[.int .u64 k3, .int .u64 p2]) ∧ w = w')
  (M3 : ∀ w, Calls Try.prog 71 #[.int .u64 c3, .int .u64 q, .int .u64 k3, .int .u64 0] w fun e w' => e = .returned (.tuple #[.int .u64 k4, .int .u64 p3]) ∧ w = w')
  (h0 : ∀ w, (callFunc 82 #[.int .u64 n, .int .u64 p0, .int .u64 0]).run Try.prog w = .ok (.value (.tuple #[.int .u64 d0, .int .u64 b1])) w)
  (h1 : ∀ w, (callFunc 82 #[.int .u64 r0, .int .u64 p1, .int .u64 b1]).run Try.prog w = .ok (.value (.tuple #[.int .u64 d1, .int .u64 b2])) w)
  (h2 : ∀ w, (callFunc 82 #[.int .u64 r1, .int .u64 p2, .int .u64 b2]).run Try.prog w = .ok (.value (.tuple #[.int .u64 d2, .int .u64 b3])) w)
  (h3 : ∀ w, (callFunc 82 #[.int .u64 r2, .int .u64 p3, .int .u64 b3]).run Try.prog w = .ok (.value (.tuple #[.int .u64 d3, .int .u64 b4])) w)
  (h4 : ∀ w, (callFunc 82 #[.int .u64 r3, .int .u64 k4, .int .u64 b4]).run Try.prog w = .ok (.value (.tuple #[.int .u64 d4, .int .u64 b5])) w) :
    Calls Try.prog 80 #[.agg #[.int .u64 r0, .int .u64 r1, .int .u64 r2, .int .u64 r3], .int .u64 n, .agg #[.int .u64 c0, .int .u64 c1, .int .u64 c2, .int .u64 c3], .int .u64 q] w fun e w' =>
      e = .returned (.tuple #[.agg #[.int .u64 d0, .int .u64 d1, .int .u64 d2, .int .u64 d3, .int .u64 d4], .bool (b5 != 0)]) ∧ Below w.heap.size w w' := by
  have i0 : ∀ (p q r s : Value) w, (Instr.index 24 (.agg #[p, q, r, s]) (.int .i64 0)).run Try.prog w = .ok p w := fun _ _ _ _ _ => by kernel_rfl
  have i1 : ∀ (p q r s : Value) w, (Instr.index 24 (.agg #[p, q, r, s]) (.int .i64 1)).run Try.prog w = .ok q w := fun _ _ _ _ _ => by kernel_rfl
  have i2 : ∀ (p q r s : Value) w, (Instr.index 24 (.agg #[p, q, r, s]) (.int .i64 2)).run Try.prog w = .ok r w := fun _ _ _ _ _ => by kernel_rfl
  have i3 : ∀ (p q r s : Value) w, (Instr.index 24 (.agg #[p, q, r, s]) (.int .i64 3)).run Try.prog w = .ok s w := fun _ _ _ _ _ => by kernel_rfl
  have H0 := Lib.hid M0
  have H1 := Lib.hid M1
  have H2 := Lib.hid M2
  have H3 := Lib.hid M3
  clear M0 M1 M2 M3
  go_enter Try.func80, Try.ntmps80
  go_wp2
  refine wp_loop_rounds 5 ?_
  rw [rounds_succ]
  go_wp2_with (go_at_call 71; refine (H0.out _).mono ?_; rintro e w2 ⟨rfl, rfl⟩)
  rw [rounds_succ]
  go_wp2_with (go_at_call 71; refine (H1.out _).mono ?_; rintro e w2 ⟨rfl, rfl⟩)
  rw [rounds_succ]
  go_wp2_with (go_at_call 71; refine (H2.out _).mono ?_; rintro e w2 ⟨rfl, rfl⟩)
  rw [rounds_succ]
  go_wp2_with (go_at_call 71; refine (H3.out _).mono ?_; rintro e w2 ⟨rfl, rfl⟩)
  rw [rounds_succ]
  go_wp2
  refine bodyPost_ret (v := .tuple #[.agg #[.int .u64 d0, .int .u64 d1, .int .u64 d2, .int .u64 d3, .int .u64 d4], .bool (b5 != 0)]) (by simp [results, Try.results80, go_sem]) rfl ⟨rfl, ?_⟩
  go_grown

/-- One product: what is carried over and what stays. -/
theorem mad_split (x y m : Int) (hx : 0 ≤ x) (hx' : x < 18446744073709551616) (hy : 0 ≤ y) (hy' : y < 18446744073709551616) (hm : 0 ≤ m) (hm' : m < 18446744073709551616) :
    ∃ h l : Int, 0 ≤ h ∧ h < 18446744073709551616 ∧ 0 ≤ l ∧ l < 18446744073709551616 ∧ x * y + m = l + 18446744073709551616 * h ∧
      ∀ w, Calls Try.prog 71 #[.int .u64 x, .int .u64 y, .int .u64 m, .int .u64 0] w fun e w' => e = .returned (.tuple #[.int .u64 h, .int .u64 l]) ∧ w = w' := by
  obtain ⟨x, rfl⟩ := Int.eq_ofNat_of_zero_le hx
  obtain ⟨y, rfl⟩ := Int.eq_ofNat_of_zero_le hy
  obtain ⟨m, rfl⟩ := Int.eq_ofNat_of_zero_le hm
  have hxy : x * y ≤ 18446744073709551615 * 18446744073709551615 := Nat.mul_le_mul (by omega) (by omega)
  refine ⟨(((x * y + m + 0) / 18446744073709551616 : Nat) : Int), (((x * y + m + 0) % 18446744073709551616 : Nat) : Int), ?_, ?_, ?_, ?_, ?_, fun w => mad_any x y m 0 (by omega) (by omega) (by omega) (by omega) w⟩
  all_goals (try rw [← Int.natCast_mul]) <;> (generalize x * y = z at *; omega)

theorem prod4 (c0 c1 c2 c3 q : Int) : (c0 + 18446744073709551616 * c1 + 340282366920938463463374607431768211456 * c2 + 6277101735386680763835789423207666416102355444464034512896 * c3) * q = c0 * q + 18446744073709551616 * (c1 * q) + 340282366920938463463374607431768211456 * (c2 * q) + 6277101735386680763835789423207666416102355444464034512896 * (c3 * q) := by
  rw [Int.add_mul, Int.add_mul, Int.add_mul, Int.mul_assoc, Int.mul_assoc, Int.mul_assoc]

/-- The difference modulo 2^320, and whether it is negative. -/
def subW (n m : Nat) : Nat := if n < m then n + B320 - m else n - m

theorem sm_any (r n c q : Nat) (hr : r < B256) (hn : n < 18446744073709551616) (hc : c < B256) (hq : q < 18446744073709551616) (w : World) :
    Calls Try.prog 80 #[U r, .int .u64 (n : Int), U c, .int .u64 (q : Int)] w fun e w' =>
      e = .returned (.tuple #[W5 (subW (r * 18446744073709551616 + n) (c * q)), .bool (decide (r * 18446744073709551616 + n < c * q))]) ∧ Below w.heap.size w w' := by
  have A := limb_sum hr
  have C := limb_sum hc
  have q0 : (0 : Int) ≤ q := by omega
  have q1 : (q : Int) < 18446744073709551616 := by omega
  obtain ⟨k1, p0, f0, g0, m0, n0, e0, M0⟩ := mad_split (limb c 0) q 0 (limb_nonneg _ _) (limb_lt _ _) q0 q1 (by omega) (by omega)
  obtain ⟨k2, p1, f1, g1, m1, n1, e1, M1⟩ := mad_split (limb c 1) q k1 (limb_nonneg _ _) (limb_lt _ _) q0 q1 f0 g0
  obtain ⟨k3, p2, f2, g2, m2, n2, e2, M2⟩ := mad_split (limb c 2) q k2 (limb_nonneg _ _) (limb_lt _ _) q0 q1 f1 g1
  obtain ⟨k4, p3, f3, g3, m3, n3, e3, M3⟩ := mad_split (limb c 3) q k3 (limb_nonneg _ _) (limb_lt _ _) q0 q1 f2 g2
  obtain ⟨d0, b1, u0, v0, x0, y0, z0⟩ := split_sub (n : Int) p0 0 (by omega) (by omega) m0 n0 (by omega) (by omega)
  obtain ⟨d1, b2, u1, v1, x1, y1, z1⟩ := split_sub (limb r 0) p1 b1 (limb_nonneg _ _) (limb_lt _ _) m1 n1 x0 y0
  obtain ⟨d2, b3, u2, v2, x2, y2, z2⟩ := split_sub (limb r 1) p2 b2 (limb_nonneg _ _) (limb_lt _ _) m2 n2 x1 y1
  obtain ⟨d3, b4, u3, v3, x3, y3, z3⟩ := split_sub (limb r 2) p3 b3 (limb_nonneg _ _) (limb_lt _ _) m3 n3 x2 y2
  obtain ⟨d4, b5, u4, v4, x4, y4, z4⟩ := split_sub (limb r 3) k4 b4 (limb_nonneg _ _) (limb_lt _ _) f3 g3 x3 y3
  have s0 := sub64_run (by omega) (by omega) m0 n0 (by omega) (by omega) u0 v0 z0
  have s1 := sub64_run (limb_nonneg r 0) (limb_lt r 0) m1 n1 x0 y0 u1 v1 z1
  have s2 := sub64_run (limb_nonneg r 1) (limb_lt r 1) m2 n2 x1 y1 u2 v2 z2
  have s3 := sub64_run (limb_nonneg r 2) (limb_lt r 2) m3 n3 x2 y2 u3 v3 z3
  have s4 := sub64_run (limb_nonneg r 3) (limb_lt r 3) f3 g3 x3 y3 u4 v4 z4
  have hcore := sm_core _ _ _ _ _ _ _ _ _ _ k1 k2 k3 k4 p0 p1 p2 p3 d0 d1 d2 d3 d4 b1 b2 b3 b4 b5 w M0 M1 M2 M3 s0 s1 s2 s3 s4
  have P := prod4 (limb c 0) (limb c 1) (limb c 2) (limb c 3) q
  rw [← C, ← Int.natCast_mul] at P
  clear M0 M1 M2 M3 s0 s1 s2 s3 s4
  have hh : b5 = 0 ∨ b5 = 1 := by omega
  unfold subW B320
  generalize c * q = z at *
  generalize limb c 0 * (q : Int) = w0 at *
  generalize limb c 1 * (q : Int) = w1 at *
  generalize limb c 2 * (q : Int) = w2 at *
  generalize limb c 3 * (q : Int) = w3 at *
  rcases hh with rfl | rfl
  · have hlt : ¬ r * 18446744073709551616 + n < z := by omega
    rw [if_neg hlt, decide_eq_false hlt]
    have x := W5_of (limb_of5 (n := r * 18446744073709551616 + n - z) u0 v0 u1 v1 u2 v2 u3 v3 u4 v4 (by omega))
    rw [x]
    exact hcore
  · have hlt : r * 18446744073709551616 + n < z := by omega
    rw [if_pos hlt, decide_eq_true hlt]
    have x := W5_of (limb_of5 (n := r * 18446744073709551616 + n + 2135987035920910082395021706169552114602704522356652769947041607822219725780640550022962086936576 - z) u0 v0 u1 v1 u2 v2 u3 v3 u4 v4 (by omega))
    rw [x]
    exact hcore

end Go.Proofs.Ytlaapbenpjopiaa

namespace Go.Proofs.Ytlaapbenpjopiaa
open Go.RowKit

/-- An estimate that is never less than the digit. -/
def Est (r c q : Nat) : Prop := q < 18446744073709551616 ∧ ∀ n, n < 18446744073709551616 → (r * 18446744073709551616 + n) / c ≤ q

theorem est_top {r c : Nat} (h : r < c) : Est r c 18446744073709551615 := by
  refine ⟨by omega, fun n hn => ?_⟩
  have h1 : (r * 18446744073709551616 + n) / c < 18446744073709551616 := by
    rw [Nat.div_lt_iff_lt_mul (by omega)]
    have : (r + 1) * 18446744073709551616 ≤ c * 18446744073709551616 := Nat.mul_le_mul_right _ h
    omega
  omega
theorem est_quo {r c r3 r2 c3 : Nat} (hc : c3 * 6277101735386680763835789423207666416102355444464034512896 ≤ c) (h3 : 0 < c3) (hr : r < (r3 * 18446744073709551616 + r2 + 1) * 340282366920938463463374607431768211456) (h : r3 < c3) (h2 : r2 < 18446744073709551616) :
    Est r c ((r3 * 18446744073709551616 + r2) / c3) := by
  refine ⟨?_, fun n hn => ?_⟩
  · rw [Nat.div_lt_iff_lt_mul h3]
    have : (r3 + 1) * 18446744073709551616 ≤ c3 * 18446744073709551616 := Nat.mul_le_mul_right _ h
    omega
  · obtain ⟨Q, hQ⟩ : ∃ q, q = (r * 18446744073709551616 + n) / c := ⟨_, rfl⟩
    rw [← hQ, Nat.le_div_iff_mul_le h3]
    have e1 : Q * c ≤ r * 18446744073709551616 + n := by rw [hQ]; exact Nat.div_mul_le_self _ _
    have e2 : Q * (c3 * 6277101735386680763835789423207666416102355444464034512896) ≤ Q * c := Nat.mul_le_mul_left _ hc
    rw [← Nat.mul_assoc] at e2
    generalize Q * c3 = z at *
    generalize Q * c = y at *
    omega

set_option maxHeartbeats 400000 in
theorem ed_top (r0 r1 r2 r3 c0 c1 c2 c3 : Int) (w : World) (h : c3 ≤ r3) :
    Calls Try.prog 79 #[.agg #[.int .u64 r0, .int .u64 r1, .int .u64 r2, .int .u64 r3], .agg #[.int .u64 c0, .int .u64 c1, .int .u64 c2, .int .u64 c3]] w fun e w' =>
      e = .returned (.int .u64 18446744073709551615) ∧ Below w.heap.size w w' := by
  go_enter Try.func79, Try.ntmps79
  go_wp2
  go_ret
  refine ⟨rfl, ?_⟩
  go_grown

set_option maxHeartbeats 400000 in
theorem ed_quo (r0 r1 r2 r3 c0 c1 c2 c3 q : Int) (w : World) (h : ¬ c3 ≤ r3)
    (C : ∀ w, Calls Try.prog 53 #[.int .u64 r3, .int .u64 r2, .int .u64 c3] w fun e w' => (∃ r : Int, e = .returned (.tuple #[.int .u64 q, .int .u64 r])) ∧ Below w.heap.size w w') :
    Calls Try.prog 79 #[.agg #[.int .u64 r0, .int .u64 r1, .int .u64 r2, .int .u64 r3], .agg #[.int .u64 c0, .int .u64 c1, .int .u64 c2, .int .u64 c3]] w fun e w' =>
      e = .returned (.int .u64 q) ∧ Below w.heap.size w w' := by
  have HC := Lib.hid C
  clear C
  go_enter Try.func79, Try.ntmps79
  go_wp2_with (go_at_call 53; refine (HC.out _).mono ?_; rintro e w2 ⟨⟨r, rfl⟩, hw⟩)
  go_ret
  refine ⟨rfl, ?_⟩
  exact Below.trans (by go_grown) (hw.mono (by simp; omega))

theorem ed_any (r c : Nat) (hr : r < c) (hc : c < B256) (h : 57896044618658097711785492504343953926634992332820282019728792003956564819968 ≤ c) (w : World) :
    Calls Try.prog 79 #[U r, U c] w fun e w' => ∃ q : Nat, Est r c q ∧ e = .returned (.int .u64 (q : Int)) ∧ Below w.heap.size w w' := by
  have A := limb_sum (Nat.lt_trans hr hc)
  have C := limb_sum hc
  have a0 := limb_nonneg r 0; have a1 := limb_nonneg r 1; have a2 := limb_nonneg r 2; have a3 := limb_nonneg r 3
  have b0 := limb_nonneg c 0; have b1 := limb_nonneg c 1; have b2 := limb_nonneg c 2; have b3 := limb_nonneg c 3
  have a0' := limb_lt r 0; have a1' := limb_lt r 1; have a2' := limb_lt r 2; have a3' := limb_lt r 3
  have b0' := limb_lt c 0; have b1' := limb_lt c 1; have b2' := limb_lt c 2; have b3' := limb_lt c 3
  by_cases hh : limb c 3 ≤ limb r 3
  · exact (ed_top _ _ _ _ _ _ _ _ w hh).mono fun e w' k => ⟨18446744073709551615, est_top hr, k.1, k.2⟩
  · obtain ⟨R3, e3⟩ := Int.eq_ofNat_of_zero_le a3
    obtain ⟨R2, e2⟩ := Int.eq_ofNat_of_zero_le a2
    obtain ⟨C3, f3⟩ := Int.eq_ofNat_of_zero_le b3
    refine (ed_quo _ _ _ _ _ _ _ _ (((R3 * 18446744073709551616 + R2) / C3 : Nat) : Int) w hh ?_).mono fun e w' k => ⟨(R3 * 18446744073709551616 + R2) / C3, est_quo ?_ ?_ ?_ ?_ ?_, k.1, k.2⟩
    · rw [e3, e2, f3]
      exact div64_any R3 R2 C3 (by omega) (by omega) (by omega) (by omega)
    all_goals omega

/-! ### divideDigit -/
/-- The difference is negative. -/
def neg (N c q : Nat) : Bool := decide (N < c * q)
/-- The five cells of a number. -/
abbrev five (n : Nat) : Array Value := #[.int .u64 (limb n 0), .int .u64 (limb n 1), .int .u64 (limb n 2), .int .u64 (limb n 3), .int .u64 (limb n 4)]
theorem Res.put5 {g : Nat} {t : TypeId} {c0 c1 c2 c3 c4 : Value} {w : World} (h : Res g t #[c0, c1, c2, c3, c4] w) (x0 x1 x2 x3 x4 : Value) :
    Res g t #[x0, x1, x2, x3, x4] (((((w.setCell ⟨g, 0, none⟩ x0).setCell ⟨g, 1, none⟩ x1).setCell ⟨g, 2, none⟩ x2).setCell ⟨g, 3, none⟩ x3).setCell ⟨g, 4, none⟩ x4) :=
  ((((h.setw 0 x0).setw 1 x1).setw 2 x2).setw 3 x3).setw 4 x4
theorem Res.far5 {g g' : Nat} {t : TypeId} {c : Array Value} {w : World} (h : Res g t c w) (x0 x1 x2 x3 x4 : Value) (hg : g ≠ g') :
    Res g t c (((((w.setCell ⟨g', 0, none⟩ x0).setCell ⟨g', 1, none⟩ x1).setCell ⟨g', 2, none⟩ x2).setCell ⟨g', 3, none⟩ x3).setCell ⟨g', 4, none⟩ x4) := by
  unfold Res at h ⊢
  rw [Below.heap_setCell _ _ _ _ hg, Below.heap_setCell _ _ _ _ hg, Below.heap_setCell _ _ _ _ hg, Below.heap_setCell _ _ _ _ hg, Below.heap_setCell _ _ _ _ hg]; exact h
theorem dd_step {N c q p : Nat} (h : neg N c q = true) (hp : q = p + 1) (hc : c < B256) (hq : q < 18446744073709551616) :
    (subW N (c * q) + c) % B320 = subW N (c * p) ∧ decide (B320 ≤ subW N (c * q) + c) = !neg N c p := by
  subst hp
  have h1 : N < c * (p + 1) := by simpa [neg] using h
  have h2 : c * (p + 1) ≤ 115792089237316195423570985008687907853269984665640564039457584007913129639936 * 18446744073709551616 := Nat.mul_le_mul (by unfold B256 at hc; omega) (by omega)
  unfold neg subW
  rw [if_pos h1]
  rw [Nat.mul_add, Nat.mul_one] at *
  unfold B320
  unfold B256 at hc
  generalize c * p = z at *
  by_cases h3 : N < z
  · rw [if_pos h3, decide_eq_true h3]
    refine ⟨by omega, ?_⟩
    rw [decide_eq_false (by omega)]; rfl
  · rw [if_neg h3, decide_eq_false h3]
    refine ⟨by omega, ?_⟩
    rw [decide_eq_true (by omega)]; rfl
theorem dd_end {N c q : Nat} (h : neg N c q = false) (hq : N / c ≤ q) (hc : 0 < c) : q = N / c ∧ subW N (c * q) = N % c := by
  have h1 : ¬ N < c * q := by simpa [neg] using h
  have h2 : q ≤ N / c := by rw [Nat.le_div_iff_mul_le hc, Nat.mul_comm]; omega
  have h3 : q = N / c := Nat.le_antisymm h2 hq
  refine ⟨h3, ?_⟩
  unfold subW
  rw [if_neg h1, h3]
  have := Nat.div_add_mod N c
  omega
theorem subW_lt {N m : Nat} (hN : N < B320) : subW N m < B320 := by
  unfold subW; split <;> omega

set_option maxRecDepth 100000 in
set_option maxHeartbeats 4000000 in
theorem dd_core (r n c N quo rem : Nat) (w : World) (hquo : quo = N / c) (hrem : rem = N % c) (hc0 : 0 < c)
    (ce : Hid (∀ w, Calls Try.prog 79 #[U r, U c] w fun e w' => ∃ q : Nat, (q < 18446744073709551616 ∧ quo ≤ q) ∧ e = .returned (.int .u64 (q : Int)) ∧ Below w.heap.size w w'))
    (cs : Hid (∀ (q : Nat) (w : World), q < 18446744073709551616 → Calls Try.prog 80 #[U r, .int .u64 (n : Int), U c, .int .u64 (q : Int)] w fun e w' =>
      e = .returned (.tuple #[W5 (subW N (c * q)), .bool (neg N c q)]) ∧ Below w.heap.size w w'))
    (ca : Hid (∀ (q p : Nat) (w : World), neg N c q = true → q = p + 1 → q < 18446744073709551616 → Calls Try.prog 81 #[W5 (subW N (c * q)), U c] w fun e w' =>
      e = .returned (.tuple #[W5 (subW N (c * p)), .bool (!neg N c p)]) ∧ Below w.heap.size w w')) :
    Calls Try.prog 75 #[U r, .int .u64 (n : Int), U c] w fun e w' => e = .returned (.tuple #[.int .u64 (quo : Int), U rem]) ∧ Below w.heap.size w w' := by
  have HQ := Lib.hid hquo
  have HR := Lib.hid hrem
  have ar : ∀ (a : Option Addr) (c : Nat) (w : World), (Instr.arrayAt 24 (.slice a 4 c)).run Try.prog w = .ok (.pointer a) w := fun a c w => run_arrayAt w 24 22 4 a 4 c Try.underlying24 (by omega)
  clear hquo hrem
  have rA : Res (w.heap.size) 24 (arr r) (((w.alloc (.cells (arr r) 24)).alloc (.cells (arr c) 24)).alloc (.cells #[.int .u64 0, .int .u64 0, .int .u64 0, .int .u64 0] 24)) := ((Res.new w 24 (arr r)).alloc _).alloc _
  have rC : Res (w.heap.size + 1) 24 (arr c) (((w.alloc (.cells (arr r) 24)).alloc (.cells (arr c) 24)).alloc (.cells #[.int .u64 0, .int .u64 0, .int .u64 0, .int .u64 0] 24)) := by
    have h := (Res.new (w.alloc (.cells (arr r) 24)) 24 (arr c)).alloc (.cells #[.int .u64 0, .int .u64 0, .int .u64 0, .int .u64 0] 24)
    rw [World.size_alloc] at h
    exact h
  have rO : Res (w.heap.size + 1 + 1) 24 #[.int .u64 0, .int .u64 0, .int .u64 0, .int .u64 0] (((w.alloc (.cells (arr r) 24)).alloc (.cells (arr c) 24)).alloc (.cells #[.int .u64 0, .int .u64 0, .int .u64 0, .int .u64 0] 24)) := by
    have h := Res.new ((w.alloc (.cells (arr r) 24)).alloc (.cells (arr c) 24)) 24 #[.int .u64 0, .int .u64 0, .int .u64 0, .int .u64 0]
    rw [World.size_alloc, World.size_alloc] at h
    exact h
  have bb : Below w.heap.size w (((w.alloc (.cells (arr r) 24)).alloc (.cells (arr c) 24)).alloc (.cells #[.int .u64 0, .int .u64 0, .int .u64 0, .int .u64 0] 24)) := by go_grown
  go_enter Try.func75, Try.ntmps75
  go_wp2_with fail
  with_reducible refine (ce.out _).mono ?_
  rintro e w1 ⟨q, ⟨hq, hle⟩, rfl, h1⟩
  replace rA := rA.keep h1
  replace rC := rC.keep h1
  replace rO := rO.keep h1
  replace bb := chain bb h1
  have zA := rA.cells; have lA := rA.lt
  have zC := rC.cells; have lC := rC.lt
  have HB := Lib.hid hq
  have HE := Lib.hid hle
  clear hq hle
  go_wp2_with fail
  with_reducible refine (cs.out q _ HB.out).mono ?_
  rintro e w2 ⟨rfl, h2⟩
  clear zA lA zC lC rA
  replace rC := rC.keep h2
  replace rO := rO.keep h2
  replace bb := chain bb h2
  have rD := Res.new w2 109 (five (subW N (c * q)))
  have rC2 := rC.alloc (.cells (five (subW N (c * q))) 109)
  have rO2 := rO.alloc (.cells (five (subW N (c * q))) 109)
  have bD : Below w.heap.size w (w2.alloc (.cells (five (subW N (c * q))) 109)) := bb.alloc bb.size _
  have lG : w.heap.size + 1 + 1 < w2.heap.size := rO.lt
  have sG := bb.size
  clear rC rO h1 h2
  go_wp2
  generalize hg : w2.heap.size = G at *
  go_loopw [8, 10, 11] (fun d ng _ wr => ∃ k : Nat, d = .int .u64 (k : Int) ∧ ng = .bool (neg N c k) ∧ Hid (k < 18446744073709551616) ∧ Hid (quo ≤ k) ∧ Res G 109 (five (subW N (c * k))) wr ∧ Res (w.heap.size + 1) 24 (arr c) wr ∧ Res (w.heap.size + 1 + 1) 24 #[.int .u64 0, .int .u64 0, .int .u64 0, .int .u64 0] wr ∧ Below w.heap.size w wr) (fun d _ _ _ => (intOf d).toNat)
  case atStart => exact ⟨q, rfl, rfl, HB, HE, rD, rC2, rO2, bD⟩
  case round =>
    clear rD rC2 rO2 bD bb hg HB HE
    obtain ⟨k, rfl, rfl, HB, HE, rD, rC, rO, bb⟩ := hrel
    cases hk : neg N c k
    case true =>
      obtain ⟨p, hp⟩ : ∃ p, k = p + 1 := by
        rcases k with _ | p
        · exact absurd hk (by simp [neg])
        · exact ⟨p, rfl⟩
      have cp : IntKind.u64.wrap ((k : Int) - 1) = (p : Int) := by have := HB.out; rw [IntKind.wrap_u64]; omega
      have HP := Lib.hid hp
      have HK := Lib.hid hk
      have zC := rC.cells; have lC := rC.lt
      have zD := rD.cells; have lD := rD.lt
      clear hp hk
      go_wp2_with fail
      with_reducible refine (ca.out k p _ HK.out HP.out HB.out).mono ?_
      rintro e w3 ⟨rfl, h3⟩
      clear zC lC zD lD
      replace rD := rD.keep h3
      replace rC := rC.keep h3
      replace rO := rO.keep h3
      replace bb := chain bb h3
      have zD := rD.cells; have lD := rD.lt; have mD := rD.marks
      have hlt : quo < k := by
        have h := HK.out
        rw [HQ.out]
        exact Nat.div_lt_of_lt_mul (by simpa [neg] using h)
      have hkp := HP.out
      have hkb := HB.out
      have HB2 : Hid (p < 18446744073709551616) := (by omega : p < 18446744073709551616)
      have HE2 : Hid (quo ≤ p) := (by omega : quo ≤ p)
      have HM : Hid (p < k) := (by omega : p < k)
      clear hlt hkp hkb
      go_wp2
      refine ⟨⟨p, rfl, rfl, HB2, HE2, rD.put5 _ _ _ _ _, rC.far5 _ _ _ _ _ (by omega), rO.far5 _ _ _ _ _ (by omega), ?_⟩, ?_⟩
      · exact ((((bb.setCell sG _).setCell sG _).setCell sG _).setCell sG _).setCell sG _
      · simp [intOf]; exact HM.out
    case false =>
      obtain ⟨e1, e2⟩ := dd_end hk (by rw [← HQ.out]; exact HE.out) hc0
      rw [e2, ← HR.out] at rD
      rw [← HQ.out] at e1
      subst e1
      have zD := rD.cells; have lD := rD.lt
      have zO := rO.cells; have lO := rO.lt; have mO := rO.marks
      clear hk e2 HB HE HQ HR ce cs ca rC rO rD
      go_wp2
      go_region
      go_wp2
      refine bodyPost_ret (v := .tuple #[.int .u64 (k : Int), U rem]) (by simp [results, Try.results75, go_sem, zO]) rfl ⟨rfl, ?_⟩
      go_grown

theorem dd_any (r n c : Nat) (hr : r < c) (hc : c < B256) (h : 57896044618658097711785492504343953926634992332820282019728792003956564819968 ≤ c) (hn : n < 18446744073709551616) (w : World) :
    Calls Try.prog 75 #[U r, .int .u64 (n : Int), U c] w fun e w' =>
      e = .returned (.tuple #[.int .u64 (((r * 18446744073709551616 + n) / c : Nat) : Int), U ((r * 18446744073709551616 + n) % c)]) ∧ Below w.heap.size w w' := by
  have hN : r * 18446744073709551616 + n < B320 := by unfold B320; unfold B256 at hc; omega
  refine dd_core r n c _ _ _ w rfl rfl (by omega) ?_ ?_ ?_
  · intro w
    exact (ed_any r c hr hc h w).mono fun e w' ⟨q, k, k1, k2⟩ => ⟨q, ⟨k.1, k.2 n hn⟩, k1, k2⟩
  · intro q w hq
    exact sm_any r n c q (Nat.lt_trans hr hc) hn hc hq w
  · intro q p w h1 h2 h3
    obtain ⟨k1, k2⟩ := dd_step h1 h2 hc h3
    have k := aw_any (subW (r * 18446744073709551616 + n) (c * q)) c (subW_lt hN) hc w
    rw [k1, k2] at k
    exact k

end Go.Proofs.Ytlaapbenpjopiaa

namespace Go.Proofs.Ytlaapbenpjopiaa
open Go.RowKit

/-- The eight words of a number. -/
abbrev row8 (n : Nat) : Array Value := #[.int .u64 (limb n 0), .int .u64 (limb n 1), .int .u64 (limb n 2), .int .u64 (limb n 3), .int .u64 (limb n 4), .int .u64 (limb n 5), .int .u64 (limb n 6), .int .u64 (limb n 7)]
theorem shl4 (g n s : Nat) (t : TypeId) (w : World) (hs : s ≤ 256) (h : Res g t (arr n) w) :
    Calls Try.prog 74 #[.slice (some ⟨g, 0, none⟩) 4 4, .int .i64 (s : Int)] w fun e w' =>
      e = .returned (.tuple #[]) ∧ Res g t (arr (n * 2 ^ s)) w' ∧ Only g w w' := shl_any g 4 n s t w (by omega) hs h
theorem shl8 (g n s : Nat) (t : TypeId) (w : World) (hs : s ≤ 256) (h : Res g t (row8 n) w) :
    Calls Try.prog 74 #[.slice (some ⟨g, 0, none⟩) 8 8, .int .i64 (s : Int)] w fun e w' =>
      e = .returned (.tuple #[]) ∧ Res g t (row8 (n * 2 ^ s)) w' ∧ Only g w w' := shl_any g 8 n s t w (by omega) hs h
theorem shr4 (g n s : Nat) (t : TypeId) (w : World) (hn : n < B256) (hs : s ≤ 256) (h : Res g t (arr n) w) :
    Calls Try.prog 76 #[.slice (some ⟨g, 0, none⟩) 4 4, .int .i64 (s : Int)] w fun e w' =>
      e = .returned (.tuple #[]) ∧ Res g t (arr (n / 2 ^ s)) w' ∧ Only g w w' := shr_any g 4 n s t w (by omega) hn hs h

theorem join_limbs (low high : Nat) :
    limb (low + high * B256) 0 = limb low 0 ∧ limb (low + high * B256) 1 = limb low 1 ∧ limb (low + high * B256) 2 = limb low 2 ∧ limb (low + high * B256) 3 = limb low 3 := by
  unfold B256 at *
  simp only [limb0, limb1, limb2, limb3]
  omega
theorem high_limbs (n : Nat) : limb n 4 = limb (n / B256) 0 ∧ limb n 5 = limb (n / B256) 1 ∧ limb n 6 = limb (n / B256) 2 ∧ limb n 7 = limb (n / B256) 3 := by
  have e : ∀ i, limb n (4 + i) = limb (n / B256) i := fun i => by
    unfold limb
    rw [Nat.pow_add, Nat.div_div_eq_div_mul]
    rfl
  exact ⟨e 0, e 1, e 2, e 3⟩
theorem join_high (low high : Nat) (hl : low < B256) : (low + high * B256) / B256 = high := by
  rw [Nat.add_mul_div_right _ _ B256_pos, Nat.div_eq_of_lt hl, Nat.zero_add]
theorem row8_join (low high : Nat) (hl : low < B256) :
    #[.int .u64 (limb low 0), .int .u64 (limb low 1), .int .u64 (limb low 2), .int .u64 (limb low 3), .int .u64 (limb high 0), .int .u64 (limb high 1), .int .u64 (limb high 2), .int .u64 (limb high 3)] = row8 (low + high * B256) := by
  obtain ⟨a0, a1, a2, a3⟩ := join_limbs low high
  obtain ⟨b0, b1, b2, b3⟩ := high_limbs (low + high * B256)
  rw [join_high low high hl] at b0 b1 b2 b3
  rw [row8, a0, a1, a2, a3, b0, b1, b2, b3]
/-- The eight words of a number, the upper four as those of the upper half. -/
abbrev row44 (n m : Nat) : Array Value := #[.int .u64 (limb n 0), .int .u64 (limb n 1), .int .u64 (limb n 2), .int .u64 (limb n 3), .int .u64 (limb m 0), .int .u64 (limb m 1), .int .u64 (limb m 2), .int .u64 (limb m 3)]
theorem row8_high (n m : Nat) (h : m = n / B256) : row8 n = row44 n m := by
  subst h
  obtain ⟨b0, b1, b2, b3⟩ := high_limbs n
  rw [row8, b0, b1, b2, b3]
/-- What is left of n by d behind the digits from k on. -/
def rk (n d k : Nat) : Nat := n / 18446744073709551616 ^ k % d
/-- The quotient's words from k on. -/
def qF (q k : Nat) : Nat → Int := fun j => if j < k then 0 else limb q j
theorem qF_set (q k L : Nat) : (wrow (qF q (k + 1)) L).setIfInBounds k (.int .u64 (limb q k)) = wrow (qF q k) L :=
  wrow_set (by simp [qF]) fun i _ hne => by
    unfold qF
    by_cases h : i < k
    · rw [if_pos h, if_pos (by omega)]
    · rw [if_neg h, if_neg (by omega)]
theorem qF_top (q : Nat) : wrow (qF q 4) 4 = #[.int .u64 0, .int .u64 0, .int .u64 0, .int .u64 0] := rfl
theorem qF_zero (q : Nat) : wrow (qF q 0) 4 = arr q := by
  rw [show wrow (qF q 0) 4 = wrow (limb q) 4 from wrow_congr fun j _ => by simp [qF]]
  rfl
theorem row44_get {n m j : Nat} (h : j < 4) : (row44 n m)[j]? = some (.int .u64 (limb n j)) := by
  match j, h with
  | 0, _ => rfl
  | 1, _ => rfl
  | 2, _ => rfl
  | 3, _ => rfl
theorem Res.put4' {g : Nat} {t : TypeId} {c0 c1 c2 c3 : Value} {w : World} (h : Res g t #[c0, c1, c2, c3] w) (x0 x1 x2 x3 : Value) :
    Res g t #[x0, x1, x2, x3] ((((w.setCell ⟨g, 0, none⟩ x0).setCell ⟨g, 1, none⟩ x1).setCell ⟨g, 2, none⟩ x2).setCell ⟨g, 3, none⟩ x3) :=
  (((h.setw 0 x0).setw 1 x1).setw 2 x2).setw 3 x3
theorem Res.far1' {g g' : Nat} {t : TypeId} {c : Array Value} {w : World} (h : Res g t c w) (i : Nat) (x : Value) (hg : g ≠ g') : Res g t c (w.setCell ⟨g', i, none⟩ x) := by
  unfold Res at h ⊢
  rw [Below.heap_setCell _ _ _ _ hg]; exact h
theorem Res.far4' {g g' : Nat} {t : TypeId} {c : Array Value} {w : World} (h : Res g t c w) (x0 x1 x2 x3 : Value) (hg : g ≠ g') :
    Res g t c ((((w.setCell ⟨g', 0, none⟩ x0).setCell ⟨g', 1, none⟩ x1).setCell ⟨g', 2, none⟩ x2).setCell ⟨g', 3, none⟩ x3) :=
  (((h.far1' 0 x0 hg).far1' 1 x1 hg).far1' 2 x2 hg).far1' 3 x3 hg
theorem below5 {B : Nat} {w w' : World} (h : Below B w w') (g i : Nat) (x y0 y1 y2 y3 : Value) (hg : B ≤ g) :
    Below B w (((((w'.setCell ⟨g, i, none⟩ x).setCell ⟨g + 1, 0, none⟩ y0).setCell ⟨g + 1, 1, none⟩ y1).setCell ⟨g + 1, 2, none⟩ y2).setCell ⟨g + 1, 3, none⟩ y3) :=
  ((((h.setCell hg _).setCell (Nat.le_succ_of_le hg) _).setCell (Nat.le_succ_of_le hg) _).setCell (Nat.le_succ_of_le hg) _).setCell (Nat.le_succ_of_le hg) _
theorem only_setRow (w : World) (g : Nat) (cs : Array Value) : Only g w (w.setRow g cs) :=
  ⟨rfl, rfl, rfl, by simp [World.setRow], fun k hk => setRow_other w g k cs hk⟩
/-- Four words are copied into a row. -/
theorem copy4 (g a off cap n : Nat) (t ta : TypeId) (cur new : Array Value) (w : World) (hd : Res g t cur w) (hs : Res a ta (arr n) w) (hfit : off + 4 ≤ cur.size)
    (hnew : (cur.toList.take off ++ (arr n).toList ++ cur.toList.drop (off + (arr n).toList.length)).toArray = new) :
    ∃ w', (Builtin.copy_ #[99, 99] 3 #[.slice (some ⟨g, off, none⟩) 4 cap, .slice (some ⟨a, 0, none⟩) 4 4]).run Try.prog w = .ok (.int .i64 4) w' ∧ Res g t new w' ∧ Only g w w' := by
  have hinfo : (Try.prog.info? 22).map (·.size) = some 1 := by kernel_rfl
  refine ⟨w.setRow g new, ?_, ?_, only_setRow w g new⟩
  · have h := run_copy_row (P := Try.prog) w 99 99 3 22 g off 4 cap ⟨a, 0, none⟩ 4 4 cur t (arr n).toList Try.underlying99 hinfo hd rfl
      (fun j v hv => by
        have e := hs.cells j
        have e2 : (Addr.add ⟨a, 0, none⟩ j) = ⟨a, j, none⟩ := by simp [Addr.add]; omega
        rw [e2, e]
        simpa using hv) hfit (fun v hv => by
        simp at hv
        rcases hv with rfl | rfl | rfl | rfl <;> rfl)
    rw [hnew] at h
    exact h
  · exact setRow_heap w g _ _ t _ hd

set_option maxRecDepth 100000 in
set_option maxHeartbeats 4000000 in
theorem dvd_core (low high c s D N M quo rem : Nat) (hs : s ≤ 256) (hD' : D = c * 2 ^ s) (hN' : N = (low + high * B256) * 2 ^ s) (hM' : M = N / B256) (hl : low < B256) (w : World)
    (h4 : M = rk N D 4) (h0 : rem = rk N D 0 / 2 ^ s) (hb : rk N D 0 < B256)
    (cd : Hid (∀ (k : Nat) (w : World), k < 4 → Calls Try.prog 75 #[U (rk N D (k + 1)), .int .u64 (limb N k), U D] w fun e w' => e = .returned (.tuple #[.int .u64 (limb quo k), U (rk N D k)]) ∧ Below w.heap.size w w'))
    (cb : Hid (∀ w, Calls Try.prog 73 #[U c] w fun e w' => e = .returned (.int .i64 ((256 - s : Nat) : Int)) ∧ Below w.heap.size w w')) :
    Calls Try.prog 69 #[U low, U high, U c] w fun e w' => e = .returned (.tuple #[U quo, U rem]) ∧ Below w.heap.size w w' := by
  have hD := Lib.hid hD'
  have hN := Lib.hid hN'
  have hM := Lib.hid hM'
  have H4 := Lib.hid h4
  have H0 := Lib.hid h0
  clear hD' hN' hM' h4 h0
  have rL : Res (w.heap.size) 24 (arr low) (((((w.alloc (.cells (arr low) 24)).alloc (.cells (arr high) 24)).alloc (.cells (arr c) 24)).alloc (.cells #[.int .u64 0, .int .u64 0, .int .u64 0, .int .u64 0] 24)).alloc (.cells #[.int .u64 0, .int .u64 0, .int .u64 0, .int .u64 0] 24)) := by
    have h := (((((Res.new w 24 (arr low)).alloc (.cells (arr high) 24)).alloc (.cells (arr c) 24)).alloc (.cells #[.int .u64 0, .int .u64 0, .int .u64 0, .int .u64 0] 24)).alloc (.cells #[.int .u64 0, .int .u64 0, .int .u64 0, .int .u64 0] 24))
    exact h
  have rH : Res (w.heap.size + 1) 24 (arr high) (((((w.alloc (.cells (arr low) 24)).alloc (.cells (arr high) 24)).alloc (.cells (arr c) 24)).alloc (.cells #[.int .u64 0, .int .u64 0, .int .u64 0, .int .u64 0] 24)).alloc (.cells #[.int .u64 0, .int .u64 0, .int .u64 0, .int .u64 0] 24)) := by
    have h := ((((Res.new (w.alloc (.cells (arr low) 24)) 24 (arr high)).alloc (.cells (arr c) 24)).alloc (.cells #[.int .u64 0, .int .u64 0, .int .u64 0, .int .u64 0] 24)).alloc (.cells #[.int .u64 0, .int .u64 0, .int .u64 0, .int .u64 0] 24))
    simp only [World.size_alloc] at h
    exact h
  have rC : Res (w.heap.size + 1 + 1) 24 (arr c) (((((w.alloc (.cells (arr low) 24)).alloc (.cells (arr high) 24)).alloc (.cells (arr c) 24)).alloc (.cells #[.int .u64 0, .int .u64 0, .int .u64 0, .int .u64 0] 24)).alloc (.cells #[.int .u64 0, .int .u64 0, .int .u64 0, .int .u64 0] 24)) := by
    have h := (((Res.new ((w.alloc (.cells (arr low) 24)).alloc (.cells (arr high) 24)) 24 (arr c)).alloc (.cells #[.int .u64 0, .int .u64 0, .int .u64 0, .int .u64 0] 24)).alloc (.cells #[.int .u64 0, .int .u64 0, .int .u64 0, .int .u64 0] 24))
    simp only [World.size_alloc] at h
    exact h
  have rQ : Res (w.heap.size + 1 + 1 + 1) 24 #[.int .u64 0, .int .u64 0, .int .u64 0, .int .u64 0] (((((w.alloc (.cells (arr low) 24)).alloc (.cells (arr high) 24)).alloc (.cells (arr c) 24)).alloc (.cells #[.int .u64 0, .int .u64 0, .int .u64 0, .int .u64 0] 24)).alloc (.cells #[.int .u64 0, .int .u64 0, .int .u64 0, .int .u64 0] 24)) := by
    have h := ((Res.new (((w.alloc (.cells (arr low) 24)).alloc (.cells (arr high) 24)).alloc (.cells (arr c) 24)) 24 #[.int .u64 0, .int .u64 0, .int .u64 0, .int .u64 0]).alloc (.cells #[.int .u64 0, .int .u64 0, .int .u64 0, .int .u64 0] 24))
    simp only [World.size_alloc] at h
    exact h
  have rR : Res (w.heap.size + 1 + 1 + 1 + 1) 24 #[.int .u64 0, .int .u64 0, .int .u64 0, .int .u64 0] (((((w.alloc (.cells (arr low) 24)).alloc (.cells (arr high) 24)).alloc (.cells (arr c) 24)).alloc (.cells #[.int .u64 0, .int .u64 0, .int .u64 0, .int .u64 0] 24)).alloc (.cells #[.int .u64 0, .int .u64 0, .int .u64 0, .int .u64 0] 24)) := by
    have h := (Res.new ((((w.alloc (.cells (arr low) 24)).alloc (.cells (arr high) 24)).alloc (.cells (arr c) 24)).alloc (.cells #[.int .u64 0, .int .u64 0, .int .u64 0, .int .u64 0] 24)) 24 #[.int .u64 0, .int .u64 0, .int .u64 0, .int .u64 0])
    simp only [World.size_alloc] at h
    exact h
  have bb : Below w.heap.size w (((((w.alloc (.cells (arr low) 24)).alloc (.cells (arr high) 24)).alloc (.cells (arr c) 24)).alloc (.cells #[.int .u64 0, .int .u64 0, .int .u64 0, .int .u64 0] 24)).alloc (.cells #[.int .u64 0, .int .u64 0, .int .u64 0, .int .u64 0] 24)) := by go_grown
  have es : IntKind.i64.wrap (256 - ((256 - s : Nat) : Int)) = (s : Int) := by rw [IntKind.wrap_i64]; omega
  generalize hz : 256 - s = z at *
  go_enter Try.func69, Try.ntmps69
  go_wp2_with fail
  with_reducible refine (cb.out _).mono ?_
  rintro e w1 ⟨rfl, h1⟩
  replace rL := rL.keep h1
  replace rH := rH.keep h1
  replace rC := rC.keep h1
  replace rQ := rQ.keep h1
  replace rR := rR.keep h1
  replace bb := chain bb h1
  have zC := rC.cells; have lC := rC.lt
  go_wp2_with fail
  have rD := Res.new w1 24 (arr c)
  have lL := rL.lt; have lH := rH.lt; have lQ := rQ.lt; have lR := rR.lt
  with_reducible refine (shl4 w1.heap.size c s _ _ hs rD).mono ?_
  clear rD
  rintro e w2 ⟨rfl, rD, o1⟩
  rw [← hD.out] at rD
  clear zC
  replace rL := (rL.alloc _).only o1 (by omega)
  replace rH := (rH.alloc _).only o1 (by omega)
  replace rQ := (rQ.alloc _).only o1 (by omega)
  replace rR := (rR.alloc _).only o1 (by omega)
  have sz1 := o1.size
  rw [World.size_alloc] at sz1
  replace bb := (bb.alloc bb.size _).trans (o1.below bb.size)
  generalize hG1 : w1.heap.size = G1 at *
  have rE := Res.new w2 29 #[.int .u64 0, .int .u64 0, .int .u64 0, .int .u64 0, .int .u64 0, .int .u64 0, .int .u64 0, .int .u64 0]
  rw [sz1] at rE
  replace rL := rL.alloc (.cells #[.int .u64 0, .int .u64 0, .int .u64 0, .int .u64 0, .int .u64 0, .int .u64 0, .int .u64 0, .int .u64 0] 29)
  replace rH := rH.alloc (.cells #[.int .u64 0, .int .u64 0, .int .u64 0, .int .u64 0, .int .u64 0, .int .u64 0, .int .u64 0, .int .u64 0] 29)
  replace rQ := rQ.alloc (.cells #[.int .u64 0, .int .u64 0, .int .u64 0, .int .u64 0, .int .u64 0, .int .u64 0, .int .u64 0, .int .u64 0] 29)
  replace rR := rR.alloc (.cells #[.int .u64 0, .int .u64 0, .int .u64 0, .int .u64 0, .int .u64 0, .int .u64 0, .int .u64 0, .int .u64 0] 29)
  replace rD := rD.alloc (.cells #[.int .u64 0, .int .u64 0, .int .u64 0, .int .u64 0, .int .u64 0, .int .u64 0, .int .u64 0, .int .u64 0] 29)
  replace bb := bb.alloc (Nat.le_trans bb.size (Nat.le_refl _)) (.cells #[.int .u64 0, .int .u64 0, .int .u64 0, .int .u64 0, .int .u64 0, .int .u64 0, .int .u64 0, .int .u64 0] 29)
  have g5 : w.heap.size + 1 + 1 + 1 + 1 < G1 := by omega
  clear rC o1 h1 lC lL lH lQ lR
  go_wp2
  generalize w2.alloc (.cells #[.int .u64 0, .int .u64 0, .int .u64 0, .int .u64 0, .int .u64 0, .int .u64 0, .int .u64 0, .int .u64 0] 29) = w3 at *
  obtain ⟨w4, cp1, rE4, o4⟩ := copy4 (G1 + 1) w.heap.size 0 8 low _ _ _ #[.int .u64 (limb low 0), .int .u64 (limb low 1), .int .u64 (limb low 2), .int .u64 (limb low 3), .int .u64 0, .int .u64 0, .int .u64 0, .int .u64 0] w3.drew rE.drew rL.drew (by decide) rfl
  have rH4 := rH.drew.only o4 (by omega)
  have rQ4 := rQ.drew.only o4 (by omega)
  have rR4 := rR.drew.only o4 (by omega)
  have rD4 := rD.drew.only o4 (by omega)
  have bb4 : Below w.heap.size w w4 := bb.drew.trans (o4.below (by omega))
  clear rE rL rH rQ rR rD bb o4
  go_region
  obtain ⟨w5, cp2, rE5, o5⟩ := copy4 (G1 + 1) (w.heap.size + 1) 4 4 high _ _ _ #[.int .u64 (limb low 0), .int .u64 (limb low 1), .int .u64 (limb low 2), .int .u64 (limb low 3), .int .u64 (limb high 0), .int .u64 (limb high 1), .int .u64 (limb high 2), .int .u64 (limb high 3)] w4.drew rE4.drew rH4.drew (by simp) rfl
  have rQ5 := rQ4.drew.only o5 (by omega)
  have rR5 := rR4.drew.only o5 (by omega)
  have rD5 := rD4.drew.only o5 (by omega)
  have bb5 : Below w.heap.size w w5 := bb4.drew.trans (o5.below (by omega))
  rw [row8_join low high hl] at rE5
  clear rE4 rH4 rQ4 rR4 rD4 bb4 o5 cp1
  go_wp2_with fail
  go_region
  clear cp2
  go_wp2_with fail
  with_reducible refine (shl8 (G1 + 1) (low + high * B256) s _ _ hs rE5).mono ?_
  rintro e w6 ⟨rfl, rE, o6⟩
  rw [← hN.out, row8_high N M hM.out] at rE
  have rQ := rQ5.only o6 (by omega)
  have rR := rR5.only o6 (by omega)
  have rD := rD5.only o6 (by omega)
  have bb : Below w.heap.size w w6 := bb5.trans (o6.below (by omega))
  clear rE5 rQ5 rR5 rD5 bb5 o6
  have lE := rE.lt
  have zE := rE.cells
  have ar : ∀ (a : Option Addr) (c : Nat) (w : World), (Instr.arrayAt 24 (.slice a 4 c)).run Try.prog w = .ok (.pointer a) w := fun a c w => run_arrayAt w 24 22 4 a 4 c Try.underlying24 (by omega)
  have rP := Res.new w6 24 #[.int .u64 0, .int .u64 0, .int .u64 0, .int .u64 0]
  replace rP := rP.alloc (.cells (arr M) 24)
  have rM := Res.new (w6.alloc (.cells #[.int .u64 0, .int .u64 0, .int .u64 0, .int .u64 0] 24)) 24 (arr M)
  rw [World.size_alloc] at rM
  replace rE := (rE.alloc (.cells #[.int .u64 0, .int .u64 0, .int .u64 0, .int .u64 0] 24)).alloc (.cells (arr M) 24)
  replace rQ := (rQ.alloc (.cells #[.int .u64 0, .int .u64 0, .int .u64 0, .int .u64 0] 24)).alloc (.cells (arr M) 24)
  replace rR := (rR.alloc (.cells #[.int .u64 0, .int .u64 0, .int .u64 0, .int .u64 0] 24)).alloc (.cells (arr M) 24)
  replace rD := (rD.alloc (.cells #[.int .u64 0, .int .u64 0, .int .u64 0, .int .u64 0] 24)).alloc (.cells (arr M) 24)
  have sz6 := bb.size
  replace bb := (bb.alloc bb.size (.cells #[.int .u64 0, .int .u64 0, .int .u64 0, .int .u64 0] 24)).alloc (by rw [World.size_alloc]; omega) (.cells (arr M) 24)
  go_wp2
  generalize (w6.alloc (.cells #[.int .u64 0, .int .u64 0, .int .u64 0, .int .u64 0] 24)).alloc (.cells (arr M) 24) = w7 at *
  rw [H4.out] at rM
  generalize w6.heap.size = G3 at *
  go_loopw [13] (fun i wr => ∃ k : Nat, k ≤ 4 ∧ i = .int .i64 ((k : Int) - 1) ∧ Res G3 24 (wrow (qF quo k) 4) wr ∧ Res (G3 + 1) 24 (arr (rk N D k)) wr ∧ Res (G1 + 1) 29 (row44 N M) wr ∧ Res G1 24 (arr D) wr ∧ Res (w.heap.size + 1 + 1 + 1) 24 #[.int .u64 0, .int .u64 0, .int .u64 0, .int .u64 0] wr ∧ Res (w.heap.size + 1 + 1 + 1 + 1) 24 #[.int .u64 0, .int .u64 0, .int .u64 0, .int .u64 0] wr ∧ Below w.heap.size w wr) (fun i _ => (intOf i + 1).toNat)
  case atStart => exact ⟨4, Nat.le_refl _, rfl, by rw [qF_top]; exact rP, rM, rE, rD, rQ, rR, bb⟩
  case round =>
    clear rP rM rE rD rQ rR bb zE
    obtain ⟨k, hk, rfl, rP, rM, rE, rD, rQ, rR, bb⟩ := hrel
    rcases k with _ | j
    · rw [qF_zero] at rP
      go_wp2_with fail
      with_reducible refine (shr4 (G3 + 1) (rk N D 0) s _ _ hb hs rM).mono ?_
      clear rM
      rintro e w8 ⟨rfl, rM, o8⟩
      rw [← H0.out] at rM
      replace rP := rP.only o8 (by omega)
      replace rQ := rQ.only o8 (by omega)
      replace rR := rR.only o8 (by omega)
      replace bb := bb.trans (o8.below (by omega))
      have zP := rP.cells; have zM := rM.cells
      have zQ := rQ.cells; have mQ := rQ.marks; have lQ := rQ.lt
      have zR := rR.cells; have mR := rR.marks; have lR := rR.lt
      clear rE rD o8 H0 H4 hN hM hD cd
      go_wp2
      go_region
      go_wp2
      refine bodyPost_ret (v := .tuple #[U quo, U rem]) (by simp [results, Try.results69, go_sem, zQ, zR]) rfl ⟨rfl, ?_⟩
      go_grown
    · have hi : ((j + 1 : Nat) : Int) - 1 = (j : Int) := by omega
      rw [hi]
      have i1 : (0 : Int) ≤ (j : Int) := by omega
      have i2 : (j : Int) < 4 := by omega
      have i3 : (j : Int) < 8 := by omega
      have zE := (rE.cells j).trans (row44_get (by omega))
      have zM := rM.cells; have zD := rD.cells
      have CD := Lib.hid (fun w => cd.out j w (by omega))
      clear cd
      have cP := (rP.cells j).trans (wrow_get (by omega))
      have HP := Lib.hid rP; have HM := Lib.hid rM; have HE := Lib.hid rE; have HD := Lib.hid rD; have HQ := Lib.hid rQ; have HR := Lib.hid rR; have HB := Lib.hid bb
      clear rP rM rE rD rQ rR bb
      go_wp2
      go_region_with (first | (go_at_call 75; with_reducible refine (CD.out _).mono ?_; rintro e w8 ⟨rfl, hw⟩; have rP := HP.out.drew.keep hw; have rM := HM.out.drew.keep hw; have rE := HE.out.drew.keep hw; have rD := HD.out.drew.keep hw; have rQ := HQ.out.drew.keep hw; have rR := HR.out.drew.keep hw; have bb := chain HB.out.drew hw; have cP8 := (rP.cells j).trans (wrow_get (by omega)); have mP := rP.marks j; have zM8 := rM.cells; have mM := rM.marks; clear hw))
      all_goals
        have RP := rP.setw j (.int .u64 (limb quo j))
        rw [qF_set] at RP
        replace RP := RP.far4' (.int .u64 (limb (rk N D j) 0)) (.int .u64 (limb (rk N D j) 1)) (.int .u64 (limb (rk N D j) 2)) (.int .u64 (limb (rk N D j) 3)) (by omega : G3 ≠ G3 + 1)
        have RM := (rM.far1' j (.int .u64 (limb quo j)) (by omega : G3 + 1 ≠ G3)).put4' (.int .u64 (limb (rk N D j) 0)) (.int .u64 (limb (rk N D j) 1)) (.int .u64 (limb (rk N D j) 2)) (.int .u64 (limb (rk N D j) 3))
        have RE := (rE.far1' j (.int .u64 (limb quo j)) (by omega : G1 + 1 ≠ G3)).far4' (.int .u64 (limb (rk N D j) 0)) (.int .u64 (limb (rk N D j) 1)) (.int .u64 (limb (rk N D j) 2)) (.int .u64 (limb (rk N D j) 3)) (by omega : G1 + 1 ≠ G3 + 1)
        have RD := (rD.far1' j (.int .u64 (limb quo j)) (by omega : G1 ≠ G3)).far4' (.int .u64 (limb (rk N D j) 0)) (.int .u64 (limb (rk N D j) 1)) (.int .u64 (limb (rk N D j) 2)) (.int .u64 (limb (rk N D j) 3)) (by omega : G1 ≠ G3 + 1)
        have RQ := (rQ.far1' j (.int .u64 (limb quo j)) (by omega : w.heap.size + 1 + 1 + 1 ≠ G3)).far4' (.int .u64 (limb (rk N D j) 0)) (.int .u64 (limb (rk N D j) 1)) (.int .u64 (limb (rk N D j) 2)) (.int .u64 (limb (rk N D j) 3)) (by omega : w.heap.size + 1 + 1 + 1 ≠ G3 + 1)
        have RR := (rR.far1' j (.int .u64 (limb quo j)) (by omega : w.heap.size + 1 + 1 + 1 + 1 ≠ G3)).far4' (.int .u64 (limb (rk N D j) 0)) (.int .u64 (limb (rk N D j) 1)) (.int .u64 (limb (rk N D j) 2)) (.int .u64 (limb (rk N D j) 3)) (by omega : w.heap.size + 1 + 1 + 1 + 1 ≠ G3 + 1)
        have BB := below5 bb G3 j (.int .u64 (limb quo j)) (.int .u64 (limb (rk N D j) 0)) (.int .u64 (limb (rk N D j) 1)) (.int .u64 (limb (rk N D j) 2)) (.int .u64 (limb (rk N D j) 3)) (by omega)
        clear rP rM rE rD rQ rR bb cP8 mP zM8 mM HP HM HE HD HQ HR HB CD zE zM zD cP
        go_wp2
        go_roundw
        case rel => exact ⟨j, by omega, by go_num, RP, RM, RE, RD, RQ, RR, BB⟩
        case measure => simp [intOf]

end Go.Proofs.Ytlaapbenpjopiaa

namespace Go.Proofs.Ytlaapbenpjopiaa
open Go.RowKit

theorem rk_lt {n d k : Nat} (h : 0 < d) : rk n d k < d := Nat.mod_lt _ h
theorem rk_step (n d k : Nat) (h : 0 < d) :
    (rk n d (k + 1) * 18446744073709551616 + word n k) / d = word (n / d) k ∧ (rk n d (k + 1) * 18446744073709551616 + word n k) % d = rk n d k := by
  have e : n / 18446744073709551616 ^ k = n / 18446744073709551616 ^ (k + 1) * 18446744073709551616 + word n k := by
    unfold word
    rw [Nat.pow_succ, ← Nat.div_div_eq_div_mul]
    generalize n / 18446744073709551616 ^ k = x
    omega
  have e2 : n / d / 18446744073709551616 ^ k = n / 18446744073709551616 ^ k / d := by rw [Nat.div_div_eq_div_mul, Nat.div_div_eq_div_mul, Nat.mul_comm]
  unfold rk
  rw [show word (n / d) k = n / d / 18446744073709551616 ^ k % 18446744073709551616 from rfl, e2, e]
  have hw := word_lt n k
  generalize word n k = x at *
  obtain ⟨A, hA⟩ : ∃ A, A = n / 18446744073709551616 ^ (k + 1) := ⟨_, rfl⟩
  rw [← hA]
  clear hA e e2
  have hd := Nat.div_add_mod A d
  obtain ⟨q, hq⟩ : ∃ q, q = A / d := ⟨_, rfl⟩
  obtain ⟨r, hr⟩ : ∃ r, r = A % d := ⟨_, rfl⟩
  rw [← hq, ← hr] at hd
  rw [← hr]
  have hrd : r < d := by rw [hr]; exact Nat.mod_lt _ h
  clear hq hr
  subst hd
  have f : (d * q + r) * 18446744073709551616 + x = r * 18446744073709551616 + x + d * (q * 18446744073709551616) := by
    rw [← Nat.mul_assoc]
    omega
  rw [f, Nat.add_mul_div_left _ _ h, Nat.add_mul_mod_self_left]
  have g : (r * 18446744073709551616 + x) / d < 18446744073709551616 := by
    rw [Nat.div_lt_iff_lt_mul h, Nat.mul_comm]
    have : (r + 1) * 18446744073709551616 ≤ d * 18446744073709551616 := Nat.mul_le_mul_right _ hrd
    omega
  refine ⟨?_, rfl⟩
  generalize (r * 18446744073709551616 + x) / d = y at *
  omega

theorem dvd_any (low high c : Nat) (hl : low < B256) (hh : high < c) (hc : c < B256) (w : World) :
    Calls Try.prog 69 #[U low, U high, U c] w fun e w' => e = .returned (.tuple #[U ((low + high * B256) / c), U ((low + high * B256) % c)]) ∧ Below w.heap.size w w' := by
  have hc0 : 0 < c := by omega
  have hb := blen_256 hc
  have hb0 := blen_pos (n := c) (by omega)
  have hb1 := blen_le (n := c) (by omega)
  have hb2 := blen_lt c
  obtain ⟨s, hs⟩ : ∃ s, s = 256 - blen c := ⟨_, rfl⟩
  have hp : 0 < 2 ^ s := Nat.pow_pos (by omega)
  have hD1 : 57896044618658097711785492504343953926634992332820282019728792003956564819968 ≤ c * 2 ^ s := by
    have h : 2 ^ (blen c - 1) * 2 ^ s ≤ c * 2 ^ s := Nat.mul_le_mul_right _ hb1
    rw [← Nat.pow_add, show blen c - 1 + s = 255 by omega] at h
    exact h
  have hD2 : c * 2 ^ s < B256 := by
    have h : c * 2 ^ s < 2 ^ blen c * 2 ^ s := Nat.mul_lt_mul_of_pos_right hb2 hp
    rw [← Nat.pow_add, show blen c + s = 256 by omega] at h
    exact h
  have hn : low + high * B256 < c * B256 := by
    have h : (high + 1) * B256 ≤ c * B256 := Nat.mul_le_mul_right _ hh
    rw [Nat.add_mul, Nat.one_mul] at h
    omega
  have hM : (low + high * B256) * 2 ^ s / B256 < c * 2 ^ s := by
    rw [Nat.div_lt_iff_lt_mul B256_pos]
    have h : (low + high * B256) * 2 ^ s < c * B256 * 2 ^ s := Nat.mul_lt_mul_of_pos_right hn hp
    rw [Nat.mul_right_comm] at h
    exact h
  have hQ : (low + high * B256) * 2 ^ s / (c * 2 ^ s) = (low + high * B256) / c := Nat.mul_div_mul_right _ _ hp
  have hR : (low + high * B256) * 2 ^ s % (c * 2 ^ s) = (low + high * B256) % c * 2 ^ s := Nat.mul_mod_mul_right _ _ _
  have hDp : 0 < c * 2 ^ s := Nat.lt_of_lt_of_le (by omega) hD1
  have hk0 : rk ((low + high * B256) * 2 ^ s) (c * 2 ^ s) 0 = (low + high * B256) % c * 2 ^ s := by
    unfold rk
    rw [Nat.pow_zero, Nat.div_one, hR]
  refine dvd_core low high c s (c * 2 ^ s) ((low + high * B256) * 2 ^ s) _ ((low + high * B256) / c) ((low + high * B256) % c) (by omega) rfl rfl rfl hl w ?_ ?_ ?_ ?_ ?_
  · show _ = (low + high * B256) * 2 ^ s / 18446744073709551616 ^ 4 % (c * 2 ^ s)
    rw [show (18446744073709551616 : Nat) ^ 4 = B256 from rfl, Nat.mod_eq_of_lt hM]
  · rw [hk0, Nat.mul_div_cancel _ hp]
  · exact Nat.lt_trans (rk_lt hDp) hD2
  · intro k w hk
    have h := dd_any (rk ((low + high * B256) * 2 ^ s) (c * 2 ^ s) (k + 1)) (word ((low + high * B256) * 2 ^ s) k) (c * 2 ^ s) (rk_lt hDp) hD2 hD1 (word_lt _ _) w
    obtain ⟨e1, e2⟩ := rk_step ((low + high * B256) * 2 ^ s) (c * 2 ^ s) k hDp
    rw [e1, e2, hQ] at h
    exact h
  · intro w
    have h := bitlen_any c hc w
    rw [show (256 - s : Nat) = blen c by omega]
    exact h

/-! ### Div512 -/
set_option maxHeartbeats 1000000 in
theorem d512_zero (low high c : Nat) (w : World)
    (E : ∀ w, (Op.equalIn 10000 24 (U c) (.agg #[.int .u64 0, .int .u64 0, .int .u64 0, .int .u64 0])).run Try.prog w = .ok true w) :
    Calls Try.prog 62 #[U low, U high, U c] w fun e w' => e = .returned (.tuple #[(.agg #[.int .u64 0, .int .u64 0, .int .u64 0, .int .u64 0]), (.agg #[.int .u64 0, .int .u64 0, .int .u64 0, .int .u64 0]), .int .i64 5]) ∧ Below w.heap.size w w' := by
  go_enter Try.func62, Try.ntmps62
  go_wp2
  refine bodyPost_ret (v := .tuple #[(.agg #[.int .u64 0, .int .u64 0, .int .u64 0, .int .u64 0]), (.agg #[.int .u64 0, .int .u64 0, .int .u64 0, .int .u64 0]), .int .i64 5]) (by simp [results, Try.results62, go_sem]) rfl ⟨rfl, ?_⟩
  go_grown

set_option maxHeartbeats 1000000 in
theorem d512_over (low high c : Nat) (v : Int) (w : World) (hv : 0 ≤ v)
    (E : ∀ w, (Op.equalIn 10000 24 (U c) (.agg #[.int .u64 0, .int .u64 0, .int .u64 0, .int .u64 0])).run Try.prog w = .ok false w)
    (cc : Hid (∀ w, Calls Try.prog 68 #[U high, U c] w fun e w' => e = .returned (.int .i64 v) ∧ Below w.heap.size w w')) :
    Calls Try.prog 62 #[U low, U high, U c] w fun e w' => e = .returned (.tuple #[(.agg #[.int .u64 0, .int .u64 0, .int .u64 0, .int .u64 0]), (.agg #[.int .u64 0, .int .u64 0, .int .u64 0, .int .u64 0]), .int .i64 4]) ∧ Below w.heap.size w w' := by
  have rL : Res (w.heap.size) 24 (arr low) (((((w.alloc (.cells (arr low) 24)).alloc (.cells (arr high) 24)).alloc (.cells (arr c) 24)).alloc (.cells #[.int .u64 0, .int .u64 0, .int .u64 0, .int .u64 0] 24)).alloc (.cells #[.int .u64 0, .int .u64 0, .int .u64 0, .int .u64 0] 24)) := by
    have h := (((((Res.new w 24 (arr low)).alloc (.cells (arr high) 24)).alloc (.cells (arr c) 24)).alloc (.cells #[.int .u64 0, .int .u64 0, .int .u64 0, .int .u64 0] 24)).alloc (.cells #[.int .u64 0, .int .u64 0, .int .u64 0, .int .u64 0] 24))
    exact h
  have rH : Res (w.heap.size + 1) 24 (arr high) (((((w.alloc (.cells (arr low) 24)).alloc (.cells (arr high) 24)).alloc (.cells (arr c) 24)).alloc (.cells #[.int .u64 0, .int .u64 0, .int .u64 0, .int .u64 0] 24)).alloc (.cells #[.int .u64 0, .int .u64 0, .int .u64 0, .int .u64 0] 24)) := by
    have h := ((((Res.new (w.alloc (.cells (arr low) 24)) 24 (arr high)).alloc (.cells (arr c) 24)).alloc (.cells #[.int .u64 0, .int .u64 0, .int .u64 0, .int .u64 0] 24)).alloc (.cells #[.int .u64 0, .int .u64 0, .int .u64 0, .int .u64 0] 24))
    simp only [World.size_alloc] at h
    exact h
  have rC : Res (w.heap.size + 1 + 1) 24 (arr c) (((((w.alloc (.cells (arr low) 24)).alloc (.cells (arr high) 24)).alloc (.cells (arr c) 24)).alloc (.cells #[.int .u64 0, .int .u64 0, .int .u64 0, .int .u64 0] 24)).alloc (.cells #[.int .u64 0, .int .u64 0, .int .u64 0, .int .u64 0] 24)) := by
    have h := (((Res.new ((w.alloc (.cells (arr low) 24)).alloc (.cells (arr high) 24)) 24 (arr c)).alloc (.cells #[.int .u64 0, .int .u64 0, .int .u64 0, .int .u64 0] 24)).alloc (.cells #[.int .u64 0, .int .u64 0, .int .u64 0, .int .u64 0] 24))
    simp only [World.size_alloc] at h
    exact h
  have rQ : Res (w.heap.size + 1 + 1 + 1) 24 #[.int .u64 0, .int .u64 0, .int .u64 0, .int .u64 0] (((((w.alloc (.cells (arr low) 24)).alloc (.cells (arr high) 24)).alloc (.cells (arr c) 24)).alloc (.cells #[.int .u64 0, .int .u64 0, .int .u64 0, .int .u64 0] 24)).alloc (.cells #[.int .u64 0, .int .u64 0, .int .u64 0, .int .u64 0] 24)) := by
    have h := ((Res.new (((w.alloc (.cells (arr low) 24)).alloc (.cells (arr high) 24)).alloc (.cells (arr c) 24)) 24 #[.int .u64 0, .int .u64 0, .int .u64 0, .int .u64 0]).alloc (.cells #[.int .u64 0, .int .u64 0, .int .u64 0, .int .u64 0] 24))
    simp only [World.size_alloc] at h
    exact h
  have rR : Res (w.heap.size + 1 + 1 + 1 + 1) 24 #[.int .u64 0, .int .u64 0, .int .u64 0, .int .u64 0] (((((w.alloc (.cells (arr low) 24)).alloc (.cells (arr high) 24)).alloc (.cells (arr c) 24)).alloc (.cells #[.int .u64 0, .int .u64 0, .int .u64 0, .int .u64 0] 24)).alloc (.cells #[.int .u64 0, .int .u64 0, .int .u64 0, .int .u64 0] 24)) := by
    have h := (Res.new ((((w.alloc (.cells (arr low) 24)).alloc (.cells (arr high) 24)).alloc (.cells (arr c) 24)).alloc (.cells #[.int .u64 0, .int .u64 0, .int .u64 0, .int .u64 0] 24)) 24 #[.int .u64 0, .int .u64 0, .int .u64 0, .int .u64 0])
    simp only [World.size_alloc] at h
    exact h
  have bb : Below w.heap.size w (((((w.alloc (.cells (arr low) 24)).alloc (.cells (arr high) 24)).alloc (.cells (arr c) 24)).alloc (.cells #[.int .u64 0, .int .u64 0, .int .u64 0, .int .u64 0] 24)).alloc (.cells #[.int .u64 0, .int .u64 0, .int .u64 0, .int .u64 0] 24)) := by go_grown
  go_enter Try.func62, Try.ntmps62
  go_wp2_with fail
  with_reducible refine (cc.out _).mono ?_
  rintro e w1 ⟨rfl, h1⟩
  replace rQ := rQ.keep h1
  replace rR := rR.keep h1
  replace bb := chain bb h1
  clear rL rH rC h1
  have zQ := rQ.cells; have mQ := rQ.marks; have lQ := rQ.lt
  have zR := rR.cells; have mR := rR.marks; have lR := rR.lt
  go_wp2
  refine bodyPost_ret (v := .tuple #[(.agg #[.int .u64 0, .int .u64 0, .int .u64 0, .int .u64 0]), (.agg #[.int .u64 0, .int .u64 0, .int .u64 0, .int .u64 0]), .int .i64 4]) (by simp [results, Try.results62, go_sem, zQ, zR]) rfl ⟨rfl, ?_⟩
  go_grown

set_option maxHeartbeats 1000000 in
theorem d512_ok (low high c q r : Nat) (v : Int) (w : World) (hv : v < 0)
    (E : ∀ w, (Op.equalIn 10000 24 (U c) (.agg #[.int .u64 0, .int .u64 0, .int .u64 0, .int .u64 0])).run Try.prog w = .ok false w)
    (cc : Hid (∀ w, Calls Try.prog 68 #[U high, U c] w fun e w' => e = .returned (.int .i64 v) ∧ Below w.heap.size w w'))
    (cd : Hid (∀ w, Calls Try.prog 69 #[U low, U high, U c] w fun e w' => e = .returned (.tuple #[U q, U r]) ∧ Below w.heap.size w w')) :
    Calls Try.prog 62 #[U low, U high, U c] w fun e w' => e = .returned (.tuple #[U q, U r, .int .i64 0]) ∧ Below w.heap.size w w' := by
  have hv' : decide (0 ≤ v) = false := decide_eq_false (by omega)
  have rL : Res (w.heap.size) 24 (arr low) (((((w.alloc (.cells (arr low) 24)).alloc (.cells (arr high) 24)).alloc (.cells (arr c) 24)).alloc (.cells #[.int .u64 0, .int .u64 0, .int .u64 0, .int .u64 0] 24)).alloc (.cells #[.int .u64 0, .int .u64 0, .int .u64 0, .int .u64 0] 24)) := by
    have h := (((((Res.new w 24 (arr low)).alloc (.cells (arr high) 24)).alloc (.cells (arr c) 24)).alloc (.cells #[.int .u64 0, .int .u64 0, .int .u64 0, .int .u64 0] 24)).alloc (.cells #[.int .u64 0, .int .u64 0, .int .u64 0, .int .u64 0] 24))
    exact h
  have rH : Res (w.heap.size + 1) 24 (arr high) (((((w.alloc (.cells (arr low) 24)).alloc (.cells (arr high) 24)).alloc (.cells (arr c) 24)).alloc (.cells #[.int .u64 0, .int .u64 0, .int .u64 0, .int .u64 0] 24)).alloc (.cells #[.int .u64 0, .int .u64 0, .int .u64 0, .int .u64 0] 24)) := by
    have h := ((((Res.new (w.alloc (.cells (arr low) 24)) 24 (arr high)).alloc (.cells (arr c) 24)).alloc (.cells #[.int .u64 0, .int .u64 0, .int .u64 0, .int .u64 0] 24)).alloc (.cells #[.int .u64 0, .int .u64 0, .int .u64 0, .int .u64 0] 24))
    simp only [World.size_alloc] at h
    exact h
  have rC : Res (w.heap.size + 1 + 1) 24 (arr c) (((((w.alloc (.cells (arr low) 24)).alloc (.cells (arr high) 24)).alloc (.cells (arr c) 24)).alloc (.cells #[.int .u64 0, .int .u64 0, .int .u64 0, .int .u64 0] 24)).alloc (.cells #[.int .u64 0, .int .u64 0, .int .u64 0, .int .u64 0] 24)) := by
    have h := (((Res.new ((w.alloc (.cells (arr low) 24)).alloc (.cells (arr high) 24)) 24 (arr c)).alloc (.cells #[.int .u64 0, .int .u64 0, .int .u64 0, .int .u64 0] 24)).alloc (.cells #[.int .u64 0, .int .u64 0, .int .u64 0, .int .u64 0] 24))
    simp only [World.size_alloc] at h
    exact h
  have rQ : Res (w.heap.size + 1 + 1 + 1) 24 #[.int .u64 0, .int .u64 0, .int .u64 0, .int .u64 0] (((((w.alloc (.cells (arr low) 24)).alloc (.cells (arr high) 24)).alloc (.cells (arr c) 24)).alloc (.cells #[.int .u64 0, .int .u64 0, .int .u64 0, .int .u64 0] 24)).alloc (.cells #[.int .u64 0, .int .u64 0, .int .u64 0, .int .u64 0] 24)) := by
    have h := ((Res.new (((w.alloc (.cells (arr low) 24)).alloc (.cells (arr high) 24)).alloc (.cells (arr c) 24)) 24 #[.int .u64 0, .int .u64 0, .int .u64 0, .int .u64 0]).alloc (.cells #[.int .u64 0, .int .u64 0, .int .u64 0, .int .u64 0] 24))
    simp only [World.size_alloc] at h
    exact h
  have rR : Res (w.heap.size + 1 + 1 + 1 + 1) 24 #[.int .u64 0, .int .u64 0, .int .u64 0, .int .u64 0] (((((w.alloc (.cells (arr low) 24)).alloc (.cells (arr high) 24)).alloc (.cells (arr c) 24)).alloc (.cells #[.int .u64 0, .int .u64 0, .int .u64 0, .int .u64 0] 24)).alloc (.cells #[.int .u64 0, .int .u64 0, .int .u64 0, .int .u64 0] 24)) := by
    have h := (Res.new ((((w.alloc (.cells (arr low) 24)).alloc (.cells (arr high) 24)).alloc (.cells (arr c) 24)).alloc (.cells #[.int .u64 0, .int .u64 0, .int .u64 0, .int .u64 0] 24)) 24 #[.int .u64 0, .int .u64 0, .int .u64 0, .int .u64 0])
    simp only [World.size_alloc] at h
    exact h
  have bb : Below w.heap.size w (((((w.alloc (.cells (arr low) 24)).alloc (.cells (arr high) 24)).alloc (.cells (arr c) 24)).alloc (.cells #[.int .u64 0, .int .u64 0, .int .u64 0, .int .u64 0] 24)).alloc (.cells #[.int .u64 0, .int .u64 0, .int .u64 0, .int .u64 0] 24)) := by go_grown
  go_enter Try.func62, Try.ntmps62
  go_wp2_with fail
  with_reducible refine (cc.out _).mono ?_
  rintro e w1 ⟨rfl, h1⟩
  replace rL := rL.keep h1
  replace rH := rH.keep h1
  replace rC := rC.keep h1
  replace rQ := rQ.keep h1
  replace rR := rR.keep h1
  replace bb := chain bb h1
  have zL := rL.cells; have lL := rL.lt
  have zH := rH.cells; have lH := rH.lt
  have zC := rC.cells; have lC := rC.lt
  clear hv
  go_wp2_with fail
  with_reducible refine (cd.out _).mono ?_
  rintro e w2 ⟨rfl, h2⟩
  clear zL lL zH lH zC lC rL rH rC
  have k1 := (rR.keep h2).lt
  replace rQ := ((rQ.keep h2).alloc (.cells (arr q) 24)).alloc (.cells (arr r) 24)
  replace rR := ((rR.keep h2).alloc (.cells (arr q) 24)).alloc (.cells (arr r) 24)
  have rX := (Res.new w2 24 (arr q)).alloc (.cells (arr r) 24)
  have rY := Res.new (w2.alloc (.cells (arr q) 24)) 24 (arr r)
  rw [World.size_alloc] at rY
  replace bb := chain bb h2
  have sz := bb.size
  replace bb := (bb.alloc bb.size (.cells (arr q) 24)).alloc (by rw [World.size_alloc]; omega) (.cells (arr r) 24)
  go_wp2
  generalize (w2.alloc (.cells (arr q) 24)).alloc (.cells (arr r) 24) = w3 at *
  generalize w2.heap.size = G at *
  have zQ := rQ.cells; have mQ := rQ.marks; have lQ := rQ.lt
  have zR := rR.cells; have mR := rR.marks; have lR := rR.lt
  have zX := rX.cells; have lX := rX.lt
  have zY := rY.cells; have lY := rY.lt
  clear rQ rR rX rY h1 h2
  go_region
  go_wp2
  refine bodyPost_ret (v := .tuple #[U q, U r, .int .i64 0]) (by simp [results, Try.results62, go_sem, zQ, zR]) rfl ⟨rfl, ?_⟩
  go_grown

theorem d512_any (low high c : Nat) (hl : low < B256) (hh : high < B256) (hc : c < B256) (w : World) :
    Calls Try.prog 62 #[U low, U high, U c] w fun e w' =>
      e = .returned (.tuple #[U (quoR c ((low + high * B256) / c)), U (remR c ((low + high * B256) / c) ((low + high * B256) % c)), .int .i64 (quoE c ((low + high * B256) / c))]) ∧ Below w.heap.size w w' := by
  have E : ∀ w, (Op.equalIn 10000 24 (U c) (.agg #[.int .u64 0, .int .u64 0, .int .u64 0, .int .u64 0])).run Try.prog w = .ok (decide (c = 0)) w := fun w => by
    rw [← U_zero, eqU_run _ _ hc B256_pos]
  unfold quoR remR quoE
  by_cases h0 : c = 0
  · rw [if_pos h0, if_pos h0, if_pos h0, U_zero]
    rw [decide_eq_true h0] at E
    exact d512_zero low high c w E
  rw [if_neg h0, if_neg h0, if_neg h0]
  rw [decide_eq_false h0] at E
  unfold chkR chkE
  by_cases h1 : high < c
  · have hq : (low + high * B256) / c < B256 := by
      rw [Nat.div_lt_iff_lt_mul (by omega), Nat.mul_comm B256 c]
      have h : (high + 1) * B256 ≤ c * B256 := Nat.mul_le_mul_right _ h1
      rw [Nat.add_mul, Nat.one_mul] at h
      omega
    rw [if_pos hq, if_pos hq, if_pos hq]
    exact d512_ok low high c _ _ (cmpI high c) w (by unfold cmpI; rw [if_pos h1]; omega) E (cmp_any high c hh hc) (dvd_any low high c hl h1 hc)
  · have hq : ¬ (low + high * B256) / c < B256 := by
      rw [Nat.div_lt_iff_lt_mul (by omega), Nat.mul_comm B256 c]
      have h : c * B256 ≤ high * B256 := Nat.mul_le_mul_right _ (by omega)
      omega
    rw [if_neg hq, if_neg hq, if_neg hq, U_zero]
    exact d512_over low high c (cmpI high c) w (by unfold cmpI; rw [if_neg h1]; split <;> omega) E (cmp_any high c hh hc)

end Go.Proofs.Ytlaapbenpjopiaa

namespace Go.Proofs.Ytlaapbenpjopiaa
open Go.RowKit

theorem mdmul_any (a b : Nat) (ha : a < B256) (hb : b < B256) (w : World) :
    Calls Try.prog 61 #[U a, U b] w fun e w' => e = .returned (.tuple #[U (a * b % B256), U (a * b / B256)]) ∧ Below w.heap.size w w' := by
  have C := Lib.hid (full_any a b ha hb)
  generalize a * b % B256 = p at *
  generalize a * b / B256 = h at *
  have rA : Res (w.heap.size) 24 (arr a) ((((w.alloc (.cells (arr a) 24)).alloc (.cells (arr b) 24)).alloc (.cells #[.int .u64 0, .int .u64 0, .int .u64 0, .int .u64 0] 24)).alloc (.cells #[.int .u64 0, .int .u64 0, .int .u64 0, .int .u64 0] 24)) := by
    have h := ((((Res.new w 24 (arr a)).alloc (.cells (arr b) 24)).alloc (.cells #[.int .u64 0, .int .u64 0, .int .u64 0, .int .u64 0] 24)).alloc (.cells #[.int .u64 0, .int .u64 0, .int .u64 0, .int .u64 0] 24))
    exact h
  have rB : Res (w.heap.size + 1) 24 (arr b) ((((w.alloc (.cells (arr a) 24)).alloc (.cells (arr b) 24)).alloc (.cells #[.int .u64 0, .int .u64 0, .int .u64 0, .int .u64 0] 24)).alloc (.cells #[.int .u64 0, .int .u64 0, .int .u64 0, .int .u64 0] 24)) := by
    have h := (((Res.new (w.alloc (.cells (arr a) 24)) 24 (arr b)).alloc (.cells #[.int .u64 0, .int .u64 0, .int .u64 0, .int .u64 0] 24)).alloc (.cells #[.int .u64 0, .int .u64 0, .int .u64 0, .int .u64 0] 24))
    simp only [World.size_alloc] at h
    exact h
  have rO : Res (w.heap.size + 1 + 1) 24 #[.int .u64 0, .int .u64 0, .int .u64 0, .int .u64 0] ((((w.alloc (.cells (arr a) 24)).alloc (.cells (arr b) 24)).alloc (.cells #[.int .u64 0, .int .u64 0, .int .u64 0, .int .u64 0] 24)).alloc (.cells #[.int .u64 0, .int .u64 0, .int .u64 0, .int .u64 0] 24)) := by
    have h := ((Res.new ((w.alloc (.cells (arr a) 24)).alloc (.cells (arr b) 24)) 24 #[.int .u64 0, .int .u64 0, .int .u64 0, .int .u64 0]).alloc (.cells #[.int .u64 0, .int .u64 0, .int .u64 0, .int .u64 0] 24))
    simp only [World.size_alloc] at h
    exact h
  have rO2 : Res (w.heap.size + 1 + 1 + 1) 24 #[.int .u64 0, .int .u64 0, .int .u64 0, .int .u64 0] ((((w.alloc (.cells (arr a) 24)).alloc (.cells (arr b) 24)).alloc (.cells #[.int .u64 0, .int .u64 0, .int .u64 0, .int .u64 0] 24)).alloc (.cells #[.int .u64 0, .int .u64 0, .int .u64 0, .int .u64 0] 24)) := by
    have h := (Res.new (((w.alloc (.cells (arr a) 24)).alloc (.cells (arr b) 24)).alloc (.cells #[.int .u64 0, .int .u64 0, .int .u64 0, .int .u64 0] 24)) 24 #[.int .u64 0, .int .u64 0, .int .u64 0, .int .u64 0])
    simp only [World.size_alloc] at h
    exact h
  have bb : Below w.heap.size w ((((w.alloc (.cells (arr a) 24)).alloc (.cells (arr b) 24)).alloc (.cells #[.int .u64 0, .int .u64 0, .int .u64 0, .int .u64 0] 24)).alloc (.cells #[.int .u64 0, .int .u64 0, .int .u64 0, .int .u64 0] 24)) := by go_grown
  go_enter Try.func61, Try.ntmps61
  go_wp2_with fail
  with_reducible refine (C.out _).mono ?_
  rintro e w1 ⟨rfl, h1⟩
  replace rO := rO.keep h1
  replace rO2 := rO2.keep h1
  replace bb := chain bb h1
  have zO := rO.cells; have mO := rO.marks; have lO := rO.lt
  have zO2 := rO2.cells; have mO2 := rO2.marks; have lO2 := rO2.lt
  clear rA rB rO rO2 h1
  go_wp2
  refine bodyPost_ret (v := .tuple #[U p, U h]) (by simp [results, Try.results61, go_sem, zO, zO2]) rfl ⟨rfl, ?_⟩
  go_grown

set_option maxRecDepth 100000 in
set_option maxHeartbeats 2000000 in
theorem floor_core (a b c p h q r : Nat) (k : Int) (w : World)
    (cm : Hid (∀ w, Calls Try.prog 61 #[U a, U b] w fun e w' => e = .returned (.tuple #[U p, U h]) ∧ Below w.heap.size w w'))
    (cd : Hid (∀ w, Calls Try.prog 62 #[U p, U h, U c] w fun e w' => e = .returned (.tuple #[U q, U r, .int .i64 k]) ∧ Below w.heap.size w w')) :
    Calls Try.prog 54 #[U a, U b, U c] w fun e w' => e = .returned (.tuple #[U q, .int .i64 k]) ∧ Below w.heap.size w w' := by
  have rA : Res (w.heap.size) 24 (arr a) ((((w.alloc (.cells (arr a) 24)).alloc (.cells (arr b) 24)).alloc (.cells (arr c) 24)).alloc (.cells #[.int .u64 0, .int .u64 0, .int .u64 0, .int .u64 0] 24)) := by
    have h := ((((Res.new w 24 (arr a)).alloc (.cells (arr b) 24)).alloc (.cells (arr c) 24)).alloc (.cells #[.int .u64 0, .int .u64 0, .int .u64 0, .int .u64 0] 24))
    exact h
  have rB : Res (w.heap.size + 1) 24 (arr b) ((((w.alloc (.cells (arr a) 24)).alloc (.cells (arr b) 24)).alloc (.cells (arr c) 24)).alloc (.cells #[.int .u64 0, .int .u64 0, .int .u64 0, .int .u64 0] 24)) := by
    have h := (((Res.new (w.alloc (.cells (arr a) 24)) 24 (arr b)).alloc (.cells (arr c) 24)).alloc (.cells #[.int .u64 0, .int .u64 0, .int .u64 0, .int .u64 0] 24))
    simp only [World.size_alloc] at h
    exact h
  have rC : Res (w.heap.size + 1 + 1) 24 (arr c) ((((w.alloc (.cells (arr a) 24)).alloc (.cells (arr b) 24)).alloc (.cells (arr c) 24)).alloc (.cells #[.int .u64 0, .int .u64 0, .int .u64 0, .int .u64 0] 24)) := by
    have h := ((Res.new ((w.alloc (.cells (arr a) 24)).alloc (.cells (arr b) 24)) 24 (arr c)).alloc (.cells #[.int .u64 0, .int .u64 0, .int .u64 0, .int .u64 0] 24))
    simp only [World.size_alloc] at h
    exact h
  have rO : Res (w.heap.size + 1 + 1 + 1) 24 #[.int .u64 0, .int .u64 0, .int .u64 0, .int .u64 0] ((((w.alloc (.cells (arr a) 24)).alloc (.cells (arr b) 24)).alloc (.cells (arr c) 24)).alloc (.cells #[.int .u64 0, .int .u64 0, .int .u64 0, .int .u64 0] 24)) := by
    have h := (Res.new (((w.alloc (.cells (arr a) 24)).alloc (.cells (arr b) 24)).alloc (.cells (arr c) 24)) 24 #[.int .u64 0, .int .u64 0, .int .u64 0, .int .u64 0])
    simp only [World.size_alloc] at h
    exact h
  have bb : Below w.heap.size w ((((w.alloc (.cells (arr a) 24)).alloc (.cells (arr b) 24)).alloc (.cells (arr c) 24)).alloc (.cells #[.int .u64 0, .int .u64 0, .int .u64 0, .int .u64 0] 24)) := by go_grown
  go_enter Try.func54, Try.ntmps54
  go_wp2_with fail
  with_reducible refine (cm.out _).mono ?_
  rintro e w1 ⟨rfl, h1⟩
  replace rC := ((rC.keep h1).alloc (.cells (arr p) 24)).alloc (.cells (arr h) 24)
  replace rO := ((rO.keep h1).alloc (.cells (arr p) 24)).alloc (.cells (arr h) 24)
  have rP := (Res.new w1 24 (arr p)).alloc (.cells (arr h) 24)
  have rH := Res.new (w1.alloc (.cells (arr p) 24)) 24 (arr h)
  rw [World.size_alloc] at rH
  replace bb := chain bb h1
  have sz1 := bb.size
  replace bb := (bb.alloc bb.size (.cells (arr p) 24)).alloc (by rw [World.size_alloc]; omega) (.cells (arr h) 24)
  clear rA rB
  have zC := rC.cells; have lC := rC.lt
  have zP := rP.cells; have lP := rP.lt
  have zH := rH.cells; have lH := rH.lt
  go_wp2_with fail
  with_reducible refine (cd.out _).mono ?_
  rintro e w2 ⟨rfl, h2⟩
  clear zC lC zP lP zH lH rC rP rH
  replace rO := rO.keep h2
  replace bb := chain bb h2 (by first | exact Nat.le_refl _ | (simp; done))
  have zO := rO.cells; have mO := rO.marks; have lO := rO.lt
  have lO1 := Nat.lt_succ_of_lt lO
  rw [Nat.succ_eq_add_one] at lO1
  clear rO h1 h2
  go_wp2
  refine bodyPost_ret (v := .tuple #[U q, .int .i64 k]) (by simp [results, Try.results54, go_sem, zO, lO, lO1]) rfl ⟨rfl, ?_⟩
  go_grown

theorem join_n (n : Nat) : n % B256 + n / B256 * B256 = n := by rw [Nat.mul_comm]; exact Nat.mod_add_div n B256
theorem hi_lt {a b : Nat} (ha : a < B256) (hb : b < B256) : a * b / B256 < B256 := Nat.div_lt_of_lt_mul (Nat.mul_lt_mul'' ha hb)
theorem lo_lt (n : Nat) : n % B256 < B256 := Nat.mod_lt _ B256_pos

theorem floor_any (a b c : Nat) (ha : a < B256) (hb : b < B256) (hc : c < B256) (w : World) :
    Calls Try.prog 54 #[U a, U b, U c] w fun e w' => e = .returned (.tuple #[U (quoR c (a * b / c)), .int .i64 (quoE c (a * b / c))]) ∧ Below w.heap.size w w' := by
  have h := d512_any (a * b % B256) (a * b / B256) c (lo_lt _) (hi_lt ha hb) hc
  rw [join_n] at h
  exact floor_core a b c _ _ _ _ _ w (mdmul_any a b ha hb) h

end Go.Proofs.Ytlaapbenpjopiaa

