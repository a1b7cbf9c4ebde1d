/- Plain arithmetic of words of 64 bits: shifts of numbers word by word, and what a block of words is. No Go function in this text; no conditions. Contracts of muldiv's limbAt, shiftLeft and shiftRight over this translation: a word of a row, or zero outside; the row's number times or by a power of two, in place. Nothing else changes. Contracts of math/bits.Div64 (by a divisor whose highest bit is set) and of muldiv.estimateDigit over this translation: the quotient of two words by one; an estimate that is never less than the digit. Memory that was there is as it was. Contracts of muldiv's subtractMultiple and addWide over this translation: the difference modulo 2^320 and whether it is negative; the sum modulo 2^320 and its carry. Memory that was there is as it was. Contracts of muldiv's estimateDigit and divideDigit over this translation: an estimate that is never less than the digit; the digit and the rest of a division by a number whose highest bit is set. Memory that was there is as it was. Contract of muldiv.divide over this translation: quotient and remainder of low + 2^256 * high by c, for high below c. Memory that was there is as it was. Contracts of muldiv.Div512 and DivMod over this translation: quotient and remainder, or zeros and ErrDivisionByZero or ErrOverflow. Memory that was there is as it was. Contracts of muldiv.Mul, DivMod, MulDivFloor and MulDivCeil over this translation: both halves of the product; quotient and remainder; the product's quotient rounded down and up, or zero and an error. Memory that was there is as it was. -/
import Derived.Test.YtjjplhdcffjacaaMu
import Derived.Laws.Bits64b
import Derived.StillTailTactics
import Derived.Laws.CopyRow
namespace Go.Proofs.Ytjjplhdcffjacaa
open Go.RowKit

/-- A row of words. -/
def wrow (f : Nat → Int) (L : Nat) : Array Value := ((List.range L).map fun j => Value.int .u64 (f j)).toArray
theorem wrow_size (f : Nat → Int) (L : Nat) : (wrow f L).size = L := by simp [wrow]
theorem wrow_get {f : Nat → Int} {L j : Nat} (h : j < L) : (wrow f L)[j]? = some (.int .u64 (f j)) := by simp [wrow, h]
theorem wrow_set {f g : Nat → Int} {L j : Nat} {x : Int} (hj : g j = x) (hne : ∀ i, i < L → i ≠ j → g i = f i) : (wrow f L).setIfInBounds j (.int .u64 x) = wrow g L := by
  apply Array.ext
  · simp [wrow]
  · intro i h1 h2
    have hi : i < L := by simpa [wrow] using h2
    rw [Array.getElem_setIfInBounds]
    · by_cases e : j = i
      · subst e; simp [wrow, hj]
      · rw [if_neg e]; simp [wrow, hne i hi (Ne.symm e)]
    · simpa [wrow] using hi
theorem wrow_congr {f g : Nat → Int} {L : Nat} (h : ∀ j, j < L → f j = g j) : wrow f L = wrow g L := by
  unfold wrow
  congr 1
  exact List.map_congr_left fun j hj => by rw [h j (List.mem_range.1 hj)]

/-- Only block g may have changed. -/
def Only (g : Nat) (w w' : World) : Prop :=
  w'.os = w.os ∧ w'.tape = w.tape ∧ w'.output = w.output ∧ w'.heap.size = w.heap.size ∧ ∀ k, k ≠ g → w'.heap[k]? = w.heap[k]?
theorem Only.os {g : Nat} {w w' : World} (h : Only g w w') : w'.os = w.os := h.1
theorem Only.tape {g : Nat} {w w' : World} (h : Only g w w') : w'.tape = w.tape := h.2.1
theorem Only.output {g : Nat} {w w' : World} (h : Only g w w') : w'.output = w.output := h.2.2.1
theorem Only.size {g : Nat} {w w' : World} (h : Only g w w') : w'.heap.size = w.heap.size := h.2.2.2.1
theorem Only.block {g : Nat} {w w' : World} (h : Only g w w') : ∀ k, k ≠ g → w'.heap[k]? = w.heap[k]? := h.2.2.2.2
theorem Only.refl (g : Nat) (w : World) : Only g w w := ⟨rfl, rfl, rfl, rfl, fun _ _ => rfl⟩
theorem Only.drew {g : Nat} {w w' : World} (h : Only g w w') : Only g w w'.drew := ⟨h.os, h.tape, h.output, h.size, h.block⟩
theorem Only.drewN {g : Nat} {w w' : World} (h : Only g w w') (n : Nat) : Only g w (w'.drewN n) := ⟨h.os, h.tape, h.output, h.size, h.block⟩
theorem Only.setCell {g : Nat} {w w' : World} (h : Only g w w') (i : Nat) (x : Value) : Only g w (w'.setCell ⟨g, i, none⟩ x) :=
  ⟨h.os, h.tape, h.output, by simp [World.setCell, h.size], fun k hk => (Below.heap_setCell _ _ _ _ hk).trans (h.block k hk)⟩
theorem Only.below {g B : Nat} {w w' : World} (h : Only g w w') (hB : B ≤ g) : Below B w w' :=
  ⟨h.os, h.tape, h.output, by rw [h.size]; exact Nat.le_refl _, fun k hk => h.block k (by omega)⟩
theorem Res.only {g g' : Nat} {t : TypeId} {c : Array Value} {w w' : World} (h : Res g t c w) (k : Only g' w w') (hg : g ≠ g') : Res g t c w' := (k.block g hg).trans h
theorem Res.setw {g : Nat} {t : TypeId} {c : Array Value} {w : World} (h : Res g t c w) (i : Nat) (x : Value) : Res g t (c.setIfInBounds i x) (w.setCell ⟨g, i, none⟩ x) := by
  unfold Res at h ⊢
  simp [World.setCell, Array.getElem?_modify, h]

/-! ### Words -/
def word (n i : Nat) : Nat := n / 18446744073709551616 ^ i % 18446744073709551616
theorem limb_word (n i : Nat) : limb n i = (word n i : Int) := rfl
theorem pow64 (i : Nat) : 18446744073709551616 ^ i = 2 ^ (64 * i) := by rw [Nat.pow_mul]
theorem word_bit (n i b : Nat) : (word n i).testBit b = (decide (b < 64) && n.testBit (64 * i + b)) := by
  unfold word
  rw [pow64, show (18446744073709551616 : Nat) = 2 ^ 64 from rfl, Nat.testBit_mod_two_pow, Nat.testBit_div_two_pow, Nat.add_comm b]
theorem word_ge {n L i : Nat} (h : n < 18446744073709551616 ^ L) (hi : L ≤ i) : word n i = 0 := by
  unfold word
  rw [Nat.div_eq_of_lt (Nat.lt_of_lt_of_le h (Nat.pow_le_pow_right (by omega) hi))]
/-- What limbAt reads: nothing below the first word. -/
def wordAt (n : Nat) (i : Int) : Nat := if 0 ≤ i then word n i.toNat else 0

theorem shl_word (n wh p j : Nat) (hp : p < 64) :
    word (n * 2 ^ (64 * wh + p)) j = (wordAt n ((j : Int) - wh) * 2 ^ p % 18446744073709551616) ||| (wordAt n ((j : Int) - wh - 1) / 2 ^ (64 - p)) := by
  apply Nat.eq_of_testBit_eq
  intro b
  rw [word_bit, Nat.testBit_or, show (18446744073709551616 : Nat) = 2 ^ 64 from rfl, Nat.testBit_mod_two_pow, Nat.testBit_mul_two_pow, Nat.testBit_div_two_pow, Nat.testBit_mul_two_pow]
  unfold wordAt
  by_cases hb : b < 64
  · by_cases hpb : p ≤ b
    · have e2 : ∀ (x : Int), (if 0 ≤ x then word n x.toNat else 0).testBit (b + (64 - p)) = false := by
        intro x
        split
        · rw [word_bit, decide_eq_false (by omega)]; rfl
        · simp
      rw [e2]
      by_cases hj : wh ≤ j
      · rw [if_pos (by omega), word_bit, show ((j : Int) - wh).toNat = j - wh by omega]
        rw [decide_eq_true hb, decide_eq_true (by omega : 64 * wh + p ≤ 64 * j + b), decide_eq_true (by omega : p ≤ b), decide_eq_true (by omega : b - p < 64)]
        rw [show 64 * j + b - (64 * wh + p) = 64 * (j - wh) + (b - p) by omega]
        simp
      · rw [if_neg (by omega), decide_eq_false (by omega : ¬ 64 * wh + p ≤ 64 * j + b)]
        simp
    · rw [decide_eq_false (by omega : ¬ p ≤ b)]
      by_cases hj : wh + 1 ≤ j
      · rw [if_pos (by omega : 0 ≤ (j : Int) - wh - 1), word_bit, show ((j : Int) - wh - 1).toNat = j - wh - 1 by omega]
        rw [decide_eq_true hb, decide_eq_true (by omega : 64 * wh + p ≤ 64 * j + b), decide_eq_true (by omega : b + (64 - p) < 64)]
        rw [show 64 * j + b - (64 * wh + p) = 64 * (j - wh - 1) + (b + (64 - p)) by omega]
        simp
      · rw [if_neg (by omega : ¬ 0 ≤ (j : Int) - wh - 1), decide_eq_false (by omega : ¬ 64 * wh + p ≤ 64 * j + b)]
        simp
  · rw [decide_eq_false hb]
    have e2 : ∀ (x : Int), (if 0 ≤ x then word n x.toNat else 0).testBit (b + (64 - p)) = false := by
      intro x
      split
      · rw [word_bit, decide_eq_false (by omega)]; rfl
      · simp
    rw [e2]; simp

theorem shr_word (n wh p j : Nat) (hp : p < 64) :
    word (n / 2 ^ (64 * wh + p)) j = (word n (j + wh) / 2 ^ p) ||| (word n (j + wh + 1) * 2 ^ (64 - p) % 18446744073709551616) := by
  apply Nat.eq_of_testBit_eq
  intro b
  rw [word_bit, Nat.testBit_or, show (18446744073709551616 : Nat) = 2 ^ 64 from rfl, Nat.testBit_mod_two_pow, Nat.testBit_mul_two_pow, Nat.testBit_div_two_pow, Nat.testBit_div_two_pow, word_bit, word_bit]
  by_cases hb : b < 64
  · by_cases hpb : b + p < 64
    · rw [decide_eq_true hb, decide_eq_true hpb, decide_eq_false (by omega : ¬ 64 - p ≤ b)]
      rw [show 64 * j + b + (64 * wh + p) = 64 * (j + wh) + (b + p) by omega]
      simp
    · rw [decide_eq_true hb, decide_eq_false hpb, decide_eq_true (by omega : 64 - p ≤ b), decide_eq_true (by omega : b - (64 - p) < 64)]
      rw [show 64 * j + b + (64 * wh + p) = 64 * (j + wh + 1) + (b - (64 - p)) by omega]
      simp
  · rw [decide_eq_false hb, decide_eq_false (by omega : ¬ b + p < 64)]
    simp

end Go.Proofs.Ytjjplhdcffjacaa

namespace Go.Proofs.Ytjjplhdcffjacaa
open Go.RowKit

theorem stillOf {P : Program} {f : FuncId} {args : Array Value} {w : World} {v : Value} (h : Calls P f args w fun e w' => e = .returned v ∧ w = w') : Calls P f args w fun e w' => e = .returned v ∧ w' = w :=
  h.mono fun _ _ h => ⟨h.1, h.2.symm⟩

theorem word_lt (n i : Nat) : word n i < 18446744073709551616 := Nat.mod_lt _ (by omega)
theorem wordAt_lt (n : Nat) (i : Int) : wordAt n i < 18446744073709551616 := by unfold wordAt; split; exact word_lt _ _; omega
theorem shl_bits (n wh p j : Nat) (hp : p < 64) :
    bits .or .u64 (IntKind.u64.wrap (((wordAt n ((j : Int) - wh) : Nat) : Int) * 2 ^ p)) (((wordAt n ((j : Int) - wh - 1) : Nat) : Int) / 2 ^ (64 - p)) = limb (n * 2 ^ (64 * wh + p)) j := by
  have h1 : IntKind.u64.wrap (((wordAt n ((j : Int) - wh) : Nat) : Int) * 2 ^ p) = ((wordAt n ((j : Int) - wh) * 2 ^ p % 18446744073709551616 : Nat) : Int) := by
    rw [IntKind.wrap_u64]; simp
  have h2 : ((wordAt n ((j : Int) - wh - 1) : Nat) : Int) / 2 ^ (64 - p) = ((wordAt n ((j : Int) - wh - 1) / 2 ^ (64 - p) : Nat) : Int) := by simp
  rw [h1, h2, bits_or_u64_nat _ _ (Nat.mod_lt _ (by omega)) (Nat.lt_of_le_of_lt (Nat.div_le_self _ _) (wordAt_lt _ _)), limb_word, shl_word n wh p j hp]

/-- The row while it is shifted left: below k the old words. -/
def slF (n s k : Nat) : Nat → Int := fun j => if j < k then limb n j else limb (n * 2 ^ s) j
theorem slF_set (n s k L : Nat) : (wrow (slF n s (k + 1)) L).setIfInBounds k (.int .u64 (limb (n * 2 ^ s) k)) = wrow (slF n s k) L :=
  wrow_set (by simp [slF]) fun i _ hne => by
    unfold slF
    by_cases h : i < k
    · rw [if_pos h, if_pos (by omega)]
    · rw [if_neg h, if_neg (by omega)]
theorem slF_top (n s L : Nat) : wrow (limb n) L = wrow (slF n s L) L := wrow_congr fun j hj => by simp [slF, hj]
theorem slF_zero (n s L : Nat) : wrow (slF n s 0) L = wrow (limb (n * 2 ^ s)) L := wrow_congr fun j _ => by simp [slF]

theorem shr_bits (n wh p j : Nat) (hp : p < 64) :
    bits .or .u64 (((word n (j + wh) : Nat) : Int) / 2 ^ p) (IntKind.u64.wrap (((word n (j + wh + 1) : Nat) : Int) * 2 ^ (64 - p))) = limb (n / 2 ^ (64 * wh + p)) j := by
  have h1 : IntKind.u64.wrap (((word n (j + wh + 1) : Nat) : Int) * 2 ^ (64 - p)) = ((word n (j + wh + 1) * 2 ^ (64 - p) % 18446744073709551616 : Nat) : Int) := by
    rw [IntKind.wrap_u64]; simp
  have h2 : ((word n (j + wh) : Nat) : Int) / 2 ^ p = ((word n (j + wh) / 2 ^ p : Nat) : Int) := by simp
  rw [h1, h2, bits_or_u64_nat _ _ (Nat.lt_of_le_of_lt (Nat.div_le_self _ _) (word_lt _ _)) (Nat.mod_lt _ (by omega)), limb_word, shr_word n wh p j hp]

/-- The row while it is shifted right: below k the new words. -/
def srF (n s k : Nat) : Nat → Int := fun j => if j < k then limb (n / 2 ^ s) j else limb n j
theorem srF_set (n s k L : Nat) : (wrow (srF n s k) L).setIfInBounds k (.int .u64 (limb (n / 2 ^ s) k)) = wrow (srF n s (k + 1)) L :=
  wrow_set (by simp [srF]) fun i _ hne => by
    unfold srF
    by_cases h : i < k
    · rw [if_pos h, if_pos (by omega)]
    · rw [if_neg h, if_neg (by omega)]
theorem srF_zero (n s L : Nat) : wrow (limb n) L = wrow (srF n s 0) L := wrow_congr fun j _ => by simp [srF]
theorem srF_top (n s L : Nat) : wrow (srF n s L) L = wrow (limb (n / 2 ^ s)) L := wrow_congr fun j hj => by simp [srF, hj]

end Go.Proofs.Ytjjplhdcffjacaa

namespace Go.Proofs.Ytjjplhdcffjacaa
open Go.RowKit

/-! ### Half a step: two half words by a word -/
theorem half_eq {v1 v0 u Q R y : Nat} (hy : y = v1 * 4294967296 + v0) (hQ : Q * v1 + R = u) : Q * y + R * 4294967296 = u * 4294967296 + Q * v0 := by
  subst hy; subst hQ
  rw [Nat.mul_add, ← Nat.mul_assoc, Nat.add_mul]
  omega
theorem half_le {v1 v0 u d Q R y : Nat} (hy : y = v1 * 4294967296 + v0) (hy0 : 0 < y) (hQ : Q * v1 + R = u) (h : Q * v0 ≤ 4294967296 * R + d) : Q ≤ (u * 4294967296 + d) / y := by
  have E := half_eq hy hQ
  rw [Nat.le_div_iff_mul_le hy0]
  omega
theorem half_gt {v1 v0 u d Q R y : Nat} (hy : y = v1 * 4294967296 + v0) (hy0 : 0 < y) (hQ : Q * v1 + R = u) (h : 4294967296 * R + d < Q * v0) : (u * 4294967296 + d) / y < Q := by
  have E := half_eq hy hQ
  rw [Nat.div_lt_iff_lt_mul hy0]
  omega
theorem half_lt {u d y : Nat} (hu : u < y) (hd : d < 4294967296) : (u * 4294967296 + d) / y < 4294967296 := by
  rw [Nat.div_lt_iff_lt_mul (by omega), Nat.mul_comm 4294967296 y]
  have h : (u + 1) * 4294967296 ≤ y * 4294967296 := Nat.mul_le_mul_right _ hu
  omega
/-- Where the rest has grown past half a word the estimate is the digit. -/
theorem half_break {v1 v0 u d Q R y : Nat} (hy : y = v1 * 4294967296 + v0) (hv0 : v0 < 4294967296) (hu : u < y) (hQ : Q * v1 + R = u) (hR : 4294967296 ≤ R) : Q ≤ (u * 4294967296 + d) / y := by
  have hq : Q < 4294967296 := by
    rcases Nat.lt_or_ge Q 4294967296 with h | h
    · exact h
    · have h1 : 4294967296 * v1 ≤ Q * v1 := Nat.mul_le_mul_right _ h
      omega
  have h2 : Q * v0 ≤ 4294967296 * 4294967296 := Nat.mul_le_mul (by omega) (by omega)
  refine half_le hy (by omega) hQ ?_
  omega
theorem half_step {v1 u Q R : Nat} (hQ : Q * v1 + R = u) (h : 0 < Q) : (Q - 1) * v1 + (R + v1) = u := by
  obtain ⟨q, rfl⟩ : ∃ q, Q = q + 1 := ⟨Q - 1, by omega⟩
  rw [Nat.add_mul] at hQ
  simp only [Nat.add_sub_cancel]
  omega
theorem start_le {v1 v0 u d Q R y : Nat} (hy : y = v1 * 4294967296 + v0) (h : 0 < v1 ∧ R < v1 ∧ d < 4294967296) (hQ : Q * v1 + R = u) : (u * 4294967296 + d) / y ≤ Q := by
  have E := half_eq hy hQ
  have h2 : u * 4294967296 + d < (Q + 1) * y := by
    have e : (Q + 1) * y = Q * y + y := by rw [Nat.add_mul, Nat.one_mul]
    have e2 : (R + 1) * 4294967296 ≤ v1 * 4294967296 := Nat.mul_le_mul_right _ h.2.1
    omega
  have h3 := (Nat.div_lt_iff_lt_mul (by omega : 0 < y)).2 h2
  omega
theorem q_bound {v1 v0 u Q R y : Nat} (hy : y = v1 * 4294967296 + v0) (hv0 : v0 < 4294967296) (hv1 : 2147483648 ≤ v1) (hu : u < y) (hQ : Q * v1 + R = u) : Q ≤ 8589934592 := by
  rcases Nat.lt_or_ge 8589934592 Q with h | h
  · have h1 : 8589934593 * v1 ≤ Q * v1 := Nat.mul_le_mul_right _ h
    omega
  · exact h
/-- The two halves together. -/
theorem half_join (u d1 d0 y : Nat) (hy : 0 < y) :
    (u * 18446744073709551616 + (d1 * 4294967296 + d0)) / y = (u * 4294967296 + d1) / y * 4294967296 + ((u * 4294967296 + d1) % y * 4294967296 + d0) / y := by
  obtain ⟨q, hq⟩ : ∃ q, q = (u * 4294967296 + d1) / y := ⟨_, rfl⟩
  obtain ⟨r, hr⟩ : ∃ r, r = (u * 4294967296 + d1) % y := ⟨_, rfl⟩
  have h : y * q + r = u * 4294967296 + d1 := by rw [hq, hr]; exact Nat.div_add_mod _ y
  rw [← hq, ← hr]
  have e : u * 18446744073709551616 + (d1 * 4294967296 + d0) = r * 4294967296 + d0 + y * (q * 4294967296) := by
    rw [← Nat.mul_assoc]
    omega
  rw [e, Nat.add_mul_div_left _ _ hy]
  omega

theorem and32 (x a b : Nat) (h : x = a * 4294967296 + b) (hb : b < 4294967296) (hx : x < 18446744073709551616) : bits BinOp.and IntKind.u64 (x : Int) 4294967295 = (b : Int) := by
  have e := bits_and_u64_nat x 4294967295 hx (by omega)
  have e2 : x &&& 4294967295 = x % 4294967296 := Nat.and_two_pow_sub_one_eq_mod x 32
  rw [e2] at e
  rw [show bits BinOp.and IntKind.u64 (x : Int) 4294967295 = ((x % 4294967296 : Nat) : Int) from e]
  omega
theorem or0 (x : Nat) (hx : x < 18446744073709551616) : bits BinOp.or IntKind.u64 (x : Int) 0 = (x : Int) := by
  have e := bits_or_u64_nat x 0 hx (by omega)
  rw [Nat.or_zero] at e
  exact e

end Go.Proofs.Ytjjplhdcffjacaa

namespace Go.Proofs.Ytjjplhdcffjacaa
open Go.RowKit

/-- 2^320. -/
def B320 : Nat := 2135987035920910082395021706169552114602704522356652769947041607822219725780640550022962086936576
/-- A number of five words. -/
abbrev W5 (n : Nat) : Value := .agg #[.int .u64 (limb n 0), .int .u64 (limb n 1), .int .u64 (limb n 2), .int .u64 (limb n 3), .int .u64 (limb n 4)]
theorem limb4 (n : Nat) : limb n 4 = ((n / 115792089237316195423570985008687907853269984665640564039457584007913129639936 % 18446744073709551616 : Nat) : Int) := by simp [limb]
theorem limb_of5 {n : Nat} {x0 x1 x2 x3 x4 : Int} (a0 : 0 ≤ x0) (b0 : x0 < 18446744073709551616) (a1 : 0 ≤ x1) (b1 : x1 < 18446744073709551616) (a2 : 0 ≤ x2) (b2 : x2 < 18446744073709551616) (a3 : 0 ≤ x3) (b3 : x3 < 18446744073709551616) (a4 : 0 ≤ x4) (b4 : x4 < 18446744073709551616)
    (h : (n : Int) = x0 + 18446744073709551616 * x1 + 340282366920938463463374607431768211456 * x2 + 6277101735386680763835789423207666416102355444464034512896 * x3 + 115792089237316195423570985008687907853269984665640564039457584007913129639936 * x4) :
    x0 = limb n 0 ∧ x1 = limb n 1 ∧ x2 = limb n 2 ∧ x3 = limb n 3 ∧ x4 = limb n 4 := by
  rw [limb0, limb1, limb2, limb3, limb4]; omega
theorem W5_of {n : Nat} {x0 x1 x2 x3 x4 : Int} (h : x0 = limb n 0 ∧ x1 = limb n 1 ∧ x2 = limb n 2 ∧ x3 = limb n 3 ∧ x4 = limb n 4) : W5 n = .agg #[.int .u64 x0, .int .u64 x1, .int .u64 x2, .int .u64 x3, .int .u64 x4] := by
  obtain ⟨h0, h1, h2, h3, h4⟩ := h
  rw [W5, h0, h1, h2, h3, h4]
theorem limb_sum5 {n : Nat} (h : n < B320) : (n : Int) = limb n 0 + 18446744073709551616 * limb n 1 + 340282366920938463463374607431768211456 * limb n 2 + 6277101735386680763835789423207666416102355444464034512896 * limb n 3 + 115792089237316195423570985008687907853269984665640564039457584007913129639936 * limb n 4 := by
  rw [limb0, limb1, limb2, limb3, limb4]; unfold B320 at h; omega

/-! ### subtractMultiple -/
theorem prod4 (c0 c1 c2 c3 q : Int) : (c0 + 18446744073709551616 * c1 + 340282366920938463463374607431768211456 * c2 + 6277101735386680763835789423207666416102355444464034512896 * c3) * q = c0 * q + 18446744073709551616 * (c1 * q) + 340282366920938463463374607431768211456 * (c2 * q) + 6277101735386680763835789423207666416102355444464034512896 * (c3 * q) := by
  rw [Int.add_mul, Int.add_mul, Int.add_mul, Int.mul_assoc, Int.mul_assoc, Int.mul_assoc]

/-- The difference modulo 2^320, and whether it is negative. -/
def subW (n m : Nat) : Nat := if n < m then n + B320 - m else n - m

end Go.Proofs.Ytjjplhdcffjacaa

namespace Go.Proofs.Ytjjplhdcffjacaa
open Go.RowKit

/-- An estimate that is never less than the digit. -/
def Est (r c q : Nat) : Prop := q < 18446744073709551616 ∧ ∀ n, n < 18446744073709551616 → (r * 18446744073709551616 + n) / c ≤ q

theorem est_top {r c : Nat} (h : r < c) : Est r c 18446744073709551615 := by
  refine ⟨by omega, fun n hn => ?_⟩
  have h1 : (r * 18446744073709551616 + n) / c < 18446744073709551616 := by
    rw [Nat.div_lt_iff_lt_mul (by omega)]
    have : (r + 1) * 18446744073709551616 ≤ c * 18446744073709551616 := Nat.mul_le_mul_right _ h
    omega
  omega
theorem est_quo {r c r3 r2 c3 : Nat} (hc : c3 * 6277101735386680763835789423207666416102355444464034512896 ≤ c) (h3 : 0 < c3) (hr : r < (r3 * 18446744073709551616 + r2 + 1) * 340282366920938463463374607431768211456) (h : r3 < c3) (h2 : r2 < 18446744073709551616) :
    Est r c ((r3 * 18446744073709551616 + r2) / c3) := by
  refine ⟨?_, fun n hn => ?_⟩
  · rw [Nat.div_lt_iff_lt_mul h3]
    have : (r3 + 1) * 18446744073709551616 ≤ c3 * 18446744073709551616 := Nat.mul_le_mul_right _ h
    omega
  · obtain ⟨Q, hQ⟩ : ∃ q, q = (r * 18446744073709551616 + n) / c := ⟨_, rfl⟩
    rw [← hQ, Nat.le_div_iff_mul_le h3]
    have e1 : Q * c ≤ r * 18446744073709551616 + n := by rw [hQ]; exact Nat.div_mul_le_self _ _
    have e2 : Q * (c3 * 6277101735386680763835789423207666416102355444464034512896) ≤ Q * c := Nat.mul_le_mul_left _ hc
    rw [← Nat.mul_assoc] at e2
    generalize Q * c3 = z at *
    generalize Q * c = y at *
    omega

/-! ### divideDigit -/
/-- The difference is negative. -/
def neg (N c q : Nat) : Bool := decide (N < c * q)
/-- The five cells of a number. -/
abbrev five (n : Nat) : Array Value := #[.int .u64 (limb n 0), .int .u64 (limb n 1), .int .u64 (limb n 2), .int .u64 (limb n 3), .int .u64 (limb n 4)]
theorem Res.put5 {g : Nat} {t : TypeId} {c0 c1 c2 c3 c4 : Value} {w : World} (h : Res g t #[c0, c1, c2, c3, c4] w) (x0 x1 x2 x3 x4 : Value) :
    Res g t #[x0, x1, x2, x3, x4] (((((w.setCell ⟨g, 0, none⟩ x0).setCell ⟨g, 1, none⟩ x1).setCell ⟨g, 2, none⟩ x2).setCell ⟨g, 3, none⟩ x3).setCell ⟨g, 4, none⟩ x4) :=
  ((((h.setw 0 x0).setw 1 x1).setw 2 x2).setw 3 x3).setw 4 x4
theorem Res.far5 {g g' : Nat} {t : TypeId} {c : Array Value} {w : World} (h : Res g t c w) (x0 x1 x2 x3 x4 : Value) (hg : g ≠ g') :
    Res g t c (((((w.setCell ⟨g', 0, none⟩ x0).setCell ⟨g', 1, none⟩ x1).setCell ⟨g', 2, none⟩ x2).setCell ⟨g', 3, none⟩ x3).setCell ⟨g', 4, none⟩ x4) := by
  unfold Res at h ⊢
  rw [Below.heap_setCell _ _ _ _ hg, Below.heap_setCell _ _ _ _ hg, Below.heap_setCell _ _ _ _ hg, Below.heap_setCell _ _ _ _ hg, Below.heap_setCell _ _ _ _ hg]; exact h
theorem dd_step {N c q p : Nat} (h : neg N c q = true) (hp : q = p + 1) (hc : c < B256) (hq : q < 18446744073709551616) :
    (subW N (c * q) + c) % B320 = subW N (c * p) ∧ decide (B320 ≤ subW N (c * q) + c) = !neg N c p := by
  subst hp
  have h1 : N < c * (p + 1) := by simpa [neg] using h
  have h2 : c * (p + 1) ≤ 115792089237316195423570985008687907853269984665640564039457584007913129639936 * 18446744073709551616 := Nat.mul_le_mul (by unfold B256 at hc; omega) (by omega)
  unfold neg subW
  rw [if_pos h1]
  rw [Nat.mul_add, Nat.mul_one] at *
  unfold B320
  unfold B256 at hc
  generalize c * p = z at *
  by_cases h3 : N < z
  · rw [if_pos h3, decide_eq_true h3]
    refine ⟨by omega, ?_⟩
    rw [decide_eq_false (by omega)]; rfl
  · rw [if_neg h3, decide_eq_false h3]
    refine ⟨by omega, ?_⟩
    rw [decide_eq_true (by omega)]; rfl
theorem dd_end {N c q : Nat} (h : neg N c q = false) (hq : N / c ≤ q) (hc : 0 < c) : q = N / c ∧ subW N (c * q) = N % c := by
  have h1 : ¬ N < c * q := by simpa [neg] using h
  have h2 : q ≤ N / c := by rw [Nat.le_div_iff_mul_le hc, Nat.mul_comm]; omega
  have h3 : q = N / c := Nat.le_antisymm h2 hq
  refine ⟨h3, ?_⟩
  unfold subW
  rw [if_neg h1, h3]
  have := Nat.div_add_mod N c
  omega
theorem subW_lt {N m : Nat} (hN : N < B320) : subW N m < B320 := by
  unfold subW; split <;> omega

end Go.Proofs.Ytjjplhdcffjacaa

namespace Go.Proofs.Ytjjplhdcffjacaa
open Go.RowKit

/-- The eight words of a number. -/
abbrev row8 (n : Nat) : Array Value := #[.int .u64 (limb n 0), .int .u64 (limb n 1), .int .u64 (limb n 2), .int .u64 (limb n 3), .int .u64 (limb n 4), .int .u64 (limb n 5), .int .u64 (limb n 6), .int .u64 (limb n 7)]
theorem join_limbs (low high : Nat) :
    limb (low + high * B256) 0 = limb low 0 ∧ limb (low + high * B256) 1 = limb low 1 ∧ limb (low + high * B256) 2 = limb low 2 ∧ limb (low + high * B256) 3 = limb low 3 := by
  unfold B256 at *
  simp only [limb0, limb1, limb2, limb3]
  omega
theorem high_limbs (n : Nat) : limb n 4 = limb (n / B256) 0 ∧ limb n 5 = limb (n / B256) 1 ∧ limb n 6 = limb (n / B256) 2 ∧ limb n 7 = limb (n / B256) 3 := by
  have e : ∀ i, limb n (4 + i) = limb (n / B256) i := fun i => by
    unfold limb
    rw [Nat.pow_add, Nat.div_div_eq_div_mul]
    rfl
  exact ⟨e 0, e 1, e 2, e 3⟩
theorem join_high (low high : Nat) (hl : low < B256) : (low + high * B256) / B256 = high := by
  rw [Nat.add_mul_div_right _ _ B256_pos, Nat.div_eq_of_lt hl, Nat.zero_add]
theorem row8_join (low high : Nat) (hl : low < B256) :
    #[.int .u64 (limb low 0), .int .u64 (limb low 1), .int .u64 (limb low 2), .int .u64 (limb low 3), .int .u64 (limb high 0), .int .u64 (limb high 1), .int .u64 (limb high 2), .int .u64 (limb high 3)] = row8 (low + high * B256) := by
  obtain ⟨a0, a1, a2, a3⟩ := join_limbs low high
  obtain ⟨b0, b1, b2, b3⟩ := high_limbs (low + high * B256)
  rw [join_high low high hl] at b0 b1 b2 b3
  rw [row8, a0, a1, a2, a3, b0, b1, b2, b3]
/-- The eight words of a number, the upper four as those of the upper half. -/
abbrev row44 (n m : Nat) : Array Value := #[.int .u64 (limb n 0), .int .u64 (limb n 1), .int .u64 (limb n 2), .int .u64 (limb n 3), .int .u64 (limb m 0), .int .u64 (limb m 1), .int .u64 (limb m 2), .int .u64 (limb m 3)]
theorem row8_high (n m : Nat) (h : m = n / B256) : row8 n = row44 n m := by
  subst h
  obtain ⟨b0, b1, b2, b3⟩ := high_limbs n
  rw [row8, b0, b1, b2, b3]
/-- What is left of n by d behind the digits from k on. -/
def rk (n d k : Nat) : Nat := n / 18446744073709551616 ^ k % d
/-- The quotient's words from k on. -/
def qF (q k : Nat) : Nat → Int := fun j => if j < k then 0 else limb q j
theorem qF_set (q k L : Nat) : (wrow (qF q (k + 1)) L).setIfInBounds k (.int .u64 (limb q k)) = wrow (qF q k) L :=
  wrow_set (by simp [qF]) fun i _ hne => by
    unfold qF
    by_cases h : i < k
    · rw [if_pos h, if_pos (by omega)]
    · rw [if_neg h, if_neg (by omega)]
theorem qF_top (q : Nat) : wrow (qF q 4) 4 = #[.int .u64 0, .int .u64 0, .int .u64 0, .int .u64 0] := rfl
theorem qF_zero (q : Nat) : wrow (qF q 0) 4 = arr q := by
  rw [show wrow (qF q 0) 4 = wrow (limb q) 4 from wrow_congr fun j _ => by simp [qF]]
  rfl
theorem row44_get {n m j : Nat} (h : j < 4) : (row44 n m)[j]? = some (.int .u64 (limb n j)) := by
  match j, h with
  | 0, _ => rfl
  | 1, _ => rfl
  | 2, _ => rfl
  | 3, _ => rfl
theorem Res.put4' {g : Nat} {t : TypeId} {c0 c1 c2 c3 : Value} {w : World} (h : Res g t #[c0, c1, c2, c3] w) (x0 x1 x2 x3 : Value) :
    Res g t #[x0, x1, x2, x3] ((((w.setCell ⟨g, 0, none⟩ x0).setCell ⟨g, 1, none⟩ x1).setCell ⟨g, 2, none⟩ x2).setCell ⟨g, 3, none⟩ x3) :=
  (((h.setw 0 x0).setw 1 x1).setw 2 x2).setw 3 x3
theorem Res.far1' {g g' : Nat} {t : TypeId} {c : Array Value} {w : World} (h : Res g t c w) (i : Nat) (x : Value) (hg : g ≠ g') : Res g t c (w.setCell ⟨g', i, none⟩ x) := by
  unfold Res at h ⊢
  rw [Below.heap_setCell _ _ _ _ hg]; exact h
theorem Res.far4' {g g' : Nat} {t : TypeId} {c : Array Value} {w : World} (h : Res g t c w) (x0 x1 x2 x3 : Value) (hg : g ≠ g') :
    Res g t c ((((w.setCell ⟨g', 0, none⟩ x0).setCell ⟨g', 1, none⟩ x1).setCell ⟨g', 2, none⟩ x2).setCell ⟨g', 3, none⟩ x3) :=
  (((h.far1' 0 x0 hg).far1' 1 x1 hg).far1' 2 x2 hg).far1' 3 x3 hg
theorem below5 {B : Nat} {w w' : World} (h : Below B w w') (g i : Nat) (x y0 y1 y2 y3 : Value) (hg : B ≤ g) :
    Below B w (((((w'.setCell ⟨g, i, none⟩ x).setCell ⟨g + 1, 0, none⟩ y0).setCell ⟨g + 1, 1, none⟩ y1).setCell ⟨g + 1, 2, none⟩ y2).setCell ⟨g + 1, 3, none⟩ y3) :=
  ((((h.setCell hg _).setCell (Nat.le_succ_of_le hg) _).setCell (Nat.le_succ_of_le hg) _).setCell (Nat.le_succ_of_le hg) _).setCell (Nat.le_succ_of_le hg) _
theorem only_setRow (w : World) (g : Nat) (cs : Array Value) : Only g w (w.setRow g cs) :=
  ⟨rfl, rfl, rfl, by simp [World.setRow], fun k hk => setRow_other w g k cs hk⟩
end Go.Proofs.Ytjjplhdcffjacaa

namespace Go.Proofs.Ytjjplhdcffjacaa
open Go.RowKit

theorem rk_lt {n d k : Nat} (h : 0 < d) : rk n d k < d := Nat.mod_lt _ h
theorem rk_step (n d k : Nat) (h : 0 < d) :
    (rk n d (k + 1) * 18446744073709551616 + word n k) / d = word (n / d) k ∧ (rk n d (k + 1) * 18446744073709551616 + word n k) % d = rk n d k := by
  have e : n / 18446744073709551616 ^ k = n / 18446744073709551616 ^ (k + 1) * 18446744073709551616 + word n k := by
    unfold word
    rw [Nat.pow_succ, ← Nat.div_div_eq_div_mul]
    generalize n / 18446744073709551616 ^ k = x
    omega
  have e2 : n / d / 18446744073709551616 ^ k = n / 18446744073709551616 ^ k / d := by rw [Nat.div_div_eq_div_mul, Nat.div_div_eq_div_mul, Nat.mul_comm]
  unfold rk
  rw [show word (n / d) k = n / d / 18446744073709551616 ^ k % 18446744073709551616 from rfl, e2, e]
  have hw := word_lt n k
  generalize word n k = x at *
  obtain ⟨A, hA⟩ : ∃ A, A = n / 18446744073709551616 ^ (k + 1) := ⟨_, rfl⟩
  rw [← hA]
  clear hA e e2
  have hd := Nat.div_add_mod A d
  obtain ⟨q, hq⟩ : ∃ q, q = A / d := ⟨_, rfl⟩
  obtain ⟨r, hr⟩ : ∃ r, r = A % d := ⟨_, rfl⟩
  rw [← hq, ← hr] at hd
  rw [← hr]
  have hrd : r < d := by rw [hr]; exact Nat.mod_lt _ h
  clear hq hr
  subst hd
  have f : (d * q + r) * 18446744073709551616 + x = r * 18446744073709551616 + x + d * (q * 18446744073709551616) := by
    rw [← Nat.mul_assoc]
    omega
  rw [f, Nat.add_mul_div_left _ _ h, Nat.add_mul_mod_self_left]
  have g : (r * 18446744073709551616 + x) / d < 18446744073709551616 := by
    rw [Nat.div_lt_iff_lt_mul h, Nat.mul_comm]
    have : (r + 1) * 18446744073709551616 ≤ d * 18446744073709551616 := Nat.mul_le_mul_right _ hrd
    omega
  refine ⟨?_, rfl⟩
  generalize (r * 18446744073709551616 + x) / d = y at *
  omega

/-! ### Div512 -/
end Go.Proofs.Ytjjplhdcffjacaa

namespace Go.Proofs.Ytjjplhdcffjacaa
open Go.RowKit

theorem join_n (n : Nat) : n % B256 + n / B256 * B256 = n := by rw [Nat.mul_comm]; exact Nat.mod_add_div n B256
theorem hi_lt {a b : Nat} (ha : a < B256) (hb : b < B256) : a * b / B256 < B256 := Nat.div_lt_of_lt_mul (Nat.mul_lt_mul'' ha hb)
theorem lo_lt (n : Nat) : n % B256 < B256 := Nat.mod_lt _ B256_pos

end Go.Proofs.Ytjjplhdcffjacaa

