/- Plain arithmetic of words of 64 bits: shifts of numbers word by word, and what a block of words is. No Go function in this text; no conditions. -/
import Derived.Test.YtkionnggdncncaaDoorUh
import Derived.Laws.Bits64b
namespace Go.Proofs.YtkionnggdncncaaDoor
open Go.RowKit

/-- A row of words. -/
def wrow (f : Nat → Int) (L : Nat) : Array Value := ((List.range L).map fun j => Value.int .u64 (f j)).toArray
theorem wrow_size (f : Nat → Int) (L : Nat) : (wrow f L).size = L := by simp [wrow]
theorem wrow_get {f : Nat → Int} {L j : Nat} (h : j < L) : (wrow f L)[j]? = some (.int .u64 (f j)) := by simp [wrow, h]
theorem wrow_set {f g : Nat → Int} {L j : Nat} {x : Int} (hj : g j = x) (hne : ∀ i, i < L → i ≠ j → g i = f i) : (wrow f L).setIfInBounds j (.int .u64 x) = wrow g L := by
  apply Array.ext
  · simp [wrow]
  · intro i h1 h2
    have hi : i < L := by simpa [wrow] using h2
    rw [Array.getElem_setIfInBounds]
    · by_cases e : j = i
      · subst e; simp [wrow, hj]
      · rw [if_neg e]; simp [wrow, hne i hi (Ne.symm e)]
    · simpa [wrow] using hi
theorem wrow_congr {f g : Nat → Int} {L : Nat} (h : ∀ j, j < L → f j = g j) : wrow f L = wrow g L := by
  unfold wrow
  congr 1
  exact List.map_congr_left fun j hj => by rw [h j (List.mem_range.1 hj)]

/-- Only block g may have changed. -/
def Only (g : Nat) (w w' : World) : Prop :=
  w'.os = w.os ∧ w'.tape = w.tape ∧ w'.output = w.output ∧ w'.heap.size = w.heap.size ∧ ∀ k, k ≠ g → w'.heap[k]? = w.heap[k]?
theorem Only.os {g : Nat} {w w' : World} (h : Only g w w') : w'.os = w.os := h.1
theorem Only.tape {g : Nat} {w w' : World} (h : Only g w w') : w'.tape = w.tape := h.2.1
theorem Only.output {g : Nat} {w w' : World} (h : Only g w w') : w'.output = w.output := h.2.2.1
theorem Only.size {g : Nat} {w w' : World} (h : Only g w w') : w'.heap.size = w.heap.size := h.2.2.2.1
theorem Only.block {g : Nat} {w w' : World} (h : Only g w w') : ∀ k, k ≠ g → w'.heap[k]? = w.heap[k]? := h.2.2.2.2
theorem Only.refl (g : Nat) (w : World) : Only g w w := ⟨rfl, rfl, rfl, rfl, fun _ _ => rfl⟩
theorem Only.drew {g : Nat} {w w' : World} (h : Only g w w') : Only g w w'.drew := ⟨h.os, h.tape, h.output, h.size, h.block⟩
theorem Only.drewN {g : Nat} {w w' : World} (h : Only g w w') (n : Nat) : Only g w (w'.drewN n) := ⟨h.os, h.tape, h.output, h.size, h.block⟩
theorem Only.setCell {g : Nat} {w w' : World} (h : Only g w w') (i : Nat) (x : Value) : Only g w (w'.setCell ⟨g, i, none⟩ x) :=
  ⟨h.os, h.tape, h.output, by simp [World.setCell, h.size], fun k hk => (Below.heap_setCell _ _ _ _ hk).trans (h.block k hk)⟩
theorem Only.below {g B : Nat} {w w' : World} (h : Only g w w') (hB : B ≤ g) : Below B w w' :=
  ⟨h.os, h.tape, h.output, by rw [h.size]; exact Nat.le_refl _, fun k hk => h.block k (by omega)⟩
theorem Res.only {g g' : Nat} {t : TypeId} {c : Array Value} {w w' : World} (h : Res g t c w) (k : Only g' w w') (hg : g ≠ g') : Res g t c w' := (k.block g hg).trans h
theorem Res.setw {g : Nat} {t : TypeId} {c : Array Value} {w : World} (h : Res g t c w) (i : Nat) (x : Value) : Res g t (c.setIfInBounds i x) (w.setCell ⟨g, i, none⟩ x) := by
  unfold Res at h ⊢
  simp [World.setCell, Array.getElem?_modify, h]

/-! ### Words -/
def word (n i : Nat) : Nat := n / 18446744073709551616 ^ i % 18446744073709551616
theorem limb_word (n i : Nat) : limb n i = (word n i : Int) := rfl
theorem pow64 (i : Nat) : 18446744073709551616 ^ i = 2 ^ (64 * i) := by rw [Nat.pow_mul]
theorem word_bit (n i b : Nat) : (word n i).testBit b = (decide (b < 64) && n.testBit (64 * i + b)) := by
  unfold word
  rw [pow64, show (18446744073709551616 : Nat) = 2 ^ 64 from rfl, Nat.testBit_mod_two_pow, Nat.testBit_div_two_pow, Nat.add_comm b]
theorem word_ge {n L i : Nat} (h : n < 18446744073709551616 ^ L) (hi : L ≤ i) : word n i = 0 := by
  unfold word
  rw [Nat.div_eq_of_lt (Nat.lt_of_lt_of_le h (Nat.pow_le_pow_right (by omega) hi))]
/-- What limbAt reads: nothing below the first word. -/
def wordAt (n : Nat) (i : Int) : Nat := if 0 ≤ i then word n i.toNat else 0

theorem shl_word (n wh p j : Nat) (hp : p < 64) :
    word (n * 2 ^ (64 * wh + p)) j = (wordAt n ((j : Int) - wh) * 2 ^ p % 18446744073709551616) ||| (wordAt n ((j : Int) - wh - 1) / 2 ^ (64 - p)) := by
  apply Nat.eq_of_testBit_eq
  intro b
  rw [word_bit, Nat.testBit_or, show (18446744073709551616 : Nat) = 2 ^ 64 from rfl, Nat.testBit_mod_two_pow, Nat.testBit_mul_two_pow, Nat.testBit_div_two_pow, Nat.testBit_mul_two_pow]
  unfold wordAt
  by_cases hb : b < 64
  · by_cases hpb : p ≤ b
    · have e2 : ∀ (x : Int), (if 0 ≤ x then word n x.toNat else 0).testBit (b + (64 - p)) = false := by
        intro x
        split
        · rw [word_bit, decide_eq_false (by omega)]; rfl
        · simp
      rw [e2]
      by_cases hj : wh ≤ j
      · rw [if_pos (by omega), word_bit, show ((j : Int) - wh).toNat = j - wh by omega]
        rw [decide_eq_true hb, decide_eq_true (by omega : 64 * wh + p ≤ 64 * j + b), decide_eq_true (by omega : p ≤ b), decide_eq_true (by omega : b - p < 64)]
        rw [show 64 * j + b - (64 * wh + p) = 64 * (j - wh) + (b - p) by omega]
        simp
      · rw [if_neg (by omega), decide_eq_false (by omega : ¬ 64 * wh + p ≤ 64 * j + b)]
        simp
    · rw [decide_eq_false (by omega : ¬ p ≤ b)]
      by_cases hj : wh + 1 ≤ j
      · rw [if_pos (by omega : 0 ≤ (j : Int) - wh - 1), word_bit, show ((j : Int) - wh - 1).toNat = j - wh - 1 by omega]
        rw [decide_eq_true hb, decide_eq_true (by omega : 64 * wh + p ≤ 64 * j + b), decide_eq_true (by omega : b + (64 - p) < 64)]
        rw [show 64 * j + b - (64 * wh + p) = 64 * (j - wh - 1) + (b + (64 - p)) by omega]
        simp
      · rw [if_neg (by omega : ¬ 0 ≤ (j : Int) - wh - 1), decide_eq_false (by omega : ¬ 64 * wh + p ≤ 64 * j + b)]
        simp
  · rw [decide_eq_false hb]
    have e2 : ∀ (x : Int), (if 0 ≤ x then word n x.toNat else 0).testBit (b + (64 - p)) = false := by
      intro x
      split
      · rw [word_bit, decide_eq_false (by omega)]; rfl
      · simp
    rw [e2]; simp

theorem shr_word (n wh p j : Nat) (hp : p < 64) :
    word (n / 2 ^ (64 * wh + p)) j = (word n (j + wh) / 2 ^ p) ||| (word n (j + wh + 1) * 2 ^ (64 - p) % 18446744073709551616) := by
  apply Nat.eq_of_testBit_eq
  intro b
  rw [word_bit, Nat.testBit_or, show (18446744073709551616 : Nat) = 2 ^ 64 from rfl, Nat.testBit_mod_two_pow, Nat.testBit_mul_two_pow, Nat.testBit_div_two_pow, Nat.testBit_div_two_pow, word_bit, word_bit]
  by_cases hb : b < 64
  · by_cases hpb : b + p < 64
    · rw [decide_eq_true hb, decide_eq_true hpb, decide_eq_false (by omega : ¬ 64 - p ≤ b)]
      rw [show 64 * j + b + (64 * wh + p) = 64 * (j + wh) + (b + p) by omega]
      simp
    · rw [decide_eq_true hb, decide_eq_false hpb, decide_eq_true (by omega : 64 - p ≤ b), decide_eq_true (by omega : b - (64 - p) < 64)]
      rw [show 64 * j + b + (64 * wh + p) = 64 * (j + wh + 1) + (b - (64 - p)) by omega]
      simp
  · rw [decide_eq_false hb, decide_eq_false (by omega : ¬ b + p < 64)]
    simp

end Go.Proofs.YtkionnggdncncaaDoor

