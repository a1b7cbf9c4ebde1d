/- The law LZRunLength. No conditions. -/
import Derived.Test.YteepoeljihbpjaaZ9l
namespace Go.Proofs.Yteepoeljihbpjaa
open Go.RowKit Sx
set_option maxRecDepth 100000

/-- A row that is filled from its beginning. -/
def fillB (b : UInt8) (k j : Nat) : Bs := List.replicate j b ++ List.replicate (k - j) 0
theorem fill_0 (b : UInt8) (k : Nat) : List.replicate k (Value.int .u8 0) = bcs (fillB b k 0) := by
  unfold fillB bcs
  rw [List.replicate_zero, List.nil_append, List.map_replicate, Nat.sub_zero]; rfl
theorem fill_len (b : UInt8) {k j : Nat} (h : j ≤ k) : (fillB b k j).length = k := by
  unfold fillB; rw [List.length_append, List.length_replicate, List.length_replicate]; omega
theorem fill_end (b : UInt8) {k j : Nat} (h : k ≤ j) (hj : j ≤ k) : fillB b k j = List.replicate k b := by
  unfold fillB; rw [show j = k by omega, Nat.sub_self, List.replicate_zero, List.append_nil]
theorem fill_next (b : UInt8) {k j : Nat} (h : j < k) : (fillB b k j).set j b = fillB b k (j + 1) := by
  unfold fillB
  rw [List.set_append_right _ _ (by rw [List.length_replicate]; exact Nat.le_refl _), List.length_replicate, Nat.sub_self]
  obtain ⟨r, hr⟩ : ∃ r, k - j = r + 1 := ⟨k - j - 1, by omega⟩
  rw [hr, show k - (j + 1) = r by omega, List.replicate_succ, List.set_cons_zero, List.replicate_succ', List.append_assoc]
  rfl
theorem fill_set (b : UInt8) {k j : Nat} (h : j < k) : setRange (bcs (fillB b k j)) (0 + (j : Int).toNat * 1) [.int .u8 (b.toNat : Int)] = bcs (fillB b k (j + 1)) := by
  have := bcs_set (fillB b k j) j b (by rw [fill_len b (Nat.le_of_lt h)]; exact h) []
  rw [List.append_nil, List.append_nil, fill_next b h] at this
  rw [Nat.zero_add, Nat.mul_one, Int.toNat_natCast]
  exact this
theorem fill_in (b : UInt8) {k j : Nat} (h : j < k) : (0 + (j : Int).toNat * 1) + 1 ≤ (bcs (fillB b k j)).length := by
  rw [bcs_length, fill_len b (Nat.le_of_lt h), Nat.zero_add, Nat.mul_one, Int.toNat_natCast]; exact h
/-- A row of its own, its length named. -/
def Byt.rowk (m : Nat) (l : Bs) (k : Nat) (hk : l.length = k) : Byt where
  o := some ⟨m, 0, none⟩
  n := k
  cap := k
  l := l
  L := [(m, .cells (bcs l).toArray 5)]
  hl := hk
  hc := Nat.le_refl _
  hs := fun _ => rfl
  h := fun w hw i hi => (Byt.row m l).h w hw i (by rw [← hk] at hi; exact hi)
abbrev runK (n : Int) : Nat := 1 + modI n 3000
theorem runK_le (n : Int) : 1 ≤ runK n ∧ runK n ≤ 3000 := by
  have := modI_lt n (n := 3000) (by decide)
  show 1 ≤ 1 + modI n 3000 ∧ 1 + modI n 3000 ≤ 3000
  omega
theorem mk_1 (n : Int) : 1 * runK n ≤ 281474976710656 := by have := runK_le n; omega
theorem q131 {k : Nat} (h : k ≤ 3000) : IntKind.i64.wrap (3 * IntKind.i64.wrap (((k - 1 : Nat) : Int).tdiv 131)) = ((3 * ((k - 1) / 131) : Nat) : Int) := by
  rw [show (((k - 1 : Nat) : Int).tdiv 131) = (((k - 1) / 131 : Nat) : Int) from rfl, wrap_nat (by omega), show (3 * (((k - 1) / 131 : Nat) : Int)) = ((3 * ((k - 1) / 131) : Nat) : Int) by omega, wrap_nat (by omega)]
theorem geq4_t {a : Nat} (h : decide (((a : Int).tmod 131) ≥ 4) = true) : 4 ≤ a % 131 := by
  have h := of_decide_eq_true h
  rw [show ((a : Int).tmod 131) = ((a % 131 : Nat) : Int) from rfl] at h; omega
theorem geq4_f {a : Nat} (h : decide (((a : Int).tmod 131) ≥ 4) = false) : a % 131 < 4 := by
  have h := of_decide_eq_false h
  rw [show ((a : Int).tmod 131) = ((a % 131 : Nat) : Int) from rfl] at h; omega
theorem rem0_t {a : Nat} (h : 0 < a % 131) : decide (((a : Int).tmod 131) > 0) = true := by
  rw [show ((a : Int).tmod 131) = ((a % 131 : Nat) : Int) from rfl]; apply decide_eq_true; omega
theorem rem0_f {a : Nat} (h : ¬ 0 < a % 131) : decide (((a : Int).tmod 131) > 0) = false := by
  rw [show ((a : Int).tmod 131) = ((a % 131 : Nat) : Int) from rfl]; apply decide_eq_false; omega
theorem quo0_t {k : Nat} (hk : k ≤ 3000) (h : decide (IntKind.i64.wrap (((k - 1 : Nat) : Int).tdiv 131) > 0) = true) : 0 < (k - 1) / 131 := by
  have h := of_decide_eq_true h
  rw [show (((k - 1 : Nat) : Int).tdiv 131) = (((k - 1) / 131 : Nat) : Int) from rfl, wrap_nat (by omega)] at h; omega
theorem quo0_f {k : Nat} (hk : k ≤ 3000) (h : decide (IntKind.i64.wrap (((k - 1 : Nat) : Int).tdiv 131) > 0) = false) : ¬ 0 < (k - 1) / 131 := by
  have h := of_decide_eq_false h
  rw [show (((k - 1 : Nat) : Int).tdiv 131) = (((k - 1) / 131 : Nat) : Int) from rfl, wrap_nat (by omega)] at h; omega
theorem add_rem {a k : Nat} (h : a + k ≤ 100000) : IntKind.i64.wrap ((a : Int) + (k : Int).tmod 131) = ((a + k % 131 : Nat) : Int) := by
  rw [show ((k : Int).tmod 131) = ((k % 131 : Nat) : Int) from rfl, show ((a : Int) + ((k % 131 : Nat) : Int)) = ((a + k % 131 : Nat) : Int) by omega, wrap_nat (by omega)]
theorem eqn_t {a b : Nat} (h : a = b) : ((a : Int) == (b : Int)) = true := by subst h; simp
section
variable {l : Bs} {b : UInt8} {k : Nat} (e : l = List.replicate k b) (h : 1 ≤ k)
include e h
theorem rl_1 : (comp l).getD 1 0 = b := by rw [e]; exact (rep_comp b h).2
theorem rl_2 : 2 ≤ (comp l).length := by rw [e, (rep_comp b h).1]; omega
theorem rl_a (h4 : 4 ≤ (k - 1) % 131) : (comp l).length = 2 + 3 * ((k - 1) / 131) + 3 := by rw [e, (rep_comp b h).1, if_pos h4]
theorem rl_b (h4 : (k - 1) % 131 < 4) (h0 : 0 < (k - 1) % 131) (h1 : 0 < (k - 1) / 131) : (comp l).length = 2 + 3 * ((k - 1) / 131) + 1 + (k - 1) % 131 := by rw [e, (rep_comp b h).1, if_neg (by omega), if_pos ⟨h0, h1⟩]; omega
theorem rl_c (h4 : (k - 1) % 131 < 4) (h0 : ¬ (0 < (k - 1) % 131 ∧ 0 < (k - 1) / 131)) : (comp l).length = 2 + 3 * ((k - 1) / 131) + (k - 1) % 131 := by rw [e, (rep_comp b h).1, if_neg (by omega), if_neg h0]
end
end Go.Proofs.Yteepoeljihbpjaa

