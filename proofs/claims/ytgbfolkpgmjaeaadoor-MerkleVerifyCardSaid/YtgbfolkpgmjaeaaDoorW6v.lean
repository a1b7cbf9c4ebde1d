/- ReadBytes of package wire and of the reference of layer 6 over this translation. No conditions. -/
import Derived.Test.YtgbfolkpgmjaeaaDoorW6t
import Derived.Test.YtgbfolkpgmjaeaaDoorW6s
namespace Go.Proofs.YtgbfolkpgmjaeaaDoor
open Go.RowKit Sx
set_option maxRecDepth 100000

/-- What reading a byte string gives: its bytes, the place behind it, the code. -/
def rdb (l : List UInt8) (z : Int) : List UInt8 × Nat × Nat :=
  if (rdn l z 8).2.2 = 0 then
    if (rdn l z 8).1 ≤ l.length - (rdn l z 8).2.1 then ((l.drop (rdn l z 8).2.1).take (rdn l z 8).1, (rdn l z 8).2.1 + (rdn l z 8).1, 0) else ([], 0, 3)
  else ([], 0, (rdn l z 8).2.2)
theorem rdb_a {l : List UInt8} {z : Int} (h : (rdn l z 8).2.2 ≠ 0) : rdb l z = ([], 0, (rdn l z 8).2.2) := if_neg h
theorem rdb_b {l : List UInt8} {z : Int} (h : (rdn l z 8).2.2 = 0) (h1 : l.length - (rdn l z 8).2.1 < (rdn l z 8).1) : rdb l z = ([], 0, 3) := by unfold rdb; rw [if_pos h, if_neg (by omega)]
theorem rdb_c {l : List UInt8} {z : Int} (h : (rdn l z 8).2.2 = 0) (h1 : (rdn l z 8).1 ≤ l.length - (rdn l z 8).2.1) : rdb l z = ((l.drop (rdn l z 8).2.1).take (rdn l z 8).1, (rdn l z 8).2.1 + (rdn l z 8).1, 0) := by unfold rdb; rw [if_pos h, if_pos h1]
theorem rdn_end {l : List UInt8} {z : Int} {m : Nat} (h : (rdn l z m).2.2 = 0) : (rdn l z m).2.1 ≤ l.length := by
  by_cases hz : 0 ≤ z ∧ z ≤ l.length
  · obtain ⟨k, rfl⟩ := Int.eq_ofNat_of_zero_le hz.1
    have hk : k ≤ l.length := by omega
    cases hs : sigOk (l.drop k) m with
    | false => rw [rdn_no hk hs] at h; cases h
    | true =>
      rw [rdn_yes hk hs]
      have h1 := (sigOk_iff.1 hs).2.2.1
      have h2 := (sigOk_iff.1 hs).1
      rw [List.length_drop] at h1 h2
      show k + 1 + _ ≤ _
      omega
  · rw [rdn_inv hz] at h; cases h
theorem rdn_8 {l : List UInt8} {z : Int} : (rdn l z 8).1 < 18446744073709551616 := by
  unfold rdn
  split
  · split
    · rename_i hs
      refine Nat.lt_of_lt_of_le (be_lt _) ?_
      have := (sigOk_iff.1 hs).2.1
      rw [List.length_take]
      exact Nat.pow_le_pow_right (n := 256) (by omega) (show min _ _ ≤ 8 by omega)
    · exact Nat.zero_lt_succ _
  · exact Nat.zero_lt_succ _
theorem rd64 (l : List UInt8) (z : Int) : limb (rdn l z 8).1 0 = ((rdn l z 8).1 : Int) := limb_self rdn_8
abbrev r64V (l : List UInt8) (z : Int) : Value := .tuple #[.int .u64 ((rdn l z 8).1 : Int), .int .i64 ((rdn l z 8).2.1 : Int), .int .i64 ((rdn l z 8).2.2 : Int)]
theorem gtr_t {a b : Nat} (h : b < a) : decide ((a : Int) > (b : Int)) = true := gt_n h
/-- What ReadBytes gives back. -/
abbrev rbR (l : List UInt8) (z : Int) (x : FrX (bcs (rdb l z).1)) : Value := .tuple #[.slice (frO x) (lenB (bcs (rdb l z).1) 1) (frC 1 x), .int .i64 ((rdb l z).2.1 : Int), .int .i64 ((rdb l z).2.2 : Int)]
theorem rb_z {l : List UInt8} {z : Int} {e : Nat} {F : Facts} (h : rdb l z = ([], 0, e)) : ∃ x : FrX (bcs (rdb l z).1), Sx.one [.slice none 0 0, .int .i64 0, .int .i64 (e : Int)] = rbR l z x ∧ ∀ q ∈ frL 5 x, q ∈ F := by
  unfold rbR
  rw [h]
  exact ⟨.inl (⟨rfl⟩, none), rfl, fun _ h => by cases h⟩
theorem rb_ok {l : List UInt8} {z : Int} {s : List UInt8} {k : Nat} {F : Facts} (h : rdb l z = (s, k, 0)) (x : FrX (bcs s)) : ∃ x' : FrX (bcs (rdb l z).1), Sx.one [.slice (frO x) (lenB (bcs s) 1) (frC 1 x), .int .i64 (k : Int), .int .i64 0] = rbR l z x' ∧ ∀ q ∈ frL 5 x', q ∈ frL 5 x ++ F := by
  unfold rbR
  rw [h]
  exact ⟨x, rfl, fun _ h => List.mem_append.2 (.inl h)⟩
theorem Byt.sub_l (y : Byt) {a b : Nat} (h1 : a ≤ a + b) (h2 : a + b ≤ y.n) : (y.sub a (a + b) h1 h2).l = (y.l.drop a).take b := by
  show (y.l.drop a).take (a + b - a) = _
  rw [Nat.add_sub_cancel_left]
theorem Byt.cutab (y : Byt) {a b : Nat} (h2 : a + b ≤ y.n) : (0 : Int) ≤ (a : Int) ∧ (a : Int) ≤ ((a + b : Nat) : Int) ∧ ((a + b : Nat) : Int) ≤ (y.cap : Int) := by have := y.hc; omega
theorem addn {a b : Nat} (h : a + b < 4611686018427387904) : IntKind.i64.wrap ((a : Int) + (b : Int)) = ((a + b : Nat) : Int) := by
  rw [show ((a : Int) + (b : Int)) = ((a + b : Nat) : Int) by omega, wrap_nat (by omega)]

end Go.Proofs.YtgbfolkpgmjaeaaDoor

