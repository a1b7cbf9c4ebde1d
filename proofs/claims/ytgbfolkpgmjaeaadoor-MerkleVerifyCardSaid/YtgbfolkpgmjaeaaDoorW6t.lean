/- Package wire over this translation: its four Append; the digits of the reference. No conditions. -/
import Derived.Test.YtgbfolkpgmjaeaaDoorW6a
namespace Go.Proofs.YtgbfolkpgmjaeaaDoor
open Go.RowKit Sx
set_option maxRecDepth 100000

theorem two_sub (k : Nat) (y z : Byt) : Sub (rowL k [y, z]) ((k, .cells #[y.v, z.v] 59) :: (y.L ++ z.L)) := by intro q hq; simpa [rowL] using hq
theorem three_sub (k : Nat) (y z u : Byt) : Sub (rowL k [y, z, u]) ((k, .cells #[y.v, z.v, u.v] 59) :: (y.L ++ (z.L ++ u.L))) := by intro q hq; simpa [rowL] using hq
theorem c_cat2 (k : Nat) (y z : Byt) (hy : y.n ≤ 100000000000) (hz : z.n ≤ 100000000000) (A : Facts) (hA : Sub ((k, .cells #[y.v, z.v] 59) :: (y.L ++ z.L)) A) : GivesA Tryd.prog 35 [.slice (some ⟨k, 0, none⟩) 2 2] A Unit 5 1 (fun _ => bcs (y.l ++ z.l)) := by
  have := c_concat k [y, z] (by simp) (by simp [sumN]; omega) A (fun q hq => hA q (two_sub k y z q hq))
  simpa using this
theorem c_cat3 (k : Nat) (y z u : Byt) (hy : y.n ≤ 100000000000) (hz : z.n ≤ 100000000000) (hu : u.n ≤ 100000000000) (A : Facts) (hA : Sub ((k, .cells #[y.v, z.v, u.v] 59) :: (y.L ++ (z.L ++ u.L))) A) : GivesA Tryd.prog 35 [.slice (some ⟨k, 0, none⟩) 3 3] A Unit 5 1 (fun _ => bcs (y.l ++ z.l ++ u.l)) := by
  have := c_concat k [y, z, u] (by simp) (by simp [sumN]; omega) A (fun q hq => hA q (three_sub k y z u q hq))
  simpa using this
theorem enc_small {n : Nat} (hn : n < B256) (m : Nat) : (Byt.row m (enc n)).n ≤ 100000000000 := by
  show (enc n).length ≤ _
  have := nb_32 hn
  rw [enc_length]; omega

/-- The bytes of a signed number: none where it is not valid. -/
def encI (s : Bool) (n : Nat) : List UInt8 := if s && isz n then [] else (if s then 1 else 0) :: enc n
theorem encI_no {s : Bool} {n : Nat} (h : (s && isz n) = true) : encI s n = [] := if_pos h
theorem encI_yes {s : Bool} {n : Nat} (h : (s && isz n) = false) : encI s n = (if s then 1 else 0) :: enc n := if_neg (by rw [h]; exact Bool.false_ne_true)
theorem encI_cells {s : Bool} {n : Nat} (l : List UInt8) (b : UInt8) (h : (s && isz n) = false) (hb : b = if s then 1 else 0) : bcs (l ++ [b] ++ enc n) = bcs (l ++ encI s n) := by
  rw [encI_yes h, hb]; simp

/-- The digits' loop: nothing yet, or some. -/
inductive DgX (n : Nat) where
  | z (k : Nat) (hk : k ≤ 32) (h : n / 256 ^ k = 0)
  | a (k : Nat) (hk : k ≤ 32) (h : 0 < n / 256 ^ k)
def DgX.k {n : Nat} : DgX n → Nat
  | .z k _ _ => k
  | .a k _ _ => k
def DgX.of (n k : Nat) (hk : k ≤ 32) : DgX n := if h : n / 256 ^ k = 0 then .z k hk h else .a k hk (Nat.pos_of_ne_zero h)
theorem ge_t {k : Nat} (h : decide ((k : Int) - 1 ≥ 0) = true) : (k : Int) - 1 = ((k - 1 : Nat) : Int) := by have := of_decide_eq_true h; omega
theorem ge_pos {k : Nat} (h : decide ((k : Int) - 1 ≥ 0) = true) : 0 < k := by have := of_decide_eq_true h; omega
theorem ge_f {k : Nat} (h : decide ((k : Int) - 1 ≥ 0) = false) : k = 0 := by have := of_decide_eq_false h; omega
theorem dg_dec {k : Nat} (h : 0 < k) (hk : k ≤ 32) : IntKind.i64.wrap ((k : Int) - 1 - 1) = ((k - 1 : Nat) : Int) - 1 := by
  rw [IntKind.wrap_i64] <;> omega
theorem by_pos {b : UInt8} (h : decide ((b.toNat : Int) > 0) = true) : 0 < b.toNat := by have := of_decide_eq_true h; omega
theorem by_zero {b : UInt8} (h : decide ((b.toNat : Int) > 0) = false) : b.toNat = 0 := by have := of_decide_eq_false h; omega
theorem dv (n : Nat) {k : Nat} (h : 0 < k) : n / 256 ^ (k - 1) = n / 256 ^ k * 256 + (byt n (k - 1)).toNat := by
  have := div_snoc n (k - 1)
  rwa [show k - 1 + 1 = k by omega] at this
theorem dg_first {n k : Nat} (h : 0 < k) (hz : n / 256 ^ k = 0) (hb : 0 < (byt n (k - 1)).toNat) : bcs [byt n (k - 1)] = bcs (dg (n / 256 ^ (k - 1))) := by
  rw [dv n h, hz, dg_snoc _ (.inr hb)]; rfl
theorem dg_more {n k : Nat} (h : 0 < k) (hz : 0 < n / 256 ^ k) : bcs (dg (n / 256 ^ k)) ++ bcs [byt n (k - 1)] = bcs (dg (n / 256 ^ (k - 1))) := by
  rw [dv n h, dg_snoc _ (.inl hz), bcs_append]
theorem dg_small {n : Nat} (k : Nat) (hn : n < B256) : nb (n / 256 ^ k) ≤ 32 := nb_32 (Nat.lt_of_le_of_lt (Nat.div_le_self _ _) hn)
theorem top_z {n : Nat} (hn : n < B256) : n / 256 ^ 32 = 0 := Nat.div_eq_of_lt hn
theorem dg_len {n k : Nat} (hz : 0 < n / 256 ^ k) : decide ((lenB (bcs (dg (n / 256 ^ k))) 1 : Int) > 0) = true := by
  have := nb_pos hz
  show decide (((bcs (dg (n / 256 ^ k))).length : Int) > 0) = true
  rw [bcs_length, dg_length]; apply decide_eq_true; omega

theorem ld_dg {n : Nat} : IntKind.u8.wrap ((lenB (bcs (dg n)) 1 : Nat) : Int) = ((UInt8.ofNat (nb n)).toNat : Int) := by
  refine u8_wrap ?_
  show (((bcs (dg n)).length : Nat) : Int) = _
  rw [bcs_length, dg_length]
theorem enc_cells (l : List UInt8) (n : Nat) : (bcs l ++ bcs [UInt8.ofNat (nb n)]) ++ bcs (dg n) = bcs (l ++ enc n) := by
  rw [bcs_append, bcs_append]; simp [enc, dg]
theorem app_ok {l : List UInt8} {k j : Nat} (h : l.length = k) (hk : k ≤ 100000000000) (hj : j ≤ 100000000000) : (bcs l).length + j ≤ 1099511627776 := by rw [bcs_length]; omega
theorem app_ok2 {l m : List UInt8} {k j : Nat} (h : l.length = k) (hk : k ≤ 100000000000) (hm : m.length ≤ 100000000000) (hj : j ≤ 100000000000) : (bcs l ++ bcs m).length + j ≤ 1099511627776 := by rw [List.length_append, bcs_length, bcs_length]; omega
theorem dg_ok {n : Nat} (hn : n < B256) : (bcs (dg n)).length ≤ 100000000000 := by rw [bcs_length, dg_length]; have := nb_32 hn; omega

theorem app_ok3 {l : List UInt8} {n k j : Nat} (h : l.length = k) (hk : k ≤ 100000000000) (hn : n < B256) (hj : j ≤ 100000000000) : (bcs (l ++ enc n)).length + j ≤ 1099511627776 := by
  have := nb_32 hn
  rw [bcs_length, List.length_append, enc_length]; omega
theorem Byt.len_ok (x : Byt) (h : x.n ≤ 100000000000) : (bcs x.l).length ≤ 100000000000 := by rw [bcs_length, x.hl]; exact h

theorem fr_cast {c d : List Value} (e : c = d) (x : FrX c) : ∃ z : FrX d, Sx.one [.slice (frO x) (lenB c 1) (frC 1 x)] = .slice (frO z) (lenB d 1) (frC 1 z) ∧ ∀ q ∈ frL 5 z, q ∈ frL 5 x ++ ([] ++ ([] : Facts)) := by
  subst e; exact ⟨x, rfl, fun q h => List.mem_append.2 (.inl h)⟩
theorem fr_cast1 {c d : List Value} (e : c = d) (x : FrX c) : ∃ z : FrX d, Sx.one [.slice (frO x) (lenB c 1) (frC 1 x)] = .slice (frO z) (lenB d 1) (frC 1 z) ∧ ∀ q ∈ frL 5 z, q ∈ frL 5 x ++ ([] : Facts) := by
  subst e; exact ⟨x, rfl, fun q h => List.mem_append.2 (.inl h)⟩

end Go.Proofs.YtgbfolkpgmjaeaaDoor

