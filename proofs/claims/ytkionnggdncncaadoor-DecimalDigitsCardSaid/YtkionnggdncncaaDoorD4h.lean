/- What the law DecimalDigits leans on: strings of digits made out of bytes, strings of nines. No conditions. -/
import Derived.Test.YtkionnggdncncaaDoorD4l
import Derived.Test.YtkionnggdncncaaDoorSxy
namespace Go.Proofs.YtkionnggdncncaaDoor
open Go.RowKit Sx Go.Lib
set_option maxRecDepth 100000

/-- Each byte's last digit. -/
def dl (l : List UInt8) : List UInt8 := l.map fun b => UInt8.ofNat (48 + b.toNat % 10)
structure DgX (y : BytX) where
  i : Nat
  hi : i ≤ y.l.length
section
variable {y : BytX}
abbrev DgX.s (x : DgX y) : ByteArray := ⟨(dl (y.l.take x.i)).toArray⟩
/-- The byte that is read. -/
def DgX.n (x : DgX y) : Nat := (y.l.getD x.i 0).toNat
theorem tmod_dig (n : Nat) : (n : Int).tmod 10 = ((n % 10 : Nat) : Int) := rfl
theorem wrap8_dig (n : Nat) : IntKind.u8.wrap ((n : Int).tmod 10 + 1) = ((n % 10 + 1 : Nat) : Int) := by
  rw [tmod_dig]; simp [IntKind.wrap, IntKind.bits, IntKind.signed]; omega
theorem dig_ok (n : Nat) : (0 : Int) ≤ (n : Int).tmod 10 ∧ (n : Int).tmod 10 ≤ IntKind.u8.wrap ((n : Int).tmod 10 + 1) ∧ IntKind.u8.wrap ((n : Int).tmod 10 + 1) ≤ ((digT.size : Nat) : Int) := by
  rw [wrap8_dig, tmod_dig]
  refine ⟨by omega, by omega, ?_⟩
  show _ ≤ (10 : Int)
  omega
theorem dig_ex (n : Nat) : digT.extract ((n : Int).tmod 10).toNat (IntKind.u8.wrap ((n : Int).tmod 10 + 1)).toNat = ⟨[UInt8.ofNat (48 + n % 10)].toArray⟩ := by
  rw [wrap8_dig, tmod_dig]
  exact dig_cut (Nat.mod_lt _ (by omega))
theorem DgX.size (x : DgX y) (hl : y.l.length ≤ 100) : x.s.size ≤ 1000 := by
  rw [size_mk, dl, List.length_map, List.length_take]; omega
theorem DgX.sum (x : DgX y) (hl : y.l.length ≤ 100) (n : Nat) : ((x.s.size + (digT.extract ((n : Int).tmod 10).toNat (IntKind.u8.wrap ((n : Int).tmod 10 + 1)).toNat).size : Nat) : Int) ≤ IntKind.i64.max := by
  rw [dig_ex]; exact sum_le (x.size hl) (by rw [size_mk]; simp)
theorem lt_len {i n : Nat} (h : decide ((i : Int) < (n : Int)) = true) : (0 : Int) ≤ (i : Int) ∧ (i : Int) < (n : Int) := ⟨Int.natCast_nonneg _, by simpa using h⟩
def DgX.next (x : DgX y) (h : x.i < y.l.length) : DgX y := ⟨x.i + 1, h⟩
theorem DgX.next_lt (x : DgX y) (h : x.i < y.l.length) : y.l.length - (x.next h).i < y.l.length - x.i := by
  show y.l.length - (x.i + 1) < y.l.length - x.i
  omega
theorem DgX.next_i (x : DgX y) (hl : y.l.length ≤ 100) (h : x.i < y.l.length) : Value.int .i64 (IntKind.i64.wrap ((x.i : Int) + 1)) = .int .i64 ((x.next h).i : Int) := by
  rw [wrap_succ (by omega)]; rfl
theorem DgX.next_s (x : DgX y) (h : x.i < y.l.length) : Value.string (x.s ++ digT.extract ((x.n : Int).tmod 10).toNat (IntKind.u8.wrap ((x.n : Int).tmod 10 + 1)).toNat) = .string (x.next h).s := by
  rw [dig_ex, DgX.s, mk_app, DgX.s]
  congr 3
  show dl (y.l.take x.i) ++ [UInt8.ofNat (48 + x.n % 10)] = dl (y.l.take (x.i + 1))
  rw [List.take_add_one, List.getElem?_eq_getElem h]
  simp only [dl, Option.toList_some, List.map_append, List.map_cons, List.map_nil, DgX.n]
  rw [List.getD_eq_getElem?_getD, List.getElem?_eq_getElem h]
  rfl
theorem DgX.full (x : DgX y) (h : y.l.length ≤ x.i) : Value.string x.s = .string ⟨(dl y.l).toArray⟩ := by
  rw [DgX.s, List.take_of_length_le h]
end
theorem dl_size {l : List UInt8} (hl : l.length ≤ 100) : (⟨(dl l).toArray⟩ : ByteArray).size < 4611686018427387904 := by
  rw [size_mk, dl, List.length_map]; omega

/-- So many nines. -/
abbrev nines (k : Nat) : ByteArray := ⟨(List.replicate k 57).toArray⟩
theorem nines_size (k : Nat) : (nines k).size = k := by rw [size_mk, List.length_replicate]
structure N9X (z : Int) where
  j : Nat
  hj : j ≤ modI z 90
section
variable {z : Int}
theorem m90 (z : Int) : modI z 90 < 90 := modI_lt z (by omega)
theorem N9X.sum (x : N9X z) : (((nines x.j).size + (⟨#[57]⟩ : ByteArray).size : Nat) : Int) ≤ IntKind.i64.max := sum_le (by rw [nines_size]; have := x.hj; have := m90 z; omega) (by decide)
def N9X.next (x : N9X z) (h : x.j < modI z 90) : N9X z := ⟨x.j + 1, h⟩
theorem N9X.next_lt (x : N9X z) (h : x.j < modI z 90) : modI z 90 - (x.next h).j < modI z 90 - x.j := by
  show modI z 90 - (x.j + 1) < modI z 90 - x.j
  omega
theorem N9X.next_i (x : N9X z) (h : x.j < modI z 90) : Value.int .i64 (IntKind.i64.wrap ((x.j : Int) + 1)) = .int .i64 ((x.next h).j : Int) := by
  have := m90 z
  rw [wrap_succ (by omega)]; rfl
theorem N9X.next_s (x : N9X z) (h : x.j < modI z 90) : Value.string (nines x.j ++ ⟨#[57]⟩) = .string (nines (x.next h).j) := by
  rw [show (⟨#[57]⟩ : ByteArray) = ⟨([57] : List UInt8).toArray⟩ from rfl, nines, mk_app, ← List.replicate_succ']; rfl
theorem N9X.lt (x : N9X z) : (nines x.j).size < 4611686018427387904 := by rw [nines_size]; have := x.hj; have := m90 z; omega
end
theorem vl_nines : ∀ k, vl (List.replicate k 57) + 1 = 10 ^ k
  | 0 => rfl
  | k + 1 => by
    have ih := vl_nines k
    rw [List.replicate_succ', vl_snoc, Nat.pow_succ, show dgt 57 = 9 from rfl]
    omega
theorem canon_nines {k : Nat} (h : k ≠ 0) : canon (List.replicate k 57) = true := by
  cases k with
  | zero => exact absurd rfl h
  | succ k =>
    rw [List.replicate_succ]
    unfold canon
    simp only [Bool.and_eq_true]
    refine ⟨Bool.or_eq_true_iff.2 (.inl (by decide)), ?_⟩
    rw [← List.replicate_succ, List.all_eq_true]
    intro b hb
    rw [List.eq_of_mem_replicate hb]
    rfl
theorem n9_3 {k : Nat} (h : decide (((nines k).size : Int) = 0) = true) : (parE (nines k) == 3) = true := by
  rw [nines_size] at h
  have : k = 0 := by simpa using h
  subst this
  decide
theorem n9_nz {k : Nat} (h : decide (((nines k).size : Int) = 0) = false) : k ≠ 0 := by
  rw [nines_size] at h
  rintro rfl
  simp at h
theorem n9_4 {k : Nat} (h : decide (((nines k).size : Int) = 0) = false) (h2 : decide (((nines k).size : Int) > 77) = true) : (parE (nines k) == 4) = true := by
  have h0 := n9_nz h
  rw [nines_size] at h2
  have h77 : 77 < k := by simp at h2; omega
  have hv := vl_nines k
  have hp : 10 ^ 78 ≤ 10 ^ k := Nat.pow_le_pow_right (by omega) h77
  have hB : ¬ vl (List.replicate k 57) < B256 := by
    have : B256 + 1 ≤ 10 ^ 78 := by unfold B256; decide
    omega
  have : parE (nines k) = 4 := by
    rw [parE, show bs (nines k) = List.replicate k 57 from rfl, canon_nines h0, if_pos rfl, chkE, if_neg hB]
  rw [this]
  rfl
theorem n9_0 {k : Nat} (h : decide (((nines k).size : Int) = 0) = false) (h2 : decide (((nines k).size : Int) > 77) = false) : (parE (nines k) == 0) = true := by
  have h0 := n9_nz h
  rw [nines_size] at h2
  have h77 : k ≤ 77 := by simp at h2; omega
  have hv := vl_nines k
  have hp : 10 ^ k ≤ 10 ^ 77 := Nat.pow_le_pow_right (by omega) h77
  have hB : vl (List.replicate k 57) < B256 := by
    have : 10 ^ 77 ≤ B256 := by unfold B256; decide
    omega
  have : parE (nines k) = 0 := by
    rw [parE, show bs (nines k) = List.replicate k 57 from rfl, canon_nines h0, if_pos rfl, chkE, if_pos hB]
  rw [this]
  rfl
theorem eq_self (z : Int) : (z == z) = true := by simp
end Go.Proofs.YtkionnggdncncaaDoor

