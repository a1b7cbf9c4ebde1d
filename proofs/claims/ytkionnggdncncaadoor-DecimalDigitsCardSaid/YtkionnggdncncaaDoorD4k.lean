/- What the laws of layer 4 lean on: round trips of numerals, comparisons that answer as they should. No conditions besides; Format's contract where the library's table of powers of ten holds the powers of ten. -/
import Derived.Test.YtkionnggdncncaaDoorD4b
import Derived.Test.YtkionnggdncncaaDoorD4r
namespace Go.Proofs.YtkionnggdncncaaDoor
open Go.RowKit Sx Go.Lib
set_option maxRecDepth 100000

/-- The remainder that Mod gives. -/
def modI (x : Int) (n : Nat) : Nat := (IntKind.u64.wrap x).toNat % n
theorem u64_wrap_nat {n : Nat} (h : n < 18446744073709551616) : IntKind.u64.wrap (n : Int) = (n : Int) := by simp [IntKind.wrap, IntKind.bits, IntKind.signed]; omega
theorem u64_nonneg (x : Int) : 0 ≤ IntKind.u64.wrap x ∧ IntKind.u64.wrap x < 18446744073709551616 := by simp [IntKind.wrap, IntKind.bits, IntKind.signed]; omega
theorem mod_nz {n : Nat} (h0 : n ≠ 0) (hn : n < 4611686018427387904) : IntKind.u64.wrap (n : Int) ≠ 0 := by rw [u64_wrap_nat (by omega)]; omega
theorem mod_fin (x : Int) {n : Nat} (h0 : n ≠ 0) (hn : n < 4611686018427387904) : Value.int .i64 (IntKind.i64.wrap ((IntKind.u64.wrap x).tmod (IntKind.u64.wrap (n : Int)))) = .int .i64 (modI x n) := by
  rw [u64_wrap_nat (by omega)]
  have h := u64_nonneg x
  obtain ⟨y, hy⟩ : ∃ y : Nat, IntKind.u64.wrap x = y := ⟨(IntKind.u64.wrap x).toNat, by omega⟩
  have hlt : y % n < n := Nat.mod_lt _ (by omega)
  rw [modI, hy, show (y : Int).tmod (n : Int) = ((y % n : Nat) : Int) from rfl, wrap_nat (show y % n < 9223372036854775808 by omega)]
  rfl
theorem modI_lt (x : Int) {n : Nat} (h : 0 < n) : modI x n < n := Nat.mod_lt _ h

theorem seq_self (s : ByteArray) : (s.toList == s.toList) = true := by rw [seq_eq]; exact decide_eq_true rfl
theorem seq_of {s t : ByteArray} (h : s = t) : (s.toList == t.toList) = true := by rw [h]; exact seq_self t
theorem eqU_self (n : Nat) : cellsEq (cU n) (cU n) = true := by simp [cellsEq, cellEq]
theorem neU_self (n : Nat) : (!cellsEq (cU n) (cU n)) = false := by rw [eqU_self]; rfl
abbrev cI (s : Bool) (n : Nat) : List Value := [.bool s, .int .u64 (limb n 0), .int .u64 (limb n 1), .int .u64 (limb n 2), .int .u64 (limb n 3)]
theorem eqI_self (s : Bool) (n : Nat) : cellsEq (cI s n) (cI s n) = true := by simp [cellsEq, cellEq]
theorem neI_self (s : Bool) (n : Nat) : (!cellsEq (cI s n) (cI s n)) = false := by rw [eqI_self]; rfl
theorem ne_self (z : Int) : (z != z) = false := by simp
theorem gtn (k : Nat) {s : ByteArray} (h : k < s.size) : decide ((s.size : Int) > (k : Int)) = true := by apply decide_eq_true; omega
theorem len (k : Nat) {s : ByteArray} (h : s.size ≤ k) : decide ((s.size : Int) > (k : Int)) = false := by apply decide_eq_false; omega

theorem lt_B {n : Nat} (hn : n < 18446744073709551616) : n < B256 := Nat.lt_of_lt_of_le hn (by unfold B256; omega)
theorem format_w (k : Nat) (hk : k < 18446744073709551616) : DetE Tab 8 [.agg #[.int .u64 k, .int .u64 0, .int .u64 0, .int .u64 0]] (.string (dec k)) := by
  have := format_any k (lt_B hk)
  rwa [U_word k hk] at this
theorem format_z : DetE Tab 8 [.agg #[.int .u64 0, .int .u64 0, .int .u64 0, .int .u64 0]] (.string (dec 0)) := format_w 0 (by omega)
theorem rformat_w (k : Nat) (hk : k < 18446744073709551616) : Det Tryd.prog 9 [.agg #[.int .u64 k, .int .u64 0, .int .u64 0, .int .u64 0]] (.string (dec k)) := by
  have := rformat_any k (lt_B hk)
  rwa [U_word k hk] at this
theorem cU_word {k : Nat} (hk : k < 18446744073709551616) : ([.int .u64 k, .int .u64 0, .int .u64 0, .int .u64 0] : List Value) = cU k := by
  have := U_word k hk
  simp only [U, Value.agg.injEq, Array.mk.injEq] at this
  exact this.symm
theorem cmp_w (c d : Nat) (hc : c < 18446744073709551616) (hd : d < 18446744073709551616) : Det Tryd.prog 18 [.agg #[.int .u64 c, .int .u64 0, .int .u64 0, .int .u64 0], .agg #[.int .u64 d, .int .u64 0, .int .u64 0, .int .u64 0]] (.int .i64 (cmpI c d)) := by
  have := d_cmp c d (lt_B hc) (lt_B hd)
  rwa [U_word c hc, U_word d hd] at this

/-! The chapter's examples. -/
theorem aw_1 : (parE ⟨#[48, 48, 55]⟩ == 3) = true := by decide
theorem aw_2 : cellsEq (cI (piS ⟨#[45, 49, 50]⟩) (piN ⟨#[45, 49, 50]⟩)) [.bool true, .int .u64 12, .int .u64 0, .int .u64 0, .int .u64 0] = true := by
  have h1 : piS ⟨#[45, 49, 50]⟩ = true := by decide
  have h2 : piN ⟨#[45, 49, 50]⟩ = 12 := by decide
  rw [h1, h2]
  decide
theorem aw_3 : (piE ⟨#[45, 49, 50]⟩ == 0) = true := by decide
theorem aw_4 : (piE ⟨#[45, 48]⟩ == 3) = true := by decide
theorem aw_fin : Value.bool ((dec 0).toList == ByteArray.toList { data := #[48] }) = .bool true := by
  rw [seq_of]
  rw [dec, dec_small (by omega)]
  rfl

/-! Round trips. -/
theorem parN_dec {a : Nat} (ha : a < B256) : parN (dec a) = a := by
  simp only [parN, show bs (dec a) = decDigits a from rfl, canon_dec, if_true, vl_dec, chkR, if_pos ha]
theorem parE_dec {a : Nat} (ha : a < B256) : parE (dec a) = 0 := by
  simp only [parE, show bs (dec a) = decDigits a from rfl, canon_dec, if_true, vl_dec, chkE, if_pos ha]
theorem sz_dec {a : Nat} (ha : a < B256) : (dec a).size ≤ 2000 := Nat.le_trans (dec_78 ha) (by omega)
theorem sz_app {a b : ByteArray} (ha : a.size ≤ 2000) (hb : b.size ≤ 2000) : (a ++ b).size ≤ 4000 := by rw [ByteArray.size_append]; omega
theorem sz_lt {a : ByteArray} (ha : a.size ≤ 4000) : a.size < 4611686018427387904 := by omega
theorem sz_ex {a : ByteArray} (ha : a.size ≤ 2000) {i j : Nat} : (a.extract i j).size ≤ 4000 := by rw [ByteArray.size_extract]; omega
theorem parse_dec (a : Nat) (ha : a < B256) : Det Tryd.prog 14 [.string (dec a)] (.tuple #[U a, .int .i64 0]) := by
  have := parse_any (dec a) (sz_lt (Nat.le_trans (sz_dec ha) (by omega)))
  rwa [parN_dec ha, parE_dec ha] at this
theorem neg_dec (n : Nat) : negS (dec n) = false := by
  have ha := all_dec n
  unfold negS
  show Lib.hasPrefix (decDigits n) [45] = false
  cases hb : decDigits n with
  | nil => rfl
  | cons b r =>
    rw [hb] at ha
    simp only [List.all_cons, Bool.and_eq_true, isD, decide_eq_true_eq] at ha
    simp only [Lib.hasPrefix, List.isPrefixOf, Bool.and_true]
    rw [beq_eq_false_iff_ne]
    rintro rfl
    exact absurd ha.1.1 (by decide)
theorem neg_decI (n : Nat) (h : val true n = true) : negS (decI true n) = true ∧ tailS (decI true n) = dec n := by
  have e : bs (decI true n) = 45 :: decDigits n := by rw [decI, h]; rfl
  have h1 : negS (decI true n) = true := by rw [negS, e]; rfl
  exact ⟨h1, by rw [tailS, if_pos h1, e]; rfl⟩
theorem parseInt_decI (t : Bool) (n : Nat) (hn : n < B256) (h : val t n = true) : Det Tryd.prog 16 [.string (decI t n)] (.tuple #[Ic t n, .int .i64 0]) := by
  cases t with
  | false =>
    have h0 := parseInt_any (dec n) (sz_lt (Nat.le_trans (sz_dec hn) (by omega)))
    have e1 : piE (dec n) = 0 := by rw [piE, tail_no (neg_dec n), parE_dec hn, neg_dec]; simp
    have e2 : piN (dec n) = n := by rw [piN, e1, if_pos rfl, tail_no (neg_dec n), parN_dec hn]
    have e3 : piS (dec n) = false := by rw [piS, neg_dec]; simp
    rw [e1, e2, e3] at h0
    exact h0
  | true =>
    obtain ⟨g1, g2⟩ := neg_decI n h
    have hnz : n ≠ 0 := by rintro rfl; cases h
    have hsz : (decI true n).size ≤ 4000 := by
      have : (decI true n).size = (dec n).size + 1 := by rw [decI, h]; rfl
      have := sz_dec hn
      omega
    have h0 := parseInt_any (decI true n) (sz_lt hsz)
    have e1 : piE (decI true n) = 0 := by rw [piE, g2, parE_dec hn, parN_dec hn, if_pos rfl, if_neg (fun x => hnz x.2)]
    have e2 : piN (decI true n) = n := by rw [piN, e1, if_pos rfl, g2, parN_dec hn]
    have e3 : piS (decI true n) = true := by rw [piS, e1, g1, g2, parN_dec hn]; simpa using hnz
    rw [e1, e2, e3] at h0
    exact h0
theorem parseInt_inv {n : Nat} (h : n = 0) : Det Tryd.prog 16 [.string (decI true n)] (.tuple #[.agg #[.bool false, .int .u64 0, .int .u64 0, .int .u64 0, .int .u64 0], .int .i64 3]) := by
  subst h
  have h0 := parseInt_any ⟨#[]⟩ (by decide)
  have e : decI true 0 = ⟨#[]⟩ := rfl
  have e1 : piE ⟨#[]⟩ = 3 := by decide
  have e2 : piN ⟨#[]⟩ = 0 := by decide
  have e3 : piS ⟨#[]⟩ = false := by decide
  rw [e1, e2, e3, Ic0] at h0
  rw [e]
  exact h0
theorem par_back {s : ByteArray} (h : parE s = 0) : ((dec (parN s)).toList == s.toList) = true := by
  apply seq_of
  have hc : canon (bs s) = true := by
    cases hc : canon (bs s) with
    | true => rfl
    | false => rw [parE, hc] at h; simp at h
  have hv : vl (bs s) < B256 := by
    by_cases hv : vl (bs s) < B256
    · exact hv
    · rw [parE, hc, if_pos rfl, chkE, if_neg hv] at h; omega
  apply bs_eq
  show decDigits (parN s) = bs s
  rw [parN, hc, if_pos rfl, chkR, if_pos hv, dec_vl hc]
theorem sum_dec2 {n : Nat} (h : n < B256) : (((dec n).size + (⟨#[48]⟩ : ByteArray).size : Nat) : Int) ≤ IntKind.i64.max := sum_le (dec_78 h) (by decide)
theorem dec_nz (a : Nat) : (dec a).size ≠ 0 := by rw [dec_size]; have := nDigits_pos a; omega
theorem sum_dec3 {n : Nat} (h : n < B256) : (((⟨#[48]⟩ : ByteArray).size + (dec n).size : Nat) : Int) ≤ IntKind.i64.max := sum_le (by decide) (dec_78 h)
theorem cut5_ok (m : Int) {a : Nat} (ha : a < B256) : (0 : Int) ≤ 0 ∧ (0 : Int) ≤ IntKind.i64.wrap (1 + (modI m (dec a).size : Int)) ∧ IntKind.i64.wrap (1 + (modI m (dec a).size : Int)) ≤ ((dec a).size : Int) := by
  have h1 := modI_lt m (Nat.pos_of_ne_zero (dec_nz a))
  have h2 := sz_dec ha
  have e : IntKind.i64.wrap (1 + (modI m (dec a).size : Int)) = 1 + (modI m (dec a).size : Int) := by simp [IntKind.wrap, IntKind.bits, IntKind.signed]; omega
  rw [e]
  omega

/-! Order. -/
theorem ltz {p q : Nat} (h : (dec p).size < (dec q).size) : decide (((dec p).size : Int) < ((dec q).size : Int)) = true := by apply decide_eq_true; omega
theorem nltz {p q : Nat} (h : ¬ (dec p).size < (dec q).size) : decide (((dec p).size : Int) < ((dec q).size : Int)) = false := by apply decide_eq_false; omega
theorem eqz {p q : Nat} (h : (dec p).size = (dec q).size) : decide (((dec p).size : Int) = ((dec q).size : Int)) = true := by apply decide_eq_true; omega
theorem neqz {p q : Nat} (h : ¬ (dec p).size = (dec q).size) : decide (((dec p).size : Int) = ((dec q).size : Int)) = false := by apply decide_eq_false; omega
theorem cmp_lt (p q : Nat) : decide (cmpI p q < 0) = decide (p < q) := by
  unfold cmpI
  by_cases h : p < q
  · simp [h]
  · rw [if_neg h]; split <;> simp [h]
theorem ord_lt {p q : Nat} (h : (dec p).size < (dec q).size) : (true != decide (cmpI p q < 0)) = false := by
  rw [cmp_lt, ← order_dec p q, ← dec_size, ← dec_size, decide_eq_true h]; rfl
theorem ord_mid {p q : Nat} (h : (dec p).size = (dec q).size) : (Op.bytesLess (dec p).toList (dec q).toList != decide (cmpI p q < 0)) = false := by
  rw [cmp_lt, ByteArray.toList_eq, ByteArray.toList_eq, less_dec p q (by rw [← dec_size, ← dec_size]; exact h)]
  simp
theorem ord_gt {p q : Nat} (h1 : ¬ (dec p).size < (dec q).size) (h2 : ¬ (dec p).size = (dec q).size) : (false != decide (cmpI p q < 0)) = false := by
  rw [cmp_lt, ← order_dec p q, ← dec_size, ← dec_size, decide_eq_false h1, decide_eq_false h2]; rfl
theorem ord_eq {cs ds : List Value} {p q : Nat} (hp : cs = cU p) (hq : ds = cU q) (h1 : p < B256) (h2 : q < B256) : (((dec p).toList == (dec q).toList) != cellsEq cs ds) = false := by
  rw [hp, hq, cellsEq_U h1 h2, seq_eq, show bs (dec p) = decDigits p from rfl, show bs (dec q) = decDigits q from rfl]
  simp only [dec_eq_iff]
  simp
end Go.Proofs.YtkionnggdncncaaDoor

