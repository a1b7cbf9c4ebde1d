/- What the walks of package decimal lean on: states of loops, values of results. No conditions. -/
import Derived.Test.YtkionnggdncncaaDoorD4a
import Derived.Test.YtkionnggdncncaaDoorI3b
namespace Go.Proofs.YtkionnggdncncaaDoor
open Go.RowKit Sx Go.Lib
set_option maxRecDepth 100000

/-- A number's words. -/
abbrev cU (n : Nat) : List Value := [.int .u64 (limb n 0), .int .u64 (limb n 1), .int .u64 (limb n 2), .int .u64 (limb n 3)]
theorem cU0 : ([.int .u64 0, .int .u64 0, .int .u64 0, .int .u64 0] : List Value) = cU 0 := by
  obtain ⟨h0, h1, h2, h3⟩ := limb_zero
  rw [cU, h0, h1, h2, h3]
theorem limb_self {k : Nat} (hk : k < 18446744073709551616) : limb k 0 = (k : Int) := by rw [limb0]; omega

/-! Digits. -/
theorem canon_dig {s : ByteArray} (hc : canon (bs s) = true) {i : Nat} (h : i < s.size) : isD ((bs s)[i]'h) = true := by
  cases hd : isD ((bs s)[i]'h) with
  | true => rfl
  | false => rw [canon_bad h (by rw [hd]; exact Bool.false_ne_true)] at hc; cases hc
theorem byte_dig {s : ByteArray} (hc : canon (bs s) = true) {i : Nat} (h : i < s.size) : IntKind.u8.wrap (byteAt s i - 48) = ((dgt ((bs s)[i]'h) : Nat) : Int) := by
  have hd := canon_dig hc h
  rw [byteAt_eq s i h]
  generalize (bs s)[i]'h = b at hd ⊢
  simp only [isD, Bool.and_eq_true, decide_eq_true_eq] at hd
  simp only [IntKind.wrap, IntKind.bits, IntKind.signed, dgt]
  simp
  omega
theorem vl_le_app (l m : List UInt8) : vl l ≤ vl (l ++ m) := by
  unfold vl
  rw [List.foldl_append]
  generalize List.foldl (fun n b => n * 10 + dgt b) 0 l = a
  induction m generalizing a with
  | nil => exact Nat.le_refl _
  | cons b m ih => exact Nat.le_trans (by omega) (ih (a * 10 + dgt b))
theorem vl_take (l : List UInt8) (i : Nat) : vl (l.take i) ≤ vl l := by
  have := vl_le_app (l.take i) (l.drop i)
  rwa [List.take_append_drop] at this
theorem ten_lt {a : Nat} (h : a * 10 < B256) : a < B256 := by omega
theorem ten_B : 10 < B256 := by unfold B256; omega
theorem dig_B {g : Nat} (h : g < 10) : g < B256 := by unfold B256; omega
theorem mulE_0 {a : Nat} (h : a * 10 < B256) : (mulE a 10 != 0) = false := by simp [mulE, h]
theorem mulE_4 {a : Nat} (h : ¬ a * 10 < B256) : (mulE a 10 != 0) = true := by simp [mulE, h]
theorem d_u64w (g : Nat) (hg : g < 10) : Det Tryd.prog 21 [.int .u64 (IntKind.u64.wrap (g : Int))] (U g) := by
  rw [show IntKind.u64.wrap (g : Int) = (g : Int) by simp [IntKind.wrap, IntKind.bits, IntKind.signed]; omega]
  exact d_u64 g (by omega)
theorem ad_fin {a g : Nat} (h : a * 10 < B256) : Value.tuple #[U (addR (mulR a 10) g), .int .i64 (addE (mulR a 10) g)] = .tuple #[U (chkR (a * 10 + g)), .int .i64 (chkE (a * 10 + g))] := by
  rw [mulR, if_pos h]; rfl
theorem ad_fin4 {a g : Nat} (h : ¬ a * 10 < B256) : Value.tuple #[.agg #[.int .u64 0, .int .u64 0, .int .u64 0, .int .u64 0], .int .i64 (mulE a 10)] = .tuple #[U (chkR (a * 10 + g)), .int .i64 (chkE (a * 10 + g))] := by
  rw [mulE, if_neg h, chkR, chkE, if_neg (by omega), if_neg (by omega), U0]

/-! Parse. -/
/-- What Parse returns. -/
def parN (s : ByteArray) : Nat := if canon (bs s) then chkR (vl (bs s)) else 0
def parE (s : ByteArray) : Int := if canon (bs s) then chkE (vl (bs s)) else 3
theorem parN_lt (s : ByteArray) : parN s < B256 := by unfold parN; split; exact chkR_lt _; exact B256_pos
theorem par_bad {s : ByteArray} (h : canon (bs s) = false) : Value.tuple #[.agg #[.int .u64 0, .int .u64 0, .int .u64 0, .int .u64 0], .int .i64 3] = .tuple #[U (parN s), .int .i64 (parE s)] := by
  simp only [parN, parE, h, Bool.false_eq_true, if_false]; rw [U0]
theorem par_over {s : ByteArray} (h : canon (bs s) = true) (hv : ¬ vl (bs s) < B256) : Value.tuple #[.agg #[.int .u64 0, .int .u64 0, .int .u64 0, .int .u64 0], .int .i64 4] = .tuple #[U (parN s), .int .i64 (parE s)] := by
  simp only [parN, parE, h, if_true, chkR, chkE, if_neg hv]; rw [U0]
theorem par_ok {s : ByteArray} (h : canon (bs s) = true) (hv : vl (bs s) < B256) : Value.tuple #[U (vl (bs s)), .int .i64 0] = .tuple #[U (parN s), .int .i64 (parE s)] := by
  simp only [parN, parE, h, if_true, chkR, chkE, if_pos hv]
/-- Ahead of a round of Parse's loop: the number of the first i digits fits. -/
structure PsX (s : ByteArray) where
  i : Nat
  hi : i ≤ s.size
  hv : vl ((bs s).take i) < B256
section
variable {s : ByteArray}
abbrev PsX.v (x : PsX s) : Nat := vl ((bs s).take x.i)
def PsX.first (s : ByteArray) : PsX s := ⟨0, Nat.zero_le _, B256_pos⟩
def PsX.nv (x : PsX s) : Nat := x.v * 10 + dgt ((bs s).getD x.i 0)
def PsX.rv (x : PsX s) : Value := .tuple #[U (chkR x.nv), .int .i64 (chkE x.nv)]
theorem getD_at {i : Nat} (h : i < s.size) : (bs s).getD i 0 = (bs s)[i]'h := by
  rw [List.getD_eq_getElem?_getD, List.getElem?_eq_getElem h]; rfl
theorem PsX.nv_eq (x : PsX s) (h : x.i < s.size) : x.nv = vl ((bs s).take (x.i + 1)) := by rw [PsX.nv, getD_at h, take_succ s x.i h, vl_snoc]
theorem PsX.nv_lt (x : PsX s) (h2 : (chkE x.nv != 0) = false) : x.nv < B256 := by
  by_cases h : x.nv < B256
  · exact h
  · simp [chkE, h] at h2
def PsX.next (x : PsX s) (h : x.i < s.size) (h2 : (chkE x.nv != 0) = false) : PsX s := ⟨x.i + 1, h, by rw [← x.nv_eq h]; exact x.nv_lt h2⟩
theorem PsX.next_lt (x : PsX s) (h : x.i < s.size) (h2 : (chkE x.nv != 0) = false) : s.size - (x.next h h2).i < s.size - x.i := by
  show s.size - (x.i + 1) < s.size - x.i
  omega
theorem PsX.next_i (x : PsX s) (hs : s.size < 4611686018427387904) (h : x.i < s.size) (h2 : (chkE x.nv != 0) = false) : Value.int .i64 (IntKind.i64.wrap ((x.i : Int) + 1)) = .int .i64 ((x.next h h2).i : Int) := by
  rw [wrap_succ (by omega)]; rfl
theorem PsX.next_v (x : PsX s) (h : x.i < s.size) (h2 : (chkE x.nv != 0) = false) : cU (chkR x.nv) = cU (x.next h h2).v := by
  rw [chkR, if_pos (x.nv_lt h2), x.nv_eq h]; rfl
theorem PsX.over (x : PsX s) (hc : canon (bs s) = true) (h : x.i < s.size) (h2 : (chkE x.nv != 0) = true) : Value.tuple #[.agg #[.int .u64 0, .int .u64 0, .int .u64 0, .int .u64 0], .int .i64 (chkE x.nv)] = .tuple #[U (parN s), .int .i64 (parE s)] := by
  have hn : ¬ x.nv < B256 := fun hn => by simp [chkE, hn] at h2
  have hv : ¬ vl (bs s) < B256 := fun hv => hn (by rw [x.nv_eq h]; exact Nat.lt_of_le_of_lt (vl_take _ _) hv)
  rw [← par_over hc hv, chkE, if_neg hn]
theorem PsX.done (x : PsX s) (hc : canon (bs s) = true) (h : s.size ≤ x.i) : Value.tuple #[U x.v, .int .i64 0] = .tuple #[U (parN s), .int .i64 (parE s)] := by
  have e : x.v = vl (bs s) := by rw [PsX.v, show x.i = s.size from Nat.le_antisymm x.hi h, take_all]
  rw [← par_ok hc (by rw [← e]; exact x.hv), e]
end

/-! Format. -/
theorem sum_le {a b : ByteArray} (ha : a.size ≤ 1000) (hb : b.size ≤ 1000) : ((a.size + b.size : Nat) : Int) ≤ IntKind.i64.max := by
  show ((a.size + b.size : Nat) : Int) ≤ 9223372036854775807
  omega
theorem dec_size (n : Nat) : (dec n).size = nDigits n := decDigits_length n
theorem nDigits_78 {n : Nat} (h : n < B256) : nDigits n ≤ 78 := nDigits_le (by omega) (Nat.lt_of_lt_of_le h (by unfold B256; decide))
theorem dec_78 {n : Nat} (h : n < B256) : (dec n).size ≤ 1000 := by rw [dec_size]; have := nDigits_78 h; omega
theorem dec_20 {n : Nat} (h : n < 18446744073709551616) : (dec n).size ≤ 1000 := dec_78 (Nat.lt_of_lt_of_le h (by unfold B256; omega))
theorem rep_20 (k : Nat) : (⟨(List.replicate (19 - nDigits k) 48).toArray⟩ : ByteArray).size ≤ 1000 := by rw [size_mk, List.length_replicate]; omega
theorem repeat_one : ∀ c, Lib.repeatL [48] c = List.replicate c 48
  | 0 => rfl
  | c + 1 => by rw [Lib.repeatL, repeat_one c]; rfl
theorem nDigits_19 {k : Nat} (hk : k < 10000000000000000000) : nDigits k ≤ 19 := nDigits_le (by omega) (show k < 10 ^ 19 from hk)
theorem d_rep19 (k : Nat) (hk : k < 10000000000000000000) : Det Tryd.prog 40 [.string ⟨#[48]⟩, .int .i64 (IntKind.i64.wrap (19 - ((dec k).size : Int)))] (.string ⟨(List.replicate (19 - nDigits k) 48).toArray⟩) := by
  have h19 := nDigits_19 hk
  rw [dec_size, show IntKind.i64.wrap (19 - (nDigits k : Int)) = ((19 - nDigits k : Nat) : Int) by simp [IntKind.wrap, IntKind.bits, IntKind.signed]; omega, ← repeat_one]
  exact d_rep ⟨#[48]⟩ (19 - nDigits k) (by omega) (by show 1 * _ ≤ _; omega)
theorem group_fin {k : Nat} (hk : k < 10000000000000000000) : Value.string (⟨(List.replicate (19 - nDigits k) 48).toArray⟩ ++ dec k) = .string ⟨(dgs 19 k).toArray⟩ := by
  rw [mk_app, dgs_pad 19 k (by omega) (show k < 10 ^ 19 from hk)]
theorem d_dm19 (r : Nat) (hr : r < B256) : Det Tryd.prog 20 [U r, U 10000000000000000000] (.tuple #[U (r / 10000000000000000000), U (r % 10000000000000000000), .int .i64 0]) := by
  have h := d_divmod r 10000000000000000000 hr (by unfold B256; omega)
  have hq : r / 10000000000000000000 < B256 := Nat.lt_of_le_of_lt (Nat.div_le_self _ _) hr
  simpa only [quoR, remR, quoE, chkR, chkE, if_pos hq, if_neg (show ¬ (10000000000000000000 : Nat) = 0 by omega)] using h
/-- Ahead of a round of Format's loop: the rest and the groups behind it make up the numeral. -/
structure FmX (n : Nat) where
  r : Nat
  g : List UInt8
  hr : r ≤ n
  hd : decDigits n = decDigits r ++ g
section
variable {n : Nat}
theorem FmX.lt (x : FmX n) (hn : n < B256) : x.r < B256 := Nat.lt_of_le_of_lt x.hr hn
theorem big_of_dec {r : Nat} (h : decide ((blen r : Int) > 64) = true) : 18446744073709551616 ≤ r := by
  simp only [decide_eq_true_eq] at h
  by_cases h1 : r < 18446744073709551616
  · have := blen_64.2 h1; omega
  · omega
theorem small_of_dec {r : Nat} (h : decide ((blen r : Int) > 64) = false) : r < 18446744073709551616 := by
  simp only [decide_eq_false_iff_not] at h
  exact blen_64.1 (by omega)
def FmX.next (x : FmX n) (h : 18446744073709551616 ≤ x.r) : FmX n :=
  ⟨x.r / 10000000000000000000, dgs 19 (x.r % 10000000000000000000) ++ x.g, Nat.le_trans (Nat.div_le_self _ _) x.hr, by
    rw [x.hd, ← List.append_assoc, ← dec_group 19 (x.r / 10000000000000000000) (x.r % 10000000000000000000) (by omega) (Nat.mod_lt _ (by decide))]
    congr 2
    omega⟩
theorem FmX.next_lt (x : FmX n) (h : 18446744073709551616 ≤ x.r) : (x.next h).r < x.r := by
  show x.r / 10000000000000000000 < x.r
  omega
theorem FmX.next_g (x : FmX n) (h : 18446744073709551616 ≤ x.r) : Value.string (⟨(dgs 19 (x.r % 10000000000000000000)).toArray⟩ ++ ⟨x.g.toArray⟩) = .string ⟨(x.next h).g.toArray⟩ := by rw [mk_app]; rfl
theorem FmX.g_78 (x : FmX n) (hn : n < B256) : (⟨x.g.toArray⟩ : ByteArray).size ≤ 1000 := by
  have h1 := congrArg List.length x.hd
  rw [decDigits_length, List.length_append] at h1
  have := nDigits_78 hn
  rw [size_mk]
  omega
theorem FmX.sum (x : FmX n) (hn : n < B256) {k : Nat} : (((⟨(dgs 19 k).toArray⟩ : ByteArray).size + (⟨x.g.toArray⟩ : ByteArray).size : Nat) : Int) ≤ IntKind.i64.max :=
  sum_le (by rw [size_mk, dgs_length]; omega) (x.g_78 hn)
theorem FmX.sum2 (x : FmX n) (hn : n < B256) (h : x.r < 18446744073709551616) : (((dec x.r).size + (⟨x.g.toArray⟩ : ByteArray).size : Nat) : Int) ≤ IntKind.i64.max := sum_le (dec_20 h) (x.g_78 hn)
theorem FmX.fin (x : FmX n) : Value.string (dec x.r ++ ⟨x.g.toArray⟩) = .string (dec n) := by rw [mk_app, ← x.hd]
end

/-! The signed forms. -/
def decI (s : Bool) (n : Nat) : ByteArray := ⟨(if val s n then (if s then 45 :: decDigits n else decDigits n) else []).toArray⟩
theorem decI_no {s : Bool} {n : Nat} (h : val s n = false) : Value.string ⟨#[]⟩ = .string (decI s n) := by rw [decI, h]; rfl
theorem decI_neg {n : Nat} (h : val true n = true) : Value.string (⟨#[45]⟩ ++ dec n) = .string (decI true n) := by
  rw [decI, h, show (⟨#[45]⟩ : ByteArray) = ⟨([45] : List UInt8).toArray⟩ from rfl, mk_app]; rfl
theorem decI_pos (n : Nat) : Value.string (dec n) = .string (decI false n) := rfl
theorem sum_dec1 {n : Nat} (h : n < B256) : (((⟨#[45]⟩ : ByteArray).size + (dec n).size : Nat) : Int) ≤ IntKind.i64.max := sum_le (by decide) (dec_78 h)
/-- Does the string open with a minus sign, and what is behind it. -/
def negS (s : ByteArray) : Bool := Lib.hasPrefix (bs s) [45]
def tailS (s : ByteArray) : ByteArray := if negS s then ⟨((bs s).drop 1).toArray⟩ else s
theorem cut_fin {s : ByteArray} (h : negS s = false) : Value.tuple #[.string s, .bool false] = .tuple #[.string (tailS s), .bool (negS s)] := by
  simp [tailS, h]
theorem neg_size {s : ByteArray} (h : negS s = true) : 1 ≤ s.size := by
  have hl := bs_len s
  cases hb : bs s with
  | nil => rw [negS, hb] at h; cases h
  | cons b r => rw [hb] at hl; simp at hl; omega
theorem neg_slice {s : ByteArray} (h : negS s = true) : (0 : Int) ≤ (((⟨#[45]⟩ : ByteArray).size : Nat) : Int) ∧ (((⟨#[45]⟩ : ByteArray).size : Nat) : Int) ≤ (s.size : Int) ∧ (s.size : Int) ≤ (s.size : Int) := by
  have := neg_size h
  refine ⟨Int.natCast_nonneg _, ?_, Int.le_refl _⟩
  show (1 : Int) ≤ _
  omega
theorem extract_drop (s : ByteArray) (k : Nat) : s.extract k s.size = ⟨((bs s).drop k).toArray⟩ := by
  apply bs_eq
  show (s.extract k s.size).data.toList = (bs s).drop k
  rw [ByteArray.data_extract, Array.toList_extract, List.extract_eq_take_drop]
  exact List.take_of_length_le (by rw [List.length_drop]; exact Nat.le_refl _)
theorem cut_fin1 {s : ByteArray} (h : negS s = true) : Value.tuple #[.string (s.extract (((⟨#[45]⟩ : ByteArray).size : Nat) : Int).toNat ((s.size : Nat) : Int).toNat), .bool true] = .tuple #[.string (tailS s), .bool (negS s)] := by
  have e : s.extract (((⟨#[45]⟩ : ByteArray).size : Nat) : Int).toNat ((s.size : Nat) : Int).toNat = ⟨((bs s).drop 1).toArray⟩ := extract_drop s 1
  rw [e]
  simp [tailS, h]
theorem tail_lt {s : ByteArray} (h : s.size < 4611686018427387904) : (tailS s).size < 4611686018427387904 := by
  unfold tailS
  split
  · rw [size_mk, List.length_drop, bs_len]; omega
  · exact h
/-- What ParseInt returns. -/
def piE (s : ByteArray) : Int := if parE (tailS s) = 0 then (if negS s = true ∧ parN (tailS s) = 0 then 3 else 0) else parE (tailS s)
def piN (s : ByteArray) : Nat := if piE s = 0 then parN (tailS s) else 0
def piS (s : ByteArray) : Bool := decide (piE s = 0) && (negS s && decide (parN (tailS s) ≠ 0))
theorem piN_lt (s : ByteArray) : piN s < B256 := by unfold piN; split; exact parN_lt _; exact B256_pos
theorem bne_t {z : Int} (h : z ≠ 0) : (z != 0) = true := by simpa using h
theorem bne_f {z : Int} (h : z = 0) : (z != 0) = false := by simpa using h
theorem isz_t {n : Nat} (h : n = 0) : isz n = true := by rw [isz_eq (by rw [h]; exact B256_pos)]; simpa using h
theorem isz_f {n : Nat} (hn : n < B256) (h : n ≠ 0) : isz n = false := by rw [isz_eq hn]; simpa using h
theorem Ic0 : Ic false 0 = .agg #[.bool false, .int .u64 0, .int .u64 0, .int .u64 0, .int .u64 0] := Ic_zero
theorem pi_err_fin {s : ByteArray} (h : parE (tailS s) ≠ 0) : Value.tuple #[.agg #[.bool false, .int .u64 0, .int .u64 0, .int .u64 0, .int .u64 0], .int .i64 (parE (tailS s))] = .tuple #[Ic (piS s) (piN s), .int .i64 (piE s)] := by
  have e : piE s = parE (tailS s) := by rw [piE, if_neg h]
  rw [piS, piN, e, if_neg h, decide_eq_false h, Bool.false_and, Ic0]
theorem pi_zero_fin {s : ByteArray} (h : parE (tailS s) = 0) (hn : negS s = true) (h0 : parN (tailS s) = 0) : Value.tuple #[.agg #[.bool false, .int .u64 0, .int .u64 0, .int .u64 0, .int .u64 0], .int .i64 3] = .tuple #[Ic (piS s) (piN s), .int .i64 (piE s)] := by
  have e : piE s = 3 := by rw [piE, if_pos h, if_pos ⟨hn, h0⟩]
  rw [piS, piN, e, if_neg (by omega), decide_eq_false (by omega), Bool.false_and, Ic0]
theorem pi_ok_fin {s : ByteArray} (h : parE (tailS s) = 0) (hn : negS s = false ∨ parN (tailS s) ≠ 0) : Value.tuple #[Ic (negS s && decide (parN (tailS s) ≠ 0)) (parN (tailS s)), .int .i64 0] = .tuple #[Ic (piS s) (piN s), .int .i64 (piE s)] := by
  have e : piE s = 0 := by
    rw [piE, if_pos h, if_neg]
    rintro ⟨h1, h2⟩
    rcases hn with h3 | h3
    · rw [h1] at h3; cases h3
    · exact h3 h2
  rw [piS, piN, e, if_pos rfl, decide_eq_true rfl, Bool.true_and]
end Go.Proofs.YtkionnggdncncaaDoor

