/- What the walks of the reference of layer 4 lean on: states of loops, numbers in slices whose first digit is read. No conditions. -/
import Derived.Test.YtkionnggdncncaaDoorD4n
import Derived.Test.YtkionnggdncncaaDoorSxr
namespace Go.Proofs.YtkionnggdncncaaDoor
open Go.RowKit Sx Go.Lib
set_option maxRecDepth 100000

/-- A slice that reads as the number n, not zero, and the memory that shows it. -/
structure BigY (n : Nat) where
  b : Nat
  cap : Nat
  L : Facts
  h : ∀ w, Sx.Holds w L → Big w (.slice (some ⟨b, 0, none⟩) (nd n) cap) n
abbrev BigY.v {n : Nat} (x : BigY n) : Value := .slice (some ⟨x.b, 0, none⟩) (nd n) x.cap
theorem ndY_pos {n : Nat} (h : 0 < n) : 0 < nd n := by
  by_cases h0 : 0 < nd n
  · exact h0
  · have := (nd_le (n := n) (k := 0)).1 (by omega); simp at this; omega
theorem bigY_of {w : World} {v : Value} {n : Nat} (h : Big w v n) (h0 : 0 < n) : ∃ x : BigY n, v = x.v ∧ Sx.Holds w x.L ∧ ∀ q ∈ x.L, v.ownBlock = some q.1 := by
  obtain ⟨A, cap, rfl, h1, h2, h3, h4⟩ := h
  obtain ⟨b, rfl, hb, hc⟩ := h4 (ndY_pos h0)
  refine ⟨⟨b, cap, [(b, w.heap[b])], fun w' hw => ⟨_, cap, rfl, h1, h2, h3, fun _ => ⟨b, rfl, ?_, fun i hi => ?_⟩⟩⟩, rfl, ?_, ?_⟩
  · exact lt_of_some (hw (b, w.heap[b]) (by simp))
  · rw [cell_same (w := w) (by rw [hw (b, w.heap[b]) (by simp)]; simp [hb])]; exact hc i hi
  · intro q hq; simp only [List.mem_singleton] at hq; subst hq; simp [hb]
  · intro q hq; simp only [List.mem_singleton] at hq; subst hq; rfl
def bigY0 (n : Nat) : BigY n where
  b := 0
  cap := 0
  L := [(0, .cells #[] 0), (0, .cells #[] 1)]
  h w hw := by
    have h0 : w.heap[0]? = _ := hw (0, .cells #[] 0) (by simp)
    have h1 : w.heap[0]? = _ := hw (0, .cells #[] 1) (by simp)
    rw [h0] at h1
    simp at h1
abbrev bigXY (n m : Nat) : Or := .call (BigX n × BigY m) (bigX0 n, bigY0 m) (fun x => .tuple #[x.1.v, x.2.v]) (fun x => x.1.L ++ x.2.L)
theorem c_divY {n m : Nat} (x : BigX n) (y : BigX m) (hn : nd n ≤ 1048576) (hm : nd m ≤ 1048575) (h0 : 0 < m) (hr : 0 < n % m) (A : Facts) (hx : Sub x.L A) (hy : Sub y.L A) :
    Gives Tryd.prog 42 [x.v, y.v] A (BigX (n / m) × BigY (n % m)) (fun x => .tuple #[x.1.v, x.2.v]) (fun x => x.1.L ++ x.2.L) := by
  intro w hw
  rw [callRun_enters ent_div]
  refine (div_new _ _ n m w (x.at hx hw) (y.at hy hw) hn hm h0).mono fun e w' ⟨u, v, h1, h2, h3, h4, h5, h6⟩ => ⟨_, h1, ?_⟩
  obtain ⟨x, e1, e2, e3⟩ := bigX_of h2
  obtain ⟨y, f1, f2, f3⟩ := bigY_of h3 hr
  refine ⟨(x, y), by rw [e1, f1], fun q hq => (List.mem_append.1 hq).elim (e2 q) (f2 q), fun q hq => .inl ?_, h4⟩
  rcases List.mem_append.1 hq with hq | hq
  · exact h5 _ (e3 q hq)
  · exact h6 _ (f3 q hq)
/-- The first digit of a small number. -/
theorem y_load {n : Nat} (y : BigY n) (h0 : 0 < n) (hn : n < 65536) {A : Facts} (hy : Sub y.L A) : ∀ w, Sx.Holds w A → (loadVar 3 ((⟨y.b, 0, none⟩ : Addr).add 0)).run Tryd.prog w = .ok (.int .i64 (n : Int)) w := by
  intro w hw
  obtain ⟨A', cap, hv, h1, h2, h3, h4⟩ := y.h w (hy.holds hw)
  obtain ⟨b, hA, hb, hc⟩ := h4 (ndY_pos h0)
  simp only [Value.slice.injEq] at hv
  rw [← hv.1] at hA
  simp only [Option.some.injEq, Addr.mk.injEq] at hA
  have hcell := hc 0 (ndY_pos h0)
  rw [← hA.1, show dig n 0 = (n : Int) by simp only [dig, Nat.pow_zero, Nat.div_one]; omega] at hcell
  rw [add_none]
  simp only [loadVar, Sem.run_bind, Tryd.isAgg3, Result.andThen_ok, Bool.false_eq_true, if_false, run_load, Nat.add_zero, hcell]

/-! FormatBig. -/
structure FbX (n : Nat) where
  b : Nat
  x : BigX b
  ten : BigX 10
  s : List UInt8
  hb : b ≤ n
  h0 : b = 0 → decDigits n = s
  h1 : 0 < b → decDigits n = decDigits b ++ s
theorem nd_B {n : Nat} (h : n < B256) : nd n ≤ 1048576 := Nat.le_trans (nd_16.2 h) (by omega)
theorem nd_ten : nd 10 ≤ 1048575 := Nat.le_trans (nd_16.2 ten_B) (by omega)
/-- One digit's text, as the reference cuts it out. -/
abbrev digT : ByteArray := { data := #[48, 49, 50, 51, 52, 53, 54, 55, 56, 57] }
theorem dig_cut {d : Nat} (h : d < 10) : digT.extract d (d + 1) = ⟨[UInt8.ofNat (48 + d)].toArray⟩ := by
  have h : d = 0 ∨ d = 1 ∨ d = 2 ∨ d = 3 ∨ d = 4 ∨ d = 5 ∨ d = 6 ∨ d = 7 ∨ d = 8 ∨ d = 9 := by omega
  rcases h with rfl | rfl | rfl | rfl | rfl | rfl | rfl | rfl | rfl | rfl <;> rfl
section
variable {n : Nat}
theorem nd_gt {b : Nat} (h : decide ((nd b : Int) > 0) = true) : 0 < b := by
  simp only [decide_eq_true_eq] at h
  by_cases h0 : b = 0
  · subst h0; rw [nd_zero] at h; omega
  · omega
theorem nd_le0 {b : Nat} (h : decide ((nd b : Int) > 0) = false) : b = 0 := by
  simp only [decide_eq_false_iff_not] at h
  have := (nd_le (n := b) (k := 0)).1 (by omega)
  simpa using this
theorem nd_dec {b : Nat} (h : 0 < b) : decide ((nd b : Int) > 0) = true := by
  have := ndY_pos h
  apply decide_eq_true
  omega
theorem nd_dec0 {b : Nat} (h : b = 0) : decide ((nd b : Int) > 0) = false := by subst h; rfl
theorem wrap_dig {d : Nat} (h : d < 10) : IntKind.i64.wrap ((d : Int) + 1) = ((d + 1 : Nat) : Int) := wrap_succ (by omega)
theorem cut_ok {d : Nat} (h : d < 10) : (0 : Int) ≤ (d : Int) ∧ (d : Int) ≤ IntKind.i64.wrap ((d : Int) + 1) ∧ IntKind.i64.wrap ((d : Int) + 1) ≤ ((digT.size : Nat) : Int) := by
  rw [wrap_dig h]
  refine ⟨by omega, by omega, ?_⟩
  show _ ≤ (10 : Int)
  omega
theorem cut_val {d : Nat} (h : d < 10) (s : List UInt8) : Value.string (digT.extract (d : Int).toNat (IntKind.i64.wrap ((d : Int) + 1)).toNat ++ ⟨s.toArray⟩) = .string ⟨(UInt8.ofNat (48 + d) :: s).toArray⟩ := by
  rw [wrap_dig h]
  show Value.string (digT.extract d (d + 1) ++ _) = _
  rw [dig_cut h, mk_app]
  rfl
theorem FbX.s_78 (x : FbX n) (hn : n < B256) : (⟨x.s.toArray⟩ : ByteArray).size ≤ 1000 := by
  rw [size_mk]
  have h78 := nDigits_78 hn
  by_cases h : x.b = 0
  · rw [← x.h0 h, decDigits_length]; omega
  · have h1 := congrArg List.length (x.h1 (by omega))
    rw [decDigits_length, List.length_append] at h1
    omega
theorem cut_sum {d : Nat} (h : d < 10) (x : FbX n) (hn : n < B256) : (((digT.extract (d : Int).toNat (IntKind.i64.wrap ((d : Int) + 1)).toNat).size + (⟨x.s.toArray⟩ : ByteArray).size : Nat) : Int) ≤ IntKind.i64.max := by
  rw [wrap_dig h]
  exact sum_le (by show (digT.extract d (d + 1)).size ≤ 1000; rw [dig_cut h, size_mk]; simp) (x.s_78 hn)
def FbX.next (x : FbX n) (h : 0 < x.b) (y : BigX (x.b / 10)) : FbX n :=
  ⟨x.b / 10, y, x.ten, UInt8.ofNat (48 + x.b % 10) :: x.s, Nat.le_trans (Nat.div_le_self _ _) x.hb,
    fun h0 => by rw [x.h1 h, dec_small (by omega), show x.b % 10 = x.b by omega]; rfl,
    fun h0 => by rw [x.h1 h, dec_big (show ¬ x.b < 10 by omega), List.append_assoc]; rfl⟩
theorem FbX.next_lt (x : FbX n) (h : 0 < x.b) (y : BigX (x.b / 10)) : (x.next h y).b < x.b := by
  show x.b / 10 < x.b
  omega
theorem FbX.fin (x : FbX n) (h : x.b = 0) : Value.string ⟨x.s.toArray⟩ = .string (dec n) := by rw [dec, x.h0 h]
theorem FbX.zero (x : FbX n) (h : x.b % 10 = 0) : Value.string (digT.extract (0 : Int).toNat (IntKind.i64.wrap (0 + 1)).toNat ++ ⟨x.s.toArray⟩) = .string ⟨(UInt8.ofNat (48 + x.b % 10) :: x.s).toArray⟩ := by
  rw [h]; exact cut_val (d := 0) (by omega) x.s
end

/-! Parse. -/
structure RpX (s : ByteArray) where
  i : Nat
  hi : i ≤ s.size
  v : Nat
  x : BigX v
  hv : v = vl ((bs s).take i)
def bigNil : BigX 0 := ⟨none, 0, [], fun _ _ => ⟨none, 0, rfl, by rw [nd_zero]; omega, by rw [nd_zero]; omega, by rw [nd_zero]; omega, fun h => by rw [nd_zero] at h; omega⟩⟩
section
variable {s : ByteArray}
def RpX.first (s : ByteArray) : RpX s := ⟨0, Nat.zero_le _, 0, bigNil, rfl⟩
def RpX.d (x : RpX s) : Nat := dgt ((bs s).getD x.i 0)
theorem canon_len {s : ByteArray} (hc : canon (bs s) = true) : nDigits (vl (bs s)) = s.size := by rw [← decDigits_length, dec_vl hc, bs_len]
theorem canon_big {s : ByteArray} (hc : canon (bs s) = true) (h : 78 < s.size) : ¬ vl (bs s) < B256 := fun hv => by
  have := nDigits_78 hv
  rw [canon_len hc] at this
  omega
theorem RpX.v_lt (x : RpX s) (hc : canon (bs s) = true) (h78 : s.size ≤ 78) : x.v < 10 ^ 78 := by
  have h1 := lt_pow_nDigits (vl (bs s))
  rw [canon_len hc] at h1
  have h2 : 10 ^ s.size ≤ 10 ^ 78 := Nat.pow_le_pow_right (by omega) h78
  rw [x.hv]
  exact Nat.lt_of_le_of_lt (vl_take _ _) (Nat.lt_of_lt_of_le h1 h2)
theorem RpX.nd_v (x : RpX s) (hc : canon (bs s) = true) (h78 : s.size ≤ 78) : nd x.v ≤ 1048576 := Nat.le_trans (nd_512 (Nat.lt_of_lt_of_le (x.v_lt hc h78) (by unfold B256; decide))) (by omega)
theorem RpX.nd_v10 (x : RpX s) (hc : canon (bs s) = true) (h78 : s.size ≤ 78) : nd (x.v * 10) ≤ 1048576 := Nat.le_trans (nd_512 (Nat.lt_of_lt_of_le (Nat.mul_lt_mul_of_pos_right (x.v_lt hc h78) (by omega)) (by unfold B256; decide))) (by omega)
theorem RpX.d_lt (x : RpX s) (hc : canon (bs s) = true) (h : x.i < s.size) : x.d < 10 := by rw [RpX.d, getD_at h]; exact dgt_lt (canon_dig hc h)
theorem RpX.nd_d (x : RpX s) (hc : canon (bs s) = true) (h : x.i < s.size) : nd x.d ≤ 1048576 := nd_B (dig_B (x.d_lt hc h))
theorem RpX.c_d (x : RpX s) (hc : canon (bs s) = true) (h : x.i < s.size) (A : Facts) : Gives Tryd.prog 33 [.int .u64 (IntKind.u64.wrap (IntKind.u8.wrap (byteAt s x.i - 48)))] A (BigX x.d) BigX.v BigX.L := by
  have h10 := x.d_lt hc h
  have e : IntKind.u8.wrap (byteAt s x.i - 48) = (x.d : Int) := by rw [byte_dig hc h, RpX.d, getD_at h]
  rw [e, show IntKind.u64.wrap (x.d : Int) = (x.d : Int) by simp [IntKind.wrap, IntKind.bits, IntKind.signed]; omega]
  exact c_from64 x.d (by omega) A
def RpX.next (x : RpX s) (h : x.i < s.size) (y : BigX (x.v * 10 + x.d)) : RpX s := ⟨x.i + 1, h, _, y, by rw [take_succ s x.i h, vl_snoc, x.hv, RpX.d, getD_at h]⟩
theorem RpX.next_lt (x : RpX s) (h : x.i < s.size) (y : BigX (x.v * 10 + x.d)) : s.size - (x.next h y).i < s.size - x.i := by
  show s.size - (x.i + 1) < s.size - x.i
  omega
theorem RpX.next_i (x : RpX s) (h78 : s.size ≤ 78) (h : x.i < s.size) (y : BigX (x.v * 10 + x.d)) : Value.int .i64 (IntKind.i64.wrap ((x.i : Int) + 1)) = .int .i64 ((x.next h y).i : Int) := by
  rw [wrap_succ (by omega)]; rfl
theorem RpX.done (x : RpX s) (hc : canon (bs s) = true) (h : s.size ≤ x.i) : Value.tuple #[U (chkR x.v), .int .i64 (chkE x.v)] = .tuple #[U (parN s), .int .i64 (parE s)] := by
  have e : x.v = vl (bs s) := by rw [x.hv, show x.i = s.size from Nat.le_antisymm x.hi h, take_all]
  simp only [parN, parE, hc, if_true, e]
theorem gt78 {s : ByteArray} (h : 78 < s.size) : decide ((s.size : Int) > 78) = true := by apply decide_eq_true; omega
theorem le78 {s : ByteArray} (h : s.size ≤ 78) : decide ((s.size : Int) > 78) = false := by apply decide_eq_false; omega
theorem len_z {s : ByteArray} (h : s.size = 0) : decide ((s.size : Int) = 0) = true := by apply decide_eq_true; omega
theorem len_nz {s : ByteArray} (h : s.size ≠ 0) : decide ((s.size : Int) = 0) = false := by apply decide_eq_false; omega
theorem len_p {s : ByteArray} (h : s.size ≠ 0) : decide ((s.size : Int) > 0) = true := by apply decide_eq_true; omega
theorem len_np {s : ByteArray} (h : s.size = 0) : decide ((s.size : Int) > 0) = false := by apply decide_eq_false; omega
theorem ngt1 {s : ByteArray} (h : ¬ 1 < s.size) : decide ((s.size : Int) > 1) = false := by apply decide_eq_false; omega
theorem neg_byte {s : ByteArray} (h : s.size ≠ 0) : decide (byteAt s 0 = 45) = negS s := by
  have hl := bs_len s
  cases hb : bs s with
  | nil => rw [hb] at hl; exact absurd hl.symm h
  | cons b r =>
    rw [byteAt0 hb, negS, hb]
    simp only [Lib.hasPrefix, List.isPrefixOf, Bool.and_true]
    rw [Bool.eq_iff_iff]
    simp only [decide_eq_true_eq, beq_iff_eq]
    constructor
    · intro h1; exact (UInt8.toNat.inj (show (45 : UInt8).toNat = b.toNat by show 45 = b.toNat; omega))
    · intro h1; rw [← h1]; rfl
theorem neg_empty {s : ByteArray} (h : s.size = 0) : negS s = false := by
  rw [negS, List.eq_nil_of_length_eq_zero ((bs_len s).trans h)]; rfl
theorem tail_no {s : ByteArray} (h : negS s = false) : tailS s = s := by simp [tailS, h]
theorem tail_yes {s : ByteArray} (h : negS s = true) : s.extract (1 : Int).toNat (s.size : Int).toNat = tailS s := by
  show s.extract 1 s.size = _
  rw [extract_drop, tailS, if_pos h]
theorem slice1 {s : ByteArray} (h : negS s = true) : (0 : Int) ≤ 1 ∧ (1 : Int) ≤ (s.size : Int) ∧ (s.size : Int) ≤ (s.size : Int) := neg_slice h
theorem rpi_ok {s : ByteArray} {b : Bool} (hb : b = negS s) (h : parE (tailS s) = 0) (hn : negS s = false ∨ parN (tailS s) ≠ 0) : Value.tuple #[Ic b (parN (tailS s)), .int .i64 0] = .tuple #[Ic (piS s) (piN s), .int .i64 (piE s)] := by
  rw [← pi_ok_fin h hn, hb]
  rcases hn with h1 | h1
  · rw [h1]; rfl
  · rw [decide_eq_true h1, Bool.and_true]
end
end Go.Proofs.YtkionnggdncncaaDoor

