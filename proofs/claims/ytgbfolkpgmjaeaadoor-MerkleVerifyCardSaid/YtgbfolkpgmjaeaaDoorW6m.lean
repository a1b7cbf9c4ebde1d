/- The encoding of a number: the number of its bytes, then these bytes. Its laws. No Go function in this text; no conditions. -/
import Derived.Test.YtgbfolkpgmjaeaaDoorW6n
import Derived.Laws.Cover3
namespace Go.Proofs.YtgbfolkpgmjaeaaDoor
open Go.RowKit Sx
set_option maxRecDepth 100000

/-- How many bytes a number takes. -/
def nb (n : Nat) : Nat := (blen n + 7) / 8
/-- Byte i of a number, and its lowest k bytes. -/
def byt (n i : Nat) : UInt8 := UInt8.ofNat (n / 256 ^ i % 256)
def dgb (n : Nat) : Nat → List UInt8
  | 0 => []
  | i + 1 => byt n i :: dgb n i
def enc (n : Nat) : List UInt8 := UInt8.ofNat (nb n) :: dgb n (nb n)
theorem byt_toNat (n i : Nat) : (byt n i).toNat = n / 256 ^ i % 256 := by
  unfold byt; rw [UInt8.toNat_ofNat']; omega
theorem dgb_length (n : Nat) : ∀ k, (dgb n k).length = k
  | 0 => rfl
  | k + 1 => by simp [dgb, dgb_length n k]
theorem be_dgb (n : Nat) : ∀ k, be (dgb n k) = n % 256 ^ k
  | 0 => by simp [dgb, be, Nat.mod_one]
  | k + 1 => by
    simp only [dgb, be, dgb_length, byt_toNat, be_dgb n k]
    rw [Nat.pow_succ, Nat.mod_mul, Nat.add_comm, Nat.mul_comm (256 ^ k)]
theorem nb_lt (n : Nat) : n < 256 ^ nb n := by
  have h := blen_lt n
  rw [← pow8]
  refine Nat.lt_of_lt_of_le h (Nat.pow_le_pow_right (by omega) ?_)
  unfold nb; omega
theorem be_all (n : Nat) : be (dgb n (nb n)) = n := by rw [be_dgb, Nat.mod_eq_of_lt (nb_lt n)]
theorem nb_32 {n : Nat} (h : n < B256) : nb n ≤ 32 := by have := blen_256 h; unfold nb; omega
theorem nb_8 {n : Nat} (h : n < 18446744073709551616) : nb n ≤ 8 := by have := blen_64.2 h; unfold nb; omega
theorem nb_0 : nb 0 = 0 := rfl
theorem nb_low {n : Nat} (h : n ≠ 0) : 0 < nb n ∧ 256 ^ (nb n - 1) ≤ n := by
  have h1 := blen_le h
  have h2 := blen_pos h
  refine ⟨by unfold nb; omega, Nat.le_trans ?_ h1⟩
  rw [← pow8]
  exact Nat.pow_le_pow_right (by omega) (by unfold nb; omega)
theorem nb_eq {n k : Nat} (h1 : 256 ^ k ≤ n) (h2 : n < 256 ^ (k + 1)) : nb n = k + 1 := by
  have h0 : n ≠ 0 := by have := Nat.pow_pos (a := 256) (n := k) (by omega); omega
  have h3 := nb_low h0
  have h4 := nb_lt n
  have a : k < nb n := by
    rcases Nat.lt_or_ge k (nb n) with h | h
    · exact h
    · have := Nat.pow_le_pow_right (n := 256) (by omega) h; omega
  have b : nb n - 1 < k + 1 := by
    rcases Nat.lt_or_ge (nb n - 1) (k + 1) with h | h
    · exact h
    · have := Nat.pow_le_pow_right (n := 256) (by omega) h; omega
  omega
theorem enc_length (n : Nat) : (enc n).length = 1 + nb n := by simp [enc, dgb_length]; omega
theorem enc_head {n : Nat} (h : n < B256) : ((enc n).getD 0 0).toNat = nb n := by
  have := nb_32 h
  show (UInt8.ofNat (nb n)).toNat = _
  rw [UInt8.toNat_ofNat']; omega
theorem dgb_lead {n : Nat} (h : n ≠ 0) : 0 < ((dgb n (nb n)).getD 0 0).toNat := by
  obtain ⟨h1, h2⟩ := nb_low h
  have h3 := nb_lt n
  obtain ⟨k, hk⟩ : ∃ k, nb n = k + 1 := ⟨nb n - 1, by omega⟩
  rw [hk] at h2 h3 ⊢
  show 0 < (byt n k).toNat
  rw [byt_toNat]
  have hp := Nat.pow_pos (a := 256) (n := k) (by omega)
  have h4 : n / 256 ^ k < 256 := by rw [Nat.div_lt_iff_lt_mul hp, Nat.mul_comm]; rw [Nat.pow_succ] at h3; omega
  have h5 : 0 < n / 256 ^ k := Nat.div_pos h2 hp
  omega
/-- One more digit behind. -/
theorem dgb_snoc (m : Nat) (x : UInt8) : ∀ k, dgb (m * 256 + x.toNat) (k + 1) = dgb m k ++ [x]
  | 0 => by
    have hx : x.toNat < 256 := x.toNat_lt
    show [byt (m * 256 + x.toNat) 0] = [x]
    congr 1
    apply UInt8.toNat_inj.1
    rw [byt_toNat]
    simp
  | k + 1 => by
    have hx : x.toNat < 256 := x.toNat_lt
    show byt (m * 256 + x.toNat) (k + 1) :: dgb (m * 256 + x.toNat) (k + 1) = byt m k :: (dgb m k ++ [x])
    rw [dgb_snoc m x k]
    congr 1
    apply UInt8.toNat_inj.1
    rw [byt_toNat, byt_toNat, Nat.pow_succ, Nat.mul_comm (256 ^ k), ← Nat.div_div_eq_div_mul, show (m * 256 + x.toNat) / 256 = m by omega]
theorem nb_snoc {m : Nat} (x : UInt8) (h : 0 < m ∨ 0 < x.toNat) : nb (m * 256 + x.toNat) = nb m + 1 := by
  have hx : x.toNat < 256 := x.toNat_lt
  by_cases hm : m = 0
  · subst hm
    rw [nb_0]
    exact nb_eq (by simp; omega) (by simp; omega)
  · have h1 := nb_low hm
    have h2 := nb_lt m
    refine nb_eq ?_ ?_
    · have := Nat.mul_le_mul_right 256 h1.2
      rw [← Nat.pow_succ, show (nb m - 1).succ = nb m by omega] at this
      omega
    · rw [Nat.pow_succ]; omega
/-- The digits that matter. -/
def dg (n : Nat) : List UInt8 := dgb n (nb n)
theorem dg_snoc {m : Nat} (x : UInt8) (h : 0 < m ∨ 0 < x.toNat) : dg (m * 256 + x.toNat) = dg m ++ [x] := by
  unfold dg; rw [nb_snoc x h, dgb_snoc]
theorem dg_0 : dg 0 = [] := rfl
theorem dg_length (n : Nat) : (dg n).length = nb n := dgb_length n _
theorem nb_pos {n : Nat} (h : 0 < n) : 0 < nb n := (nb_low (by omega)).1
theorem div_snoc (n k : Nat) : n / 256 ^ k = n / 256 ^ (k + 1) * 256 + (byt n k).toNat := by
  rw [byt_toNat, Nat.pow_succ, ← Nat.div_div_eq_div_mul]
  omega
/-- A number whose bytes begin with one that is not zero. -/
theorem dgb_mod (n : Nat) : ∀ k, dgb (n % 256 ^ k) k = dgb n k := by
  have key : ∀ k j, j ≤ k → dgb (n % 256 ^ k) j = dgb n j := by
    intro k j
    induction j with
    | zero => intro _; rfl
    | succ j ih =>
      intro hj
      show byt _ j :: dgb _ j = byt _ j :: dgb _ j
      rw [ih (by omega)]
      congr 1
      apply UInt8.toNat_inj.1
      rw [byt_toNat, byt_toNat]
      have e : 256 ^ k = 256 ^ j * 256 ^ (k - j) := by rw [← Nat.pow_add]; congr 1; omega
      rw [e, Nat.mod_mul_right_div_self, Nat.mod_mod_of_dvd]
      exact ⟨256 ^ (k - j - 1), by rw [Nat.mul_comm, ← Nat.pow_succ]; congr 1; omega⟩
  exact fun k => key k k (Nat.le_refl _)
theorem dgb_be : ∀ l : List UInt8, dgb (be l) l.length = l
  | [] => rfl
  | b :: r => by
    have hr := be_lt r
    have hb : b.toNat < 256 := b.toNat_lt
    show byt (be (b :: r)) r.length :: dgb (be (b :: r)) r.length = b :: r
    have hp := Nat.pow_pos (a := 256) (n := r.length) (by omega)
    have e1 : be (b :: r) = b.toNat * 256 ^ r.length + be r := rfl
    congr 1
    · apply UInt8.toNat_inj.1
      rw [byt_toNat, e1, Nat.mul_comm, Nat.mul_add_div hp, Nat.div_eq_of_lt hr]
      omega
    · rw [← dgb_mod, e1, Nat.mul_comm, Nat.mul_add_mod, Nat.mod_eq_of_lt hr]
      exact dgb_be r
theorem nb_be {l : List UInt8} (h : l = [] ∨ 0 < (l.getD 0 0).toNat) : nb (be l) = l.length := by
  cases l with
  | nil => rfl
  | cons b r =>
    have hr := be_lt r
    have hb : b.toNat < 256 := b.toNat_lt
    have h0 : 0 < b.toNat := by rcases h with h | h; cases h; exact h
    have hp := Nat.pow_pos (a := 256) (n := r.length) (by omega)
    refine nb_eq ?_ ?_
    · show 256 ^ r.length ≤ b.toNat * 256 ^ r.length + be r
      have := Nat.le_mul_of_pos_left (256 ^ r.length) h0
      omega
    · exact be_lt (b :: r)
theorem enc_be {l : List UInt8} (h : l = [] ∨ 0 < (l.getD 0 0).toNat) : enc (be l) = UInt8.ofNat l.length :: l := by
  unfold enc; rw [nb_be h, dgb_be]

/-- What an encoding reads as, wherever it stands. -/
theorem rdn_enc (p q : List UInt8) {n m : Nat} (hn : n < B256) (hm : nb n ≤ m) : rdn (p ++ enc n ++ q) (p.length : Int) m = (n, p.length + (enc n).length, 0) := by
  have hd : (p ++ enc n ++ q).drop p.length = enc n ++ q := by rw [List.append_assoc, List.drop_left]
  have h0 : sigC (enc n ++ q) = nb n := by
    unfold sigC; rw [← enc_head hn]; rfl
  have hl := enc_length n
  have hs : sigOk ((p ++ enc n ++ q).drop p.length) m = true := by
    rw [hd, sigOk_iff, h0, List.length_append, hl]
    refine ⟨by omega, hm, by omega, ?_⟩
    by_cases hz : n = 0
    · subst hz; exact .inl rfl
    · right
      have h1 := dgb_lead hz
      have h2 := nb_pos (Nat.pos_of_ne_zero hz)
      have : (enc n ++ q).getD 1 0 = (dgb n (nb n)).getD 0 0 := by
        obtain ⟨k, hk⟩ : ∃ k, nb n = k + 1 := ⟨nb n - 1, by omega⟩
        unfold enc
        rw [hk]
        rfl
      rw [this]; exact h1
  rw [rdn_yes (by simp) hs, hd, h0, hl]
  refine Prod.ext ?_ (Prod.ext ?_ rfl)
  · show be (((p ++ enc n ++ q).drop (p.length + 1)).take (nb n)) = n
    rw [← List.drop_drop, hd]
    show be ((dgb n (nb n) ++ q).take (nb n)) = n
    rw [List.take_append_of_le_length (by rw [dgb_length]; omega), List.take_of_length_le (by rw [dgb_length]; omega), be_all]
  · show p.length + 1 + nb n = p.length + (1 + nb n); omega

/-- The rows of 'encodeNumber' while it fills them. -/
def encP (n i : Nat) : List UInt8 := UInt8.ofNat (nb n) :: (List.replicate (nb n - i) 0 ++ dgb n i)
theorem encP_all (n : Nat) : encP n (nb n) = enc n := by simp [encP, enc]
theorem encP_length {n i : Nat} (h : i ≤ nb n) : (encP n i).length = 1 + nb n := by simp [encP, dgb_length]; omega
theorem encP_zero (n : Nat) : setRange (List.replicate (1 + nb n) (.int .u8 0)) (0 + (0 : Int).toNat * 1) [.int .u8 ((UInt8.ofNat (nb n)).toNat : Int)] = bcs (encP n 0) := by
  simp [setRange, encP, bcs, dgb]
theorem encP_succ {n i : Nat} (h : i < nb n) : setRange (bcs (encP n i)) (0 + (((nb n - i : Nat) : Int)).toNat * 1) [.int .u8 ((byt n i).toNat : Int)] = bcs (encP n (i + 1)) := by
  obtain ⟨k, hk⟩ : ∃ k, nb n - i = k + 1 := ⟨nb n - i - 1, by omega⟩
  have hk' : nb n - (i + 1) = k := by omega
  unfold encP
  rw [hk, hk']
  simp only [setRange, bcs, Int.toNat_natCast, Nat.zero_add, Nat.mul_one, dgb]
  rw [List.replicate_succ']
  simp [List.drop_append]

theorem add7 {n : Nat} (h : n < B256) : IntKind.i64.wrap (((blen n : Nat) : Int) + 7) = ((blen n + 7 : Nat) : Int) := by
  have := blen_256 h
  rw [show (((blen n : Nat) : Int) + 7) = ((blen n + 7 : Nat) : Int) by omega, wrap_nat (by omega)]
theorem quo_nb {n : Nat} (h : n < B256) : IntKind.i64.wrap (((blen n + 7 : Nat) : Int).tdiv 8) = ((nb n : Nat) : Int) := by
  have := blen_256 h
  rw [quo8 (by omega)]; rfl
theorem one_nb {n : Nat} (h : n < B256) : IntKind.i64.wrap (1 + IntKind.i64.wrap (((blen n + 7 : Nat) : Int).tdiv 8)) = ((1 + nb n : Nat) : Int) := by
  have := nb_32 h
  rw [quo_nb h, show (1 + ((nb n : Nat) : Int)) = ((1 + nb n : Nat) : Int) by omega, wrap_nat (by omega)]
theorem mk_b {n : Nat} (h : n < B256) : 1 * (1 + nb n) ≤ 281474976710656 := by have := nb_32 h; omega
theorem mk_c {n : Nat} (h : n < B256) : 1 + nb n < 9223372036854775808 := by have := nb_32 h; omega
theorem sub1 {a i : Nat} (h : i ≤ a) (ha : a < 4611686018427387904) : IntKind.i64.wrap ((a : Int) - (i : Int)) = ((a - i : Nat) : Int) := by
  rw [show ((a : Int) - (i : Int)) = ((a - i : Nat) : Int) by omega, wrap_nat (by omega)]
theorem u8_wrap {z : Int} {b : Nat} (h : z = (b : Int)) : IntKind.u8.wrap z = ((UInt8.ofNat b).toNat : Int) := by
  subst h
  rw [UInt8.toNat_ofNat']
  simp [IntKind.wrap, IntKind.bits, IntKind.signed]
theorem limb_byte (n i : Nat) : IntKind.u8.wrap ((limb n (i / 8)).fdiv (2 ^ (8 * (i % 8)))) = ((byt n i).toNat : Int) := by
  have hb : i % 8 < 8 := Nat.mod_lt _ (by omega)
  have e0 : (2 : Int) ^ (8 * (i % 8)) = ((256 ^ (i % 8) : Nat) : Int) := by rw [← pow8]; simp
  have e1 : (limb n (i / 8)).fdiv (2 ^ (8 * (i % 8))) = ((n / 18446744073709551616 ^ (i / 8) % 18446744073709551616 / 256 ^ (i % 8) : Nat) : Int) := by
    rw [e0]; unfold limb; rw [Int.fdiv_eq_ediv_of_nonneg _ (Int.natCast_nonneg _)]; rfl
  have hW : (18446744073709551616 : Nat) = 256 ^ (i % 8) * (256 * 256 ^ (7 - i % 8)) := by
    rw [← Nat.mul_assoc, ← Nat.pow_succ, ← Nat.pow_add, show (i % 8).succ + (7 - i % 8) = 8 by omega]
  have e2 : n / 18446744073709551616 ^ (i / 8) % 18446744073709551616 / 256 ^ (i % 8) % 256 = n / 256 ^ i % 256 := by
    have h1 : n / 18446744073709551616 ^ (i / 8) % 18446744073709551616 / 256 ^ (i % 8) = n / 18446744073709551616 ^ (i / 8) / 256 ^ (i % 8) % (256 * 256 ^ (7 - i % 8)) := by
      rw [show n / 18446744073709551616 ^ (i / 8) % 18446744073709551616 = n / 18446744073709551616 ^ (i / 8) % (256 ^ (i % 8) * (256 * 256 ^ (7 - i % 8))) from congrArg _ hW, Nat.mod_mul_right_div_self]
    rw [h1, Nat.mod_mod_of_dvd _ ⟨_, rfl⟩, Nat.div_div_eq_div_mul, W_pow, ← Nat.pow_add, show 8 * (i / 8) + i % 8 = i from Nat.div_add_mod i 8]
  rw [e1, byt_toNat, ← e2]
  simp [IntKind.wrap, IntKind.bits, IntKind.signed]
section
variable {ρ : Operand → Value} {dst : Option Tmp} {type : TypeId} {pos : String} {after : Array Edge} {guard : Option (Nat × Bool)}
theorem ld_conv8 {z : Int} {b : UInt8} (h : IntKind.u8.wrap z = (b.toNat : Int)) (A : Facts) {x : Operand} (hx : ρ x = .int .i64 z := by rfl) :
    ∀ w, Sx.Holds w A → (execOp ρ ⟨dst, .convert 3 5 x, type, pos, after, guard⟩).run Tryd.prog w = .ok (.value (.int .u8 (b.toNat : Int))) w := by
  intro w _
  have e : execOp ρ ⟨dst, .convert 3 5 x, type, pos, after, guard⟩ = (do let v ← convert 3 5 (ρ x); pure (.value v)) := rfl
  rw [e, hx]
  simp [convert, run_underlying Tryd.underlying3, run_underlying Tryd.underlying5, Conv.intToInt, h]
theorem ld_conv64 {z : Int} {b : UInt8} (h : IntKind.u8.wrap z = (b.toNat : Int)) (A : Facts) {x : Operand} (hx : ρ x = .int .u64 z := by rfl) :
    ∀ w, Sx.Holds w A → (execOp ρ ⟨dst, .convert 58 5 x, type, pos, after, guard⟩).run Tryd.prog w = .ok (.value (.int .u8 (b.toNat : Int))) w := by
  intro w _
  have e : execOp ρ ⟨dst, .convert 58 5 x, type, pos, after, guard⟩ = (do let v ← convert 58 5 (ρ x); pure (.value v)) := rfl
  rw [e, hx]
  simp [convert, run_underlying Tryd.underlying58, run_underlying Tryd.underlying5, Conv.intToInt, h]
theorem ld_to64 {n : Nat} (h : n < 9223372036854775808) (A : Facts) {x : Operand} (hx : ρ x = .int .i64 (n : Int) := by rfl) :
    ∀ w, Sx.Holds w A → (execOp ρ ⟨dst, .convert 3 58 x, type, pos, after, guard⟩).run Tryd.prog w = .ok (.value (.int .u64 (n : Int))) w := by
  intro w _
  have hw := u64_wrap_nat (n := n) (by omega)
  have e : execOp ρ ⟨dst, .convert 3 58 x, type, pos, after, guard⟩ = (do let v ← convert 3 58 (ρ x); pure (.value v)) := rfl
  rw [e, hx]
  simp [convert, run_underlying Tryd.underlying3, run_underlying Tryd.underlying58, Conv.intToInt, hw]
theorem ld_toint {n : Nat} (h : n < 9223372036854775808) (A : Facts) {x : Operand} (hx : ρ x = .int .u64 (n : Int) := by rfl) :
    ∀ w, Sx.Holds w A → (execOp ρ ⟨dst, .convert 58 3 x, type, pos, after, guard⟩).run Tryd.prog w = .ok (.value (.int .i64 (n : Int))) w := by
  intro w _
  have hw := wrap_nat (n := n) h
  have e : execOp ρ ⟨dst, .convert 58 3 x, type, pos, after, guard⟩ = (do let v ← convert 58 3 (ρ x); pure (.value v)) := rfl
  rw [e, hx]
  simp [convert, run_underlying Tryd.underlying58, run_underlying Tryd.underlying3, Conv.intToInt, hw]
theorem ld_uintz {z : Int} {p : Nat} (e : z = (p : Int)) (A : Facts) {x : Operand} (hx : ρ x = .int .i64 (IntKind.i64.wrap (8 * z.tmod 8)) := by rfl) :
    ∀ w, Sx.Holds w A → (execOp ρ ⟨dst, .convert 3 56 x, type, pos, after, guard⟩).run Tryd.prog w = .ok (.value (.int .u64 ((8 * (p % 8) : Nat) : Int))) w := by
  subst e
  exact ld_uint A hx
theorem ld_isnil (y : Byt) (A : Facts) {x : Operand} (hx : ρ x = y.v := by rfl) (hc : ρ (.const (.slice none 0 0)) = .slice none 0 0 := by rfl) :
    ∀ w, Sx.Holds w A → (execOp ρ ⟨dst, .binOp .eql 59 x (.const (.slice none 0 0)) 59, type, pos, after, guard⟩).run Tryd.prog w = .ok (.value (.bool y.o.isNone)) w := by
  intro w _
  simp [execOp, eqGuard, hx, hc, binOp, run_equal_slice_nil w 59 5 y.o y.n y.cap Tryd.underlying59]
end
theorem quo8_4z {z : Int} {p : Nat} (e : z = (p : Int)) (hp : p < 32) : 0 ≤ IntKind.i64.wrap (z.tdiv 8) ∧ IntKind.i64.wrap (z.tdiv 8) < 4 := by subst e; exact quo8_4 hp
theorem get_cellz (N : Nat) {z : Int} {p : Nat} (e : z = (p : Int)) (hp : p < 32) : ((cU N).drop (0 + (IntKind.i64.wrap (z.tdiv 8)).toNat * 1)).head? = some (.int .u64 (limb N (p / 8))) := by subst e; exact get_cell N hp
theorem en_byte (n i : Nat) : IntKind.u8.wrap ((limb n (i / 8)).fdiv (2 ^ (min (IntKind.i64.wrap ((i : Int).tmod 8 * 8)).toNat IntKind.u64.bits))) = ((byt n i).toNat : Int) := by
  rw [show min (IntKind.i64.wrap ((i : Int).tmod 8 * 8)).toNat IntKind.u64.bits = 8 * (i % 8) from rem8_n i]; exact limb_byte n i
theorem en_byte8 (n i : Nat) : IntKind.u8.wrap ((limb n (i / 8)).fdiv (2 ^ (min (((8 * (i % 8) : Nat) : Int)).toNat IntKind.u64.bits))) = ((byt n i).toNat : Int) := by
  rw [show min (((8 * (i % 8) : Nat) : Int)).toNat IntKind.u64.bits = 8 * (i % 8) by show min (8 * (i % 8)) 64 = _; omega]; exact limb_byte n i
end Go.Proofs.YtgbfolkpgmjaeaaDoor

