/- Numbers as bytes, the most significant first: their values, and what shifts of words have to do with them. No Go function in this text; no conditions. -/
import Derived.Test.YtlaapbenpjopiaaSxb
import Derived.Test.YtlaapbenpjopiaaSxg
namespace Go.Proofs.Ytlaapbenpjopiaa
open Go.RowKit Sx
set_option maxRecDepth 100000

/-- The number with these bytes. -/
def be : List UInt8 → Nat
  | [] => 0
  | b :: r => b.toNat * 256 ^ r.length + be r
theorem be_append (l m : List UInt8) : be (l ++ m) = be l * 256 ^ m.length + be m := by
  induction l with
  | nil => simp [be]
  | cons b r ih => simp only [List.cons_append, be, ih, List.length_append, Nat.pow_add]; rw [Nat.add_mul, Nat.mul_assoc, Nat.add_assoc]
theorem be_lt (l : List UInt8) : be l < 256 ^ l.length := by
  induction l with
  | nil => simp [be]
  | cons b r ih =>
    have hb : b.toNat < 256 := b.toNat_lt
    simp only [be, List.length_cons, Nat.pow_succ]
    have : b.toNat * 256 ^ r.length ≤ 255 * 256 ^ r.length := Nat.mul_le_mul_right _ (by omega)
    omega
/-- After i of n bytes. -/
def beP (l : List UInt8) (i : Nat) : Nat := be (l.take i) * 256 ^ (l.length - i)
theorem beP_zero (l : List UInt8) : beP l 0 = 0 := by simp [beP, be]
theorem beP_all (l : List UInt8) : beP l l.length = be l := by simp [beP]
theorem btake_succ {l : List UInt8} {i : Nat} (h : i < l.length) : l.take (i + 1) = l.take i ++ [l.getD i 0] := by
  rw [List.take_add_one]; simp [List.getD, h]
theorem beP_succ {l : List UInt8} {i : Nat} (h : i < l.length) : beP l (i + 1) = beP l i + (l.getD i 0).toNat * 256 ^ (l.length - 1 - i) := by
  unfold beP
  rw [btake_succ h, be_append, show l.length - i = (l.length - 1 - i) + 1 by omega, show l.length - (i + 1) = l.length - 1 - i by omega]
  simp only [be, List.length_cons, List.length_nil, Nat.pow_succ, Nat.pow_zero, Nat.add_mul, Nat.mul_assoc]
  generalize 256 ^ (l.length - 1 - i) = z
  rw [Nat.mul_comm 256 z]
  simp
theorem beP_mul {l : List UInt8} {i : Nat} (h : i < l.length) : beP l i = be (l.take i) * 256 ^ ((l.length - 1 - i) + 1) := by
  unfold beP; rw [show l.length - i = (l.length - 1 - i) + 1 by omega]
theorem beP_lt {l : List UInt8} (i : Nat) (h : i ≤ l.length) : beP l i < 256 ^ l.length := by
  have := be_lt (l.take i)
  rw [List.length_take, Nat.min_eq_left h] at this
  unfold beP
  have e : 256 ^ l.length = 256 ^ i * 256 ^ (l.length - i) := by rw [← Nat.pow_add]; congr 1; omega
  rw [e]
  exact Nat.mul_lt_mul_of_pos_right this (Nat.pow_pos (by omega))
theorem pow32 {n : Nat} (h : n ≤ 32) : 256 ^ n ≤ B256 := by
  have := Nat.pow_le_pow_right (n := 256) (by omega) h
  exact this
theorem be_B {l : List UInt8} (h : l.length ≤ 32) : be l < B256 := Nat.lt_of_lt_of_le (be_lt l) (pow32 h)

theorem W_pow (a : Nat) : 18446744073709551616 ^ a = 256 ^ (8 * a) := by rw [Nat.pow_mul]
/-- A byte set into a place behind which all is zero. -/
theorem put_at (q d p : Nat) (hd : d < 256) (j : Nat) :
    (q * 256 ^ (p + 1) + d * 256 ^ p) / 18446744073709551616 ^ j % 18446744073709551616 = q * 256 ^ (p + 1) / 18446744073709551616 ^ j % 18446744073709551616 + (if j = p / 8 then d * 256 ^ (p % 8) else 0) ∧
    (j = p / 8 → ∃ m, q * 256 ^ (p + 1) / 18446744073709551616 ^ j % 18446744073709551616 = 256 ^ (p % 8 + 1) * m) := by
  have hp : p = 8 * (p / 8) + p % 8 := (Nat.div_add_mod p 8).symm
  have hb : p % 8 < 8 := Nat.mod_lt _ (by omega)
  generalize p / 8 = a at *
  generalize p % 8 = b at *
  subst hp
  have e1 : q * 256 ^ (8 * a + b + 1) = q * 256 ^ (b + 1) * 18446744073709551616 ^ a := by
    rw [W_pow, Nat.mul_assoc, ← Nat.pow_add]; congr 2; omega
  have e2 : d * 256 ^ (8 * a + b) = d * 256 ^ b * 18446744073709551616 ^ a := by
    rw [W_pow, Nat.mul_assoc, ← Nat.pow_add]; congr 2; omega
  have hW : (18446744073709551616 : Nat) = 256 ^ (b + 1) * 256 ^ (7 - b) := by
    rw [← Nat.pow_add, show b + 1 + (7 - b) = 8 by omega]
  have hpos : 0 < 256 ^ (b + 1) := Nat.pow_pos (by omega)
  have hq : q * 256 ^ (b + 1) % 18446744073709551616 = 256 ^ (b + 1) * (q % 256 ^ (7 - b)) := by
    rw [hW, Nat.mul_comm q, Nat.mul_mod_mul_left]
  have hdb : d * 256 ^ b < 256 ^ (b + 1) := by
    rw [Nat.pow_succ, Nat.mul_comm (256 ^ b)]; exact Nat.mul_lt_mul_of_pos_right hd (Nat.pow_pos (by omega))
  have hsum : 256 ^ (b + 1) * (q % 256 ^ (7 - b)) + d * 256 ^ b < 18446744073709551616 := by
    have h1 : q % 256 ^ (7 - b) + 1 ≤ 256 ^ (7 - b) := Nat.mod_lt _ (Nat.pow_pos (by omega))
    have h2 := Nat.mul_le_mul_left (256 ^ (b + 1)) h1
    rw [← hW, Nat.mul_add, Nat.mul_one] at h2
    omega
  rw [e1, e2, ← Nat.add_mul]
  rcases Nat.lt_trichotomy j a with hj | hj | hj
  · have hz : ∀ X, X * 18446744073709551616 ^ a / 18446744073709551616 ^ j % 18446744073709551616 = 0 := fun X => by
      have : 18446744073709551616 ^ a = 18446744073709551616 ^ (a - j - 1) * 18446744073709551616 * 18446744073709551616 ^ j := by
        rw [← Nat.pow_succ, ← Nat.pow_add]; congr 1; omega
      rw [this, ← Nat.mul_assoc, Nat.mul_div_cancel _ (Nat.pow_pos (by omega)), ← Nat.mul_assoc, Nat.mul_mod_left]
    rw [hz, hz, if_neg (by omega)]
    exact ⟨rfl, fun h => by omega⟩
  · subst hj
    rw [if_pos rfl, Nat.mul_div_cancel _ (Nat.pow_pos (by omega)), Nat.mul_div_cancel _ (Nat.pow_pos (by omega)), hq]
    refine ⟨?_, fun _ => ⟨_, rfl⟩⟩
    rw [Nat.add_mod, hq, Nat.mod_eq_of_lt (a := d * 256 ^ b) (by omega), Nat.mod_eq_of_lt hsum]
  · have hz : ∀ X, X * 18446744073709551616 ^ a / 18446744073709551616 ^ j = X / 18446744073709551616 / 18446744073709551616 ^ (j - a - 1) := fun X => by
      have : 18446744073709551616 ^ j = 18446744073709551616 * 18446744073709551616 ^ (j - a - 1) * 18446744073709551616 ^ a := by
        rw [Nat.mul_comm 18446744073709551616, ← Nat.pow_succ, ← Nat.pow_add]; congr 1; omega
      rw [this, Nat.mul_div_mul_right _ _ (Nat.pow_pos (by omega)), Nat.div_div_eq_div_mul]
    rw [hz, hz, if_neg (by omega), Nat.add_zero]
    refine ⟨?_, fun h => by omega⟩
    congr 2
    have := Nat.div_add_mod (q * 256 ^ (b + 1)) 18446744073709551616
    rw [hq] at this
    omega
theorem limb_put (q d p : Nat) (hd : d < 256) {j : Nat} : limb (q * 256 ^ (p + 1) + d * 256 ^ p) j = limb (q * 256 ^ (p + 1)) j + (if j = p / 8 then ((d * 256 ^ (p % 8) : Nat) : Int) else 0) := by
  unfold limb
  rw [(put_at q d p hd j).1]
  split <;> simp

theorem quo8 {p : Nat} (hp : p < 4611686018427387904) : IntKind.i64.wrap ((p : Int).tdiv 8) = ((p / 8 : Nat) : Int) := by
  rw [show ((p : Int).tdiv 8) = ((p / 8 : Nat) : Int) from rfl, wrap_nat (by omega)]
theorem quo8_n {p : Nat} (hp : p < 4611686018427387904) : (IntKind.i64.wrap ((p : Int).tdiv 8)).toNat = p / 8 := by rw [quo8 hp]; rfl
theorem quo8_4 {p : Nat} (hp : p < 32) : 0 ≤ IntKind.i64.wrap ((p : Int).tdiv 8) ∧ IntKind.i64.wrap ((p : Int).tdiv 8) < 4 := by rw [quo8 (by omega)]; omega
theorem rem8_0 {p : Nat} : 0 ≤ IntKind.i64.wrap ((p : Int).tmod 8 * 8) := by
  rw [show ((p : Int).tmod 8) = ((p % 8 : Nat) : Int) from rfl, show (((p % 8 : Nat) : Int) * 8) = ((p % 8 * 8 : Nat) : Int) by omega, wrap_nat (by omega)]; omega
theorem rem8_n (p : Nat) : min (IntKind.i64.wrap ((p : Int).tmod 8 * 8)).toNat 64 = 8 * (p % 8) := by
  rw [show ((p : Int).tmod 8) = ((p % 8 : Nat) : Int) from rfl, show (((p % 8 : Nat) : Int) * 8) = ((p % 8 * 8 : Nat) : Int) by omega, wrap_nat (by omega)]; omega
theorem pow8 (b : Nat) : 2 ^ (8 * b) = 256 ^ b := by rw [Nat.pow_mul]
theorem byte_sh {d b : Nat} (hd : d < 256) (hb : b < 8) : d * 256 ^ b < 18446744073709551616 := by
  have h1 : d * 256 ^ b < 256 * 256 ^ b := Nat.mul_lt_mul_of_pos_right hd (Nat.pow_pos (by omega))
  have h2 : (256 : Nat) * 256 ^ b ≤ 256 ^ 8 := by rw [Nat.mul_comm, ← Nat.pow_succ]; exact Nat.pow_le_pow_right (by omega) (by omega)
  omega
theorem shl_byte (d : UInt8) {s b : Nat} (hs : s = 8 * b) (hb : b < 8) : IntKind.u64.wrap ((d.toNat : Int) * 2 ^ s) = ((d.toNat * 256 ^ b : Nat) : Int) := by
  have := byte_sh d.toNat_lt hb
  subst hs
  rw [← pow8] at this ⊢
  rw [show ((d.toNat : Int) * 2 ^ (8 * b)) = ((d.toNat * 2 ^ (8 * b) : Nat) : Int) by simp, u64_wrap_nat this]
theorem or_add {x y k : Nat} (hx : ∃ m, x = 256 ^ (k + 1) * m) (hy : y < 256 ^ (k + 1)) : x ||| y = x + y := by
  obtain ⟨m, rfl⟩ := hx
  rw [← pow8] at hy ⊢
  exact (Nat.two_pow_add_eq_or_of_lt hy m).symm
theorem or_run {x y : Nat} (hx : x < 18446744073709551616) (hy : y < 18446744073709551616) : Op.intBits .or .u64 (x : Int) (y : Int) = pure (.int .u64 ((x ||| y : Nat) : Int)) := by
  have h := Nat.or_lt_two_pow (n := 64) hx hy
  show (pure (.int .u64 (IntKind.u64.wrap (((BitVec.ofInt 64 (x : Int) ||| BitVec.ofInt 64 (y : Int)).toNat : Nat) : Int))) : Sem Value) = _
  rw [BitVec.ofInt_natCast, BitVec.ofInt_natCast, BitVec.toNat_or, BitVec.toNat_ofNat, BitVec.toNat_ofNat, Nat.mod_eq_of_lt hx, Nat.mod_eq_of_lt hy, u64_wrap_nat h]
section
variable {ρ : Operand → Value} {dst : Option Tmp} {type : TypeId} {pos : String} {after : Array Edge} {guard : Option (Nat × Bool)}
theorem ld_u8_64 (b : UInt8) (A : Facts) {x : Operand} (hx : ρ x = .int .u8 (b.toNat : Int) := by rfl) :
    ∀ w, Sx.Holds w A → (execOp ρ ⟨dst, .convert 5 22 x, type, pos, after, guard⟩).run Try.prog w = .ok (.value (.int .u64 (b.toNat : Int))) w := by
  intro w _
  have hb : b.toNat < 256 := b.toNat_lt
  have hw : IntKind.u64.wrap (b.toNat : Int) = (b.toNat : Int) := u64_wrap_nat (by omega)
  have e : execOp ρ ⟨dst, .convert 5 22 x, type, pos, after, guard⟩ = (do let v ← convert 5 22 (ρ x); pure (.value v)) := rfl
  rw [e, hx]
  simp [convert, run_underlying Try.underlying5, run_underlying Try.underlying22, Conv.intToInt, hw]
theorem ld_or {q p : Nat} {d : UInt8} (A : Facts) {x y : Operand} (hx : ρ x = .int .u64 (limb (q * 256 ^ (p + 1)) (p / 8)) := by rfl)
    (hy : ρ y = .int .u64 (IntKind.u64.wrap ((d.toNat : Int) * 2 ^ (min (IntKind.i64.wrap ((p : Int).tmod 8 * 8)).toNat IntKind.u64.bits))) := by rfl) :
    ∀ w, Sx.Holds w A → (execOp ρ ⟨dst, .binOp .or 22 x y 22, type, pos, after, guard⟩).run Try.prog w = .ok (.value (.int .u64 (limb (q * 256 ^ (p + 1) + d.toNat * 256 ^ p) (p / 8)))) w := by
  intro w _
  have hb : p % 8 < 8 := Nat.mod_lt _ (by omega)
  have e : execOp ρ ⟨dst, .binOp .or 22 x y 22, type, pos, after, guard⟩ = (do let v ← binOp .or 22 (ρ x) (ρ y); pure (.value v)) := rfl
  have hsh : IntKind.u64.wrap ((d.toNat : Int) * 2 ^ (min (IntKind.i64.wrap ((p : Int).tmod 8 * 8)).toNat IntKind.u64.bits)) = ((d.toNat * 256 ^ (p % 8) : Nat) : Int) := shl_byte d (rem8_n p) hb
  rw [e, hx, hy, hsh, limb_put _ _ _ d.toNat_lt, if_pos rfl]
  unfold limb
  obtain ⟨_, h2⟩ := put_at q d.toNat p d.toNat_lt (p / 8)
  have h3 := or_add (h2 rfl) (y := d.toNat * 256 ^ (p % 8)) (by rw [Nat.pow_succ, Nat.mul_comm (256 ^ (p % 8))]; exact Nat.mul_lt_mul_of_pos_right d.toNat_lt (Nat.pow_pos (by omega)))
  have hr : binOp .or 22 (.int .u64 ((q * 256 ^ (p + 1) / 18446744073709551616 ^ (p / 8) % 18446744073709551616 : Nat) : Int)) (.int .u64 ((d.toNat * 256 ^ (p % 8) : Nat) : Int)) = Op.intBits .or .u64 ((q * 256 ^ (p + 1) / 18446744073709551616 ^ (p / 8) % 18446744073709551616 : Nat) : Int) ((d.toNat * 256 ^ (p % 8) : Nat) : Int) := rfl
  rw [hr, or_run (Nat.mod_lt _ (by omega)) (byte_sh d.toNat_lt hb), h3]
  rfl
end
theorem put_cells {q d p : Nat} (hd : d < 256) (hp : p < 32) : setRange (cU (q * 256 ^ (p + 1))) (0 + (IntKind.i64.wrap ((p : Int).tdiv 8)).toNat * 1) [.int .u64 (limb (q * 256 ^ (p + 1) + d * 256 ^ p) (p / 8))] = cU (q * 256 ^ (p + 1) + d * 256 ^ p) := by
  rw [quo8_n (by omega), Nat.zero_add, Nat.mul_one]
  have h := fun j => limb_put q d p hd (j := j)
  unfold cU setRange
  have ha : p / 8 < 4 := by omega
  generalize p / 8 = a at *
  rcases a with _ | _ | _ | _ | a
  · simp [h 1, h 2, h 3]
  · simp [h 0, h 2, h 3]
  · simp [h 0, h 1, h 3]
  · simp [h 0, h 1, h 2]
  · omega
theorem get_cell (N : Nat) {p : Nat} (hp : p < 32) : ((cU N).drop (0 + (IntKind.i64.wrap ((p : Int).tdiv 8)).toNat * 1)).head? = some (.int .u64 (limb N (p / 8))) := by
  rw [quo8_n (by omega), Nat.zero_add, Nat.mul_one]
  have ha : p / 8 < 4 := by omega
  generalize p / 8 = a at *
  rcases a with _ | _ | _ | _ | a <;> first | rfl | omega
theorem cell_in (N : Nat) {p : Nat} (hp : p < 32) : (0 + (IntKind.i64.wrap ((p : Int).tdiv 8)).toNat * 1) + 1 ≤ (cU N).length := by
  rw [quo8_n (by omega)]; show _ ≤ 4; omega
section
variable {ρ : Operand → Value} {dst : Option Tmp} {type : TypeId} {pos : String} {after : Array Edge} {guard : Option (Nat × Bool)}
theorem ld_sub {a b c : Int} (h : IntKind.i64.wrap (a - b) = c) (A : Facts) {x y : Operand} (hx : ρ x = .int .i64 a := by rfl) (hy : ρ y = .int .i64 b := by rfl) :
    ∀ w, Sx.Holds w A → (execOp ρ ⟨dst, .binOp .sub 3 x y 3, type, pos, after, guard⟩).run Try.prog w = .ok (.value (.int .i64 c)) w := by
  intro w _
  have e : execOp ρ ⟨dst, .binOp .sub 3 x y 3, type, pos, after, guard⟩ = (do let v ← binOp .sub 3 (ρ x) (ρ y); pure (.value v)) := rfl
  rw [e, hx, hy, ← h]
  rfl
theorem ld_add {a b c : Int} (h : IntKind.i64.wrap (a + b) = c) (A : Facts) {x y : Operand} (hx : ρ x = .int .i64 a := by rfl) (hy : ρ y = .int .i64 b := by rfl) :
    ∀ w, Sx.Holds w A → (execOp ρ ⟨dst, .binOp .add 3 x y 3, type, pos, after, guard⟩).run Try.prog w = .ok (.value (.int .i64 c)) w := by
  intro w _
  have e : execOp ρ ⟨dst, .binOp .add 3 x y 3, type, pos, after, guard⟩ = (do let v ← binOp .add 3 (ρ x) (ρ y); pure (.value v)) := rfl
  rw [e, hx, hy, ← h]
  rfl
theorem ld_addw {q p : Nat} {d : UInt8} (A : Facts) {x y : Operand} (hx : ρ x = .int .u64 (limb (q * 256 ^ (p + 1)) (p / 8)) := by rfl)
    (hy : ρ y = .int .u64 (IntKind.u64.wrap ((d.toNat : Int) * 2 ^ (min (((8 * (p % 8) : Nat) : Int)).toNat IntKind.u64.bits))) := by rfl) :
    ∀ w, Sx.Holds w A → (execOp ρ ⟨dst, .binOp .add 22 x y 22, type, pos, after, guard⟩).run Try.prog w = .ok (.value (.int .u64 (limb (q * 256 ^ (p + 1) + d.toNat * 256 ^ p) (p / 8)))) w := by
  intro w _
  have hb : p % 8 < 8 := Nat.mod_lt _ (by omega)
  have e : execOp ρ ⟨dst, .binOp .add 22 x y 22, type, pos, after, guard⟩ = (do let v ← binOp .add 22 (ρ x) (ρ y); pure (.value v)) := rfl
  have hsh : IntKind.u64.wrap ((d.toNat : Int) * 2 ^ (min (((8 * (p % 8) : Nat) : Int)).toNat IntKind.u64.bits)) = ((d.toNat * 256 ^ (p % 8) : Nat) : Int) := shl_byte d (by show min (8 * (p % 8)) 64 = _; omega) hb
  have hlt := limb_lt (q * 256 ^ (p + 1) + d.toNat * 256 ^ p) (p / 8)
  have h0 := limb_nonneg (q * 256 ^ (p + 1) + d.toNat * 256 ^ p) (p / 8)
  rw [e, hx, hy, hsh]
  have hr : (do let v ← binOp .add 22 (.int .u64 (limb (q * 256 ^ (p + 1)) (p / 8))) (.int .u64 ((d.toNat * 256 ^ (p % 8) : Nat) : Int)); pure (.value v) : Sem Next) = pure (.value (.int .u64 (IntKind.u64.wrap (limb (q * 256 ^ (p + 1)) (p / 8) + ((d.toNat * 256 ^ (p % 8) : Nat) : Int))))) := rfl
  have hs : limb (q * 256 ^ (p + 1)) (p / 8) + ((d.toNat * 256 ^ (p % 8) : Nat) : Int) = limb (q * 256 ^ (p + 1) + d.toNat * 256 ^ p) (p / 8) := by rw [limb_put _ _ _ d.toNat_lt, if_pos rfl]
  have hw : IntKind.u64.wrap (limb (q * 256 ^ (p + 1) + d.toNat * 256 ^ p) (p / 8)) = limb (q * 256 ^ (p + 1) + d.toNat * 256 ^ p) (p / 8) := by rw [IntKind.wrap_u64]; omega
  rw [hr, hs, hw]
  rfl
theorem ld_uint {p : Nat} (A : Facts) {x : Operand} (hx : ρ x = .int .i64 (IntKind.i64.wrap (8 * (p : Int).tmod 8)) := by rfl) :
    ∀ w, Sx.Holds w A → (execOp ρ ⟨dst, .convert 3 68 x, type, pos, after, guard⟩).run Try.prog w = .ok (.value (.int .u64 ((8 * (p % 8) : Nat) : Int))) w := by
  intro w _
  have hb : p % 8 < 8 := Nat.mod_lt _ (by omega)
  have h1 : IntKind.i64.wrap (8 * (p : Int).tmod 8) = ((8 * (p % 8) : Nat) : Int) := by
    rw [show ((p : Int).tmod 8) = ((p % 8 : Nat) : Int) from rfl, show (8 * ((p % 8 : Nat) : Int)) = ((8 * (p % 8) : Nat) : Int) by omega, wrap_nat (by omega)]
  have e : execOp ρ ⟨dst, .convert 3 68 x, type, pos, after, guard⟩ = (do let v ← convert 3 68 (ρ x); pure (.value v)) := rfl
  have hw : IntKind.u64.wrap ((8 * (p % 8) : Nat) : Int) = ((8 * (p % 8) : Nat) : Int) := u64_wrap_nat (by omega)
  rw [e, hx, h1]
  generalize 8 * (p % 8) = s at hw ⊢
  simp [convert, run_underlying Try.underlying3, run_underlying Try.underlying68, Conv.intToInt, hw]
end
theorem sub2 {n i : Nat} (h : i < n) (hn : n < 4611686018427387904) : IntKind.i64.wrap (IntKind.i64.wrap ((n : Int) - 1) - (i : Int)) = ((n - 1 - i : Nat) : Int) := by
  rw [show ((n : Int) - 1) = ((n - 1 : Nat) : Int) by omega, wrap_nat (by omega), show (((n - 1 : Nat) : Int) - (i : Int)) = ((n - 1 - i : Nat) : Int) by omega, wrap_nat (by omega)]
theorem sub2' {n i : Nat} (h : i < n) (hn : n < 4611686018427387904) : IntKind.i64.wrap (IntKind.i64.wrap ((n : Int) - (i : Int)) - 1) = ((n - i - 1 : Nat) : Int) := by
  rw [show ((n : Int) - (i : Int)) = ((n - i : Nat) : Int) by omega, wrap_nat (by omega), show (((n - i : Nat) : Int) - 1) = ((n - i - 1 : Nat) : Int) by omega, wrap_nat (by omega)]
theorem add1 {i : Nat} (h : i < 4611686018427387904) : IntKind.i64.wrap ((i : Int) + 1) = ((i + 1 : Nat) : Int) := by
  rw [show ((i : Int) + 1) = ((i + 1 : Nat) : Int) by omega, wrap_nat (by omega)]
theorem add2 {k i : Nat} (h : k + 1 + i < 4611686018427387904) : IntKind.i64.wrap (IntKind.i64.wrap ((k : Int) + 1) + (i : Int)) = ((k + 1 + i : Nat) : Int) := by
  rw [add1 (by omega), show (((k + 1 : Nat) : Int) + (i : Int)) = ((k + 1 + i : Nat) : Int) by omega, wrap_nat (by omega)]

/-- An index that runs up to n. -/
abbrev Upto (n : Nat) : Type := { i : Nat // i ≤ n }
theorem cU_zero (l : List UInt8) : ([.int .u64 0, .int .u64 0, .int .u64 0, .int .u64 0] : List Value) = cU (beP l 0) := by
  rw [beP_zero]; unfold cU; rw [limb_zero.1, limb_zero.2.1, limb_zero.2.2.1, limb_zero.2.2.2]
theorem lt_t {i n : Nat} (h : decide ((i : Int) < (n : Int)) = true) : i < n := by have := of_decide_eq_true h; omega
theorem lt_f {i n : Nat} (h : decide ((i : Int) < (n : Int)) = false) : n ≤ i := by have := of_decide_eq_false h; omega
section
variable {l : List UInt8} {c : Nat} (hl : l.length = c) {i : Nat}
include hl
theorem fb_get (h : i < c) (hc : c ≤ 32) : ((cU (beP l i)).drop (0 + (IntKind.i64.wrap (((c - 1 - i : Nat) : Int).tdiv 8)).toNat * 1)).head? = some (.int .u64 (limb (be (l.take i) * 256 ^ ((c - 1 - i) + 1)) ((c - 1 - i) / 8))) := by
  subst hl
  rw [beP_mul h]; exact get_cell _ (by omega)
theorem fb_put (h : i < c) (hc : c ≤ 32) : setRange (cU (beP l i)) (0 + (IntKind.i64.wrap (((c - 1 - i : Nat) : Int).tdiv 8)).toNat * 1) [.int .u64 (limb (be (l.take i) * 256 ^ ((c - 1 - i) + 1) + (l.getD i 0).toNat * 256 ^ (c - 1 - i)) ((c - 1 - i) / 8))] = cU (beP l (i + 1)) := by
  subst hl
  rw [beP_succ h, beP_mul h]; exact put_cells (l.getD i 0).toNat_lt (by omega)
theorem fb_fin (h : decide ((i : Int) < (c : Int)) = false) (hi : i ≤ c) : U (beP l i) = U (be l) := by
  have := lt_f h
  obtain rfl : i = c := by omega
  subst hl
  rw [beP_all]
end

/-- Does a number of at most m bytes begin here? -/
def sigC (l : List UInt8) : Nat := (l.getD 0 0).toNat
def sigOk (l : List UInt8) (m : Nat) : Bool := decide (0 < l.length ∧ sigC l ≤ m ∧ sigC l ≤ l.length - 1 ∧ (sigC l = 0 ∨ 0 < (l.getD 1 0).toNat))
/-- What reading a number of at most m bytes gives: the number, the place behind it, the code. -/
def rdn (l : List UInt8) (z : Int) (m : Nat) : Nat × Nat × Nat :=
  if 0 ≤ z ∧ z ≤ l.length then
    if sigOk (l.drop z.toNat) m then (be ((l.drop (z.toNat + 1)).take (sigC (l.drop z.toNat))), z.toNat + 1 + sigC (l.drop z.toNat), 0) else (0, 0, 3)
  else (0, 0, 2)
abbrev rdV (r : Nat × Nat × Nat) : Value := .tuple #[U r.1, .int .i64 (r.2.1 : Int), .int .i64 (r.2.2 : Int)]
theorem rdn_inv {l : List UInt8} {z : Int} {m : Nat} (h : ¬ (0 ≤ z ∧ z ≤ l.length)) : rdn l z m = (0, 0, 2) := if_neg h
theorem rdn_no {l : List UInt8} {k m : Nat} (h : k ≤ l.length) (hs : sigOk (l.drop k) m = false) : rdn l k m = (0, 0, 3) := by
  unfold rdn
  rw [if_pos (by omega), Int.toNat_natCast, hs]
  rfl
theorem rdn_yes {l : List UInt8} {k m : Nat} (h : k ≤ l.length) (hs : sigOk (l.drop k) m = true) : rdn l k m = (be ((l.drop (k + 1)).take (sigC (l.drop k))), k + 1 + sigC (l.drop k), 0) := by
  unfold rdn
  rw [if_pos (by omega), Int.toNat_natCast, hs]
  rfl
theorem rd_z (e : Nat) : Value.tuple #[.agg #[.int .u64 0, .int .u64 0, .int .u64 0, .int .u64 0], .int .i64 0, .int .i64 (e : Int)] = rdV (0, 0, e) := by
  show _ = Value.tuple #[U 0, .int .i64 0, .int .i64 (e : Int)]
  unfold U; rw [limb_zero.1, limb_zero.2.1, limb_zero.2.2.1, limb_zero.2.2.2]
theorem Byt.sub_n (y : Byt) {k : Nat} (hk : k ≤ y.n) : (y.sub k y.n hk (Nat.le_refl _)).l = y.l.drop k := by
  show (y.l.drop k).take (y.n - k) = _
  rw [List.take_of_length_le (by rw [List.length_drop, y.hl]; omega)]
theorem sigOk_iff {l : List UInt8} {m : Nat} : sigOk l m = true ↔ (0 < l.length ∧ sigC l ≤ m ∧ sigC l ≤ l.length - 1 ∧ (sigC l = 0 ∨ 0 < (l.getD 1 0).toNat)) := decide_eq_true_iff
end Go.Proofs.Ytlaapbenpjopiaa

