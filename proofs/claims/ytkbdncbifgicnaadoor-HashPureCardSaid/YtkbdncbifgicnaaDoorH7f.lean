/- Layer 7 over this translation: Format and Parse of package hash and of the reference. No conditions. -/
import Derived.Test.YtkbdncbifgicnaaDoorH7t
namespace Go.Proofs.YtkbdncbifgicnaaDoor
open Go.RowKit Sx
set_option maxRecDepth 100000

def hexTab : List UInt8 := [48, 49, 50, 51, 52, 53, 54, 55, 56, 57, 97, 98, 99, 100, 101, 102]
def hexD (n : Nat) : UInt8 := hexTab.getD n 0
/-- The digits of the first i bytes. -/
def hxs (f : Nat → UInt8) : Nat → List UInt8
  | 0 => []
  | i + 1 => hxs f i ++ [hexD ((f i).toNat / 16), hexD ((f i).toNat % 16)]
theorem hxs_len (f : Nat → UInt8) : ∀ i, (hxs f i).length = 2 * i
  | 0 => rfl
  | i + 1 => by show (hxs f i ++ _).length = _; rw [List.length_append, hxs_len f i]; rfl
abbrev hexS : ByteArray := ⟨#[48, 49, 50, 51, 52, 53, 54, 55, 56, 57, 97, 98, 99, 100, 101, 102]⟩
theorem hex_at : ∀ n, n < 16 → byteAt hexS n = ((hexD n).toNat : Int) := by decide
theorem fd16 (b : UInt8) : ((b.toNat : Int).fdiv (2 ^ (min (4 : Int).toNat IntKind.u8.bits))) = ((b.toNat / 16 : Nat) : Int) := by
  rw [show (2 : Int) ^ (min (4 : Int).toNat IntKind.u8.bits) = 16 from rfl, Int.fdiv_eq_ediv_of_nonneg _ (by decide)]
  rfl
theorem hex_hi (b : UInt8) : byteAt hexS ((b.toNat : Int).fdiv (2 ^ (min (4 : Int).toNat IntKind.u8.bits))).toNat = ((hexD (b.toNat / 16)).toNat : Int) := by
  have := b.toNat_lt
  rw [fd16, Int.toNat_natCast]; exact hex_at _ (by omega)
theorem hex_lo (b : UInt8) : byteAt hexS (((b.toNat % 16 : Nat) : Int)).toNat = ((hexD (b.toNat % 16)).toNat : Int) := by
  rw [Int.toNat_natCast]; exact hex_at _ (by omega)
theorem hex_c1 (b : UInt8) : 0 ≤ (b.toNat : Int).fdiv (2 ^ (min (4 : Int).toNat IntKind.u8.bits)) ∧ ((b.toNat : Int).fdiv (2 ^ (min (4 : Int).toNat IntKind.u8.bits))).toNat < 16 := by
  have := b.toNat_lt
  rw [fd16]; omega
theorem hex_c2 (b : UInt8) : 0 ≤ (((b.toNat % 16 : Nat) : Int)) ∧ ((((b.toNat % 16 : Nat) : Int))).toNat < 16 := by omega
theorem hx_ok (f : Nat → UInt8) {i : Nat} (h : i ≤ 32) {a b : UInt8} : (bcs (hxs f i)).length + (bcs [a, b]).length ≤ 1099511627776 := by
  rw [bcs_length, bcs_length, hxs_len]; show 2 * i + 2 ≤ _; omega
theorem hx_fin (f : Nat → UInt8) {i : Nat} (h : 32 ≤ i) (h2 : i ≤ 32) : Value.string (strOf (hxs f i)) = .string (strOf (hxs f 32)) := by
  obtain rfl : i = 32 := by omega
  rfl
theorem ix_h {t : TypeId} {L : Facts} (f : Nat → UInt8) {i : Nat} (hi : i < 32) : ldOwn Tryd.prog 5 ⟨t, (bsc f 32).toArray.toList, L⟩ ((i : Int).toNat * (elSize Tryd.prog 5)) = some (v8 (f i)) := by
  have h1 : elSize Tryd.prog 5 = 1 := by kernel_rfl
  rw [h1]
  show ((bsc f 32).drop _).head? = _
  have := cl_at (fun i => v8 (f i)) (n := 32) (j := i) (z := (i : Int)) rfl hi
  rwa [Nat.zero_add] at this
section
variable {ρ : Operand → Value} {dst : Option Tmp} {type : TypeId} {pos : String} {after : Array Edge} {guard : Option (Nat × Bool)}
theorem and15 : ∀ n : Nat, n < 256 → IntKind.u8.wrap ((BitVec.ofInt 8 (n : Int) &&& BitVec.ofInt 8 15).toNat : Int) = ((n % 16 : Nat) : Int) := by decide
theorem ld_and15 (b : UInt8) (A : Facts) {x y : Operand} (hx : ρ x = .int .u8 (b.toNat : Int) := by rfl) (hy : ρ y = .int .u8 15 := by rfl) :
    ∀ w, Sx.Holds w A → (execOp ρ ⟨dst, .binOp .and 5 x y 5, type, pos, after, guard⟩).run Tryd.prog w = .ok (.value (.int .u8 ((b.toNat % 16 : Nat) : Int))) w := by
  intro w _
  have e : execOp ρ ⟨dst, .binOp .and 5 x y 5, type, pos, after, guard⟩ = (do let v ← binOp .and 5 (ρ x) (ρ y); pure (.value v)) := rfl
  have e2 : binOp .and 5 (.int .u8 (b.toNat : Int)) (.int .u8 15) = pure (.int .u8 (IntKind.u8.wrap ((BitVec.ofInt 8 (b.toNat : Int) &&& BitVec.ofInt 8 15).toNat : Int))) := rfl
  rw [e, hx, hy, e2, and15 _ b.toNat_lt]
  rfl
theorem or16 : ∀ a : Nat, a < 16 → ∀ b : Nat, b < 16 → IntKind.u8.wrap ((BitVec.ofInt 8 (IntKind.u8.wrap ((a : Int) * 2 ^ (min (4 : Int).toNat IntKind.u8.bits))) ||| BitVec.ofInt 8 (b : Int)).toNat : Int) = ((UInt8.ofNat (a * 16 + b)).toNat : Int) := by decide
theorem ld_or8 {a b : Nat} (ha : a < 16) (hb : b < 16) (A : Facts) {x y : Operand} (hx : ρ x = .int .u8 (IntKind.u8.wrap ((a : Int) * 2 ^ (min (4 : Int).toNat IntKind.u8.bits))) := by rfl) (hy : ρ y = .int .u8 (b : Int) := by rfl) :
    ∀ w, Sx.Holds w A → (execOp ρ ⟨dst, .binOp .or 5 x y 5, type, pos, after, guard⟩).run Tryd.prog w = .ok (.value (v8 (UInt8.ofNat (a * 16 + b)))) w := by
  intro w _
  have e : execOp ρ ⟨dst, .binOp .or 5 x y 5, type, pos, after, guard⟩ = (do let v ← binOp .or 5 (ρ x) (ρ y); pure (.value v)) := rfl
  have e2 : binOp .or 5 (.int .u8 (IntKind.u8.wrap ((a : Int) * 2 ^ (min (4 : Int).toNat IntKind.u8.bits)))) (.int .u8 (b : Int)) = pure (.int .u8 (IntKind.u8.wrap ((BitVec.ofInt 8 (IntKind.u8.wrap ((a : Int) * 2 ^ (min (4 : Int).toNat IntKind.u8.bits))) ||| BitVec.ofInt 8 (b : Int)).toNat : Int))) := rfl
  rw [e, hx, hy, e2, or16 a ha b hb]
  rfl
theorem ld_add8 {a b c : Int} (h : IntKind.u8.wrap (a + b) = c) (A : Facts) {x y : Operand} (hx : ρ x = .int .u8 a := by rfl) (hy : ρ y = .int .u8 b := by rfl) :
    ∀ w, Sx.Holds w A → (execOp ρ ⟨dst, .binOp .add 5 x y 5, type, pos, after, guard⟩).run Tryd.prog w = .ok (.value (.int .u8 c)) w := by
  intro w _
  have e : execOp ρ ⟨dst, .binOp .add 5 x y 5, type, pos, after, guard⟩ = (do let v ← binOp .add 5 (ρ x) (ρ y); pure (.value v)) := rfl
  rw [e, hx, hy, ← h]
  rfl
theorem build_two (b c : UInt8) (A : Facts) {x y : Operand} (hx : ρ x = .int .u8 (b.toNat : Int)) (hy : ρ y = .int .u8 (c.toNat : Int)) : GivesOp Tryd.prog (execOp ρ ⟨dst, .buildSlice 22 2 #[(0, x), (1, y)], type, pos, after, guard⟩) A Nat (fun m => (Byt.row m [b, c]).v) (fun m => (Byt.row m [b, c]).L) := by
  obtain ⟨i, hi, hs, _, hz⟩ := info_u8
  refine gives_alloc (F := []) id (.cells (bcs [b, c]).toArray 5) (fun w => ?_) (fun k => rfl) (fun _ h => by cases h)
  have hf : Instr.fill (fun j => some (j * 1, 1)) ((Array.range (2 * 1)).map ((Value.int .u8 0).cells[· % (Value.int .u8 0).cells.size]!)) [(0, .int .u8 (b.toNat : Int)), (1, .int .u8 (c.toNat : Int))] = some (bcs [b, c]).toArray := by kernel_rfl
  have hb := run_buildSlice w 22 5 2 #[(0, .int .u8 (b.toNat : Int)), (1, .int .u8 (c.toNat : Int))] (bcs [b, c]).toArray i (.int .u8 0) Tryd.underlying22 hi hz (by rw [hs]; decide) (by rw [hs]; decide) (by rw [hs]; exact hf)
  simp [execOp, hx, hy, hb, Byt.row]
/-- A slice of no length with room for 64 bytes. -/
theorem own_mk64 (A : Facts) {x y : Operand} (hx : ρ x = .int .i64 0 := by rfl) (hy : ρ y = .int .i64 64 := by rfl) : OwnOp Tryd.prog (execOp ρ ⟨dst, .makeSlice 22 x y, type, pos, after, guard⟩) A Unit 5 1 (fun _ => []) := by
  intro w hw
  obtain ⟨i, hi, hs, hby, hz⟩ := info_u8
  have hrun := run_make (P := Tryd.prog) w 22 5 i (.int .u8 0) Tryd.underlying22 hi hz .i64 .i64 0 64 (by decide) (by decide) (by rw [hby]; decide) (by decide)
  have hex : (execOp ρ ⟨dst, .makeSlice 22 x y, type, pos, after, guard⟩).run Tryd.prog w = .ok (.value (.slice (some ⟨w.heap.size, 0, none⟩) 0 64)) (w.alloc (.cells (madeCells (Value.int .u8 0).cells ((64 : Int).toNat * i.size)) 5)) := by
    simp [execOp, hx, hy, hrun]
  unfold OpRun
  rw [hex]
  generalize hc : madeCells (Value.int .u8 0).cells ((64 : Int).toNat * i.size) = cs
  have hcs : cs.size = 64 := by rw [← hc, hs]; simp [madeCells]
  have hh : (w.alloc (.cells cs 5)).heap = w.heap.push (.cells cs 5) := rfl
  refine ⟨(), .inr ⟨w.heap.size, cs.toList, 0, 64, Nat.le_refl _, ?_, rfl, rfl, by simp [hcs]⟩, ⟨rfl, rfl, rfl, by rw [hh, Array.size_push]; omega, fun k hk => by rw [hh, Array.getElem?_push, if_neg (Nat.ne_of_lt hk)]⟩⟩
  rw [hh, Array.getElem?_push, if_pos rfl]
  simp
end
/-! The reference's digits. -/
theorem hq_w (b : UInt8) : IntKind.u8.wrap ((b.toNat : Int).tdiv 16) = ((b.toNat / 16 : Nat) : Int) := by
  have := b.toNat_lt
  rw [show (b.toNat : Int).tdiv 16 = ((b.toNat / 16 : Nat) : Int) from rfl]
  simp [IntKind.wrap, IntKind.bits, IntKind.signed]; omega
theorem hq_1 (b : UInt8) : IntKind.u8.wrap (IntKind.u8.wrap ((b.toNat : Int).tdiv 16) + 1) = ((b.toNat / 16 + 1 : Nat) : Int) := by
  have := b.toNat_lt
  rw [hq_w]
  simp [IntKind.wrap, IntKind.bits, IntKind.signed]; omega
theorem hr_1 (b : UInt8) : IntKind.u8.wrap ((b.toNat : Int).tmod 16 + 1) = ((b.toNat % 16 + 1 : Nat) : Int) := by
  rw [show (b.toNat : Int).tmod 16 = ((b.toNat % 16 : Nat) : Int) from rfl]
  simp [IntKind.wrap, IntKind.bits, IntKind.signed]; omega
theorem hex_s1 (b : UInt8) : 0 ≤ IntKind.u8.wrap ((b.toNat : Int).tdiv 16) ∧ IntKind.u8.wrap ((b.toNat : Int).tdiv 16) ≤ ((b.toNat / 16 + 1 : Nat) : Int) ∧ ((b.toNat / 16 + 1 : Nat) : Int) ≤ 16 := by
  have := b.toNat_lt
  rw [hq_w]; omega
theorem hex_s2 (b : UInt8) : 0 ≤ (b.toNat : Int).tmod 16 ∧ (b.toNat : Int).tmod 16 ≤ ((b.toNat % 16 + 1 : Nat) : Int) ∧ ((b.toNat % 16 + 1 : Nat) : Int) ≤ 16 := by
  rw [show (b.toNat : Int).tmod 16 = ((b.toNat % 16 : Nat) : Int) from rfl]; omega
theorem ext1 : ∀ n, n < 16 → hexS.extract n (n + 1) = strOf [hexD n] := by decide
theorem strOf_app (l m : List UInt8) : strOf l ++ strOf m = strOf (l ++ m) := by
  apply ByteArray.ext
  apply Array.ext'
  simp [strOf]
theorem strOf_size (l : List UInt8) : (strOf l).size = l.length := by simp [ByteArray.size]
theorem e_hi (b : UInt8) : hexS.extract (IntKind.u8.wrap ((b.toNat : Int).tdiv 16)).toNat (((b.toNat / 16 + 1 : Nat) : Int)).toNat = strOf [hexD (b.toNat / 16)] := by
  have := b.toNat_lt
  rw [hq_w, Int.toNat_natCast, Int.toNat_natCast]; exact ext1 _ (by omega)
theorem e_lo (b : UInt8) : hexS.extract ((b.toNat : Int).tmod 16).toNat (((b.toNat % 16 + 1 : Nat) : Int)).toNat = strOf [hexD (b.toNat % 16)] := by
  rw [show (b.toNat : Int).tmod 16 = ((b.toNat % 16 : Nat) : Int) from rfl, Int.toNat_natCast, Int.toNat_natCast]; exact ext1 _ (by omega)
theorem hex_cat (l : List UInt8) (b : UInt8) : (strOf l ++ hexS.extract (IntKind.u8.wrap ((b.toNat : Int).tdiv 16)).toNat (((b.toNat / 16 + 1 : Nat) : Int)).toNat) ++ hexS.extract ((b.toNat : Int).tmod 16).toNat (((b.toNat % 16 + 1 : Nat) : Int)).toNat = strOf (l ++ [hexD (b.toNat / 16), hexD (b.toNat % 16)]) := by
  rw [e_hi, e_lo, strOf_app, strOf_app, List.append_assoc]; rfl
theorem hex_j1 (f : Nat → UInt8) {i : Nat} (h : i ≤ 32) : (((strOf (hxs f i)).size + (hexS.extract (IntKind.u8.wrap (((f i).toNat : Int).tdiv 16)).toNat ((((f i).toNat / 16 + 1 : Nat) : Int)).toNat).size : Nat) : Int) ≤ IntKind.i64.max := by
  rw [e_hi, strOf_size, strOf_size, hxs_len]; show ((2 * i + 1 : Nat) : Int) ≤ 9223372036854775807; omega
theorem hex_j2 (f : Nat → UInt8) {i : Nat} (h : i ≤ 32) : (((strOf (hxs f i) ++ hexS.extract (IntKind.u8.wrap (((f i).toNat : Int).tdiv 16)).toNat ((((f i).toNat / 16 + 1 : Nat) : Int)).toNat).size + (hexS.extract (((f i).toNat : Int).tmod 16).toNat ((((f i).toNat % 16 + 1 : Nat) : Int)).toNat).size : Nat) : Int) ≤ IntKind.i64.max := by
  rw [e_hi, e_lo, strOf_app, strOf_size, strOf_size, List.length_append, hxs_len]; show ((2 * i + 1 + 1 : Nat) : Int) ≤ 9223372036854775807; omega

/-! Digits that are read. -/
def hvB (b : UInt8) : Bool := decide ((48 ≤ b.toNat ∧ b.toNat ≤ 57) ∨ (97 ≤ b.toNat ∧ b.toNat ≤ 102))
def hvN (b : UInt8) : Nat := if 48 ≤ b.toNat ∧ b.toNat ≤ 57 then b.toNat - 48 else if 97 ≤ b.toNat ∧ b.toNat ≤ 102 then b.toNat - 87 else 0
def hdZ (b : UInt8) : Int := if hvB b then (hvN b : Int) else -1
theorem hv_16 (b : UInt8) : hvN b < 16 := by unfold hvN; split; omega; split; omega; omega
theorem ge_n {a b : Nat} (h : b ≤ a) : decide ((a : Int) ≥ (b : Int)) = true := by apply decide_eq_true; omega
theorem ge_nf {a b : Nat} (h : a < b) : decide ((a : Int) ≥ (b : Int)) = false := by apply decide_eq_false; omega
theorem le_n2 {a b : Nat} (h : a ≤ b) : decide ((a : Int) ≤ (b : Int)) = true := by apply decide_eq_true; omega
theorem le_nf {a b : Nat} (h : b < a) : decide ((a : Int) ≤ (b : Int)) = false := by apply decide_eq_false; omega
theorem hvB_t {b : UInt8} (h : (48 ≤ b.toNat ∧ b.toNat ≤ 57) ∨ (97 ≤ b.toNat ∧ b.toNat ≤ 102)) : hvB b = true := decide_eq_true h
theorem hvB_f {b : UInt8} (h : b.toNat < 48 ∨ (57 < b.toNat ∧ b.toNat < 97) ∨ 102 < b.toNat) : hvB b = false := by unfold hvB; apply decide_eq_false; omega
theorem hvN_1 {b : UInt8} (h1 : 48 ≤ b.toNat) (h2 : b.toNat ≤ 57) : hvN b = b.toNat - 48 := if_pos ⟨h1, h2⟩
theorem hvN_2 {b : UInt8} (h1 : 97 ≤ b.toNat) (h2 : b.toNat ≤ 102) : hvN b = b.toNat - 87 := by unfold hvN; rw [if_neg (by omega), if_pos ⟨h1, h2⟩]
theorem hvN_3 {b : UInt8} (h : b.toNat < 48 ∨ (57 < b.toNat ∧ b.toNat < 97) ∨ 102 < b.toNat) : hvN b = 0 := by unfold hvN; rw [if_neg (by omega), if_neg (by omega)]
theorem w8_sub {b : UInt8} {k : Nat} (h : k ≤ b.toNat) : IntKind.u8.wrap ((b.toNat : Int) - (k : Int)) = ((b.toNat - k : Nat) : Int) := by
  have := b.toNat_lt
  simp [IntKind.wrap, IntKind.bits, IntKind.signed]; omega
theorem hv_f1 {b : UInt8} (h1 : 48 ≤ b.toNat) (h2 : b.toNat ≤ 57) : Value.tuple #[.int .u8 (IntKind.u8.wrap ((b.toNat : Int) - 48)), .bool true] = .tuple #[.int .u8 (hvN b : Int), .bool (hvB b)] := by
  rw [hvB_t (.inl ⟨h1, h2⟩), hvN_1 h1 h2, show ((48 : Int)) = ((48 : Nat) : Int) from rfl, w8_sub h1]
theorem hv_f2 {b : UInt8} (h1 : 97 ≤ b.toNat) (h2 : b.toNat ≤ 102) : Value.tuple #[.int .u8 (IntKind.u8.wrap (IntKind.u8.wrap ((b.toNat : Int) - 97) + 10)), .bool true] = .tuple #[.int .u8 (hvN b : Int), .bool (hvB b)] := by
  rw [hvB_t (.inr ⟨h1, h2⟩), hvN_2 h1 h2, show ((97 : Int)) = ((97 : Nat) : Int) from rfl, w8_sub h1]
  rw [show IntKind.u8.wrap (((b.toNat - 97 : Nat) : Int) + 10) = ((b.toNat - 87 : Nat) : Int) by simp [IntKind.wrap, IntKind.bits, IntKind.signed]; omega]
theorem hv_f3 {b : UInt8} (h : b.toNat < 48 ∨ (57 < b.toNat ∧ b.toNat < 97) ∨ 102 < b.toNat) : Value.tuple #[.int .u8 0, .bool false] = .tuple #[.int .u8 (hvN b : Int), .bool (hvB b)] := by
  rw [hvB_f h, hvN_3 h]; rfl
theorem c8_int {n : Nat} (h : n < 256) : IntKind.i64.wrap (n : Int) = (n : Int) := wrap_nat (by omega)
theorem hd_f1 {b : UInt8} (h1 : 48 ≤ b.toNat) (h2 : b.toNat ≤ 57) : Value.int .i64 (IntKind.i64.wrap (IntKind.u8.wrap ((b.toNat : Int) - 48))) = .int .i64 (hdZ b) := by
  unfold hdZ
  rw [if_pos (hvB_t (.inl ⟨h1, h2⟩)), hvN_1 h1 h2, show ((48 : Int)) = ((48 : Nat) : Int) from rfl, w8_sub h1, c8_int (by omega)]
theorem hd_f2 {b : UInt8} (h1 : 97 ≤ b.toNat) (h2 : b.toNat ≤ 102) : Value.int .i64 (IntKind.i64.wrap (IntKind.i64.wrap (IntKind.u8.wrap ((b.toNat : Int) - 97)) + 10)) = .int .i64 (hdZ b) := by
  unfold hdZ
  rw [if_pos (hvB_t (.inr ⟨h1, h2⟩)), hvN_2 h1 h2, show ((97 : Int)) = ((97 : Nat) : Int) from rfl, w8_sub h1, c8_int (by omega), show (((b.toNat - 97 : Nat) : Int) + 10) = ((b.toNat - 87 : Nat) : Int) by omega, c8_int (by omega)]
theorem hd_f3 {b : UInt8} (h : b.toNat < 48 ∨ (57 < b.toNat ∧ b.toNat < 97) ∨ 102 < b.toNat) : Value.int .i64 (-1) = .int .i64 (hdZ b) := by
  unfold hdZ; rw [hvB_f h]; rfl

/-! Parse. -/
def sbt (s : ByteArray) (j : Nat) : UInt8 := (s[j]?).getD 0
def pv (s : ByteArray) (j : Nat) : UInt8 := UInt8.ofNat (hvN (sbt s (2 * j)) * 16 + hvN (sbt s (2 * j + 1)))
def good64 (s : ByteArray) : Prop := s.size = 64 ∧ ∀ j, j < 64 → hvB (sbt s j) = true
open Classical in
noncomputable def prV (s : ByteArray) : Value := if good64 s then .tuple #[H8 (pv s), .int .i64 0] else .tuple #[H8 (fun _ => 0), .int .i64 3]
theorem pr_bad {s : ByteArray} (h : ¬ good64 s) : Value.tuple #[H8 (fun _ => 0), .int .i64 3] = prV s := by unfold prV; rw [if_neg h]
theorem pr_good {s : ByteArray} (h : good64 s) : Value.tuple #[H8 (pv s), .int .i64 0] = prV s := by unfold prV; rw [if_pos h]
theorem ne64 {s : ByteArray} (h : s.size ≠ 64) : ((s.size : Int) != 64) = true := bne_iff_ne.2 (by omega)
theorem ne64f {s : ByteArray} (h : s.size = 64) : ((s.size : Int) != 64) = false := by rw [h]; rfl
theorem mul2i {i : Nat} (h : i < 1000000) : IntKind.i64.wrap (2 * (i : Int)) = ((2 * i : Nat) : Int) := by
  rw [show (2 : Int) * (i : Int) = ((2 * i : Nat) : Int) by omega, wrap_nat (by omega)]
theorem nb_f {a : Bool} (h : a = false) : (!a) = true := by rw [h]; rfl
theorem nb_nt {a : Bool} (h : ¬ a = false) : (!a) = false := by cases a; exact absurd rfl h; rfl
theorem nb_t {a : Bool} (h : ¬ a = false) : a = true := by cases a; exact absurd rfl h; rfl
theorem nb_t2 {a : Bool} (h : (!a) = false) : a = true := by cases a; cases h; rfl
theorem nb_ff {a : Bool} (h : (!a) = true) : a = false := by cases a; rfl; cases h
structure PX (s : ByteArray) where
  i : Nat
  hi : i ≤ 32
  hv : ∀ j, j < 2 * i → hvB (sbt s j) = true
def PX.next {s : ByteArray} (x : PX s) (h : x.i < 32) (h1 : hvB (sbt s (2 * x.i)) = true) (h2 : hvB (sbt s (2 * x.i + 1)) = true) : PX s where
  i := x.i + 1
  hi := h
  hv := fun j hj => by
    by_cases e : j = 2 * x.i
    · rw [e]; exact h1
    · by_cases e2 : j = 2 * x.i + 1
      · rw [e2]; exact h2
      · exact x.hv j (by omega)
theorem pa_0 (s : ByteArray) : bsc (fun _ => 0) 32 = bsc (fun j => if j < 0 then pv s j else 0) 32 := cl_ext fun j _ => by dsimp only; rw [if_neg (by omega)]
theorem pa_s (s : ByteArray) {i : Nat} (h : i < 32) : setRange (bsc (fun j => if j < i then pv s j else 0) 32) (0 + (i : Int).toNat * 1) [v8 (pv s i)] = bsc (fun j => if j < i + 1 then pv s j else 0) 32 := by
  rw [bsc_set _ _ rfl h]
  refine cl_ext fun j hj => ?_
  unfold upd
  dsimp only
  by_cases e : j = i
  · subst e; rw [if_pos rfl, if_pos (by omega)]
  · rw [if_neg e]
    by_cases h1 : j < i
    · rw [if_pos h1, if_pos (by omega)]
    · rw [if_neg h1, if_neg (by omega)]
theorem PX.fin {s : ByteArray} (x : PX s) (h64 : s.size = 64) (h : 32 ≤ x.i) : Value.tuple #[H8 (fun j => if j < x.i then pv s j else 0), .int .i64 0] = prV s := by
  have e : x.i = 32 := Nat.le_antisymm x.hi h
  rw [← pr_good ⟨h64, fun j hj => x.hv j (by omega)⟩]
  unfold H8
  rw [show bsc (fun j => if j < x.i then pv s j else 0) 32 = bsc (pv s) 32 from cl_ext fun j hj => by dsimp only; rw [if_pos (by omega)]]
structure QX (s : ByteArray) where
  i : Nat
  hi : i ≤ 64
  hv : ∀ j, j < i → hvB (sbt s j) = true
def QX.next {s : ByteArray} (x : QX s) (h : x.i < 64) (h1 : hvB (sbt s x.i) = true) : QX s where
  i := x.i + 1
  hi := h
  hv := fun j hj => by
    by_cases e : j = x.i
    · rw [e]; exact h1
    · exact x.hv j (by omega)
theorem hd_neg {b : UInt8} (h : decide (hdZ b < 0) = true) : hvB b = false := by
  have := of_decide_eq_true h
  unfold hdZ at this
  cases e : hvB b with
  | false => rfl
  | true => rw [e] at this; simp at this; omega
theorem hd_nn {b : UInt8} (h : decide (hdZ b < 0) = false) : hvB b = true := by
  have := of_decide_eq_false h
  unfold hdZ at this
  cases e : hvB b with
  | true => rfl
  | false => rw [e] at this; exact absurd (by simp) this
/-- What the reference holds after i digits. -/
def qv (s : ByteArray) (i j : Nat) : UInt8 := if 2 * j + 1 < i then pv s j else if 2 * j < i then UInt8.ofNat (hvN (sbt s (2 * j))) else 0
theorem qa_0 (s : ByteArray) : bsc (fun _ => 0) 32 = bsc (qv s 0) 32 := cl_ext fun j _ => by unfold qv; rw [if_neg (by omega), if_neg (by omega)]
theorem quo2_n (j : Nat) (h : j < 1000000) : IntKind.i64.wrap ((j : Int).tdiv 2) = ((j / 2 : Nat) : Int) := by
  rw [show (j : Int).tdiv 2 = ((j / 2 : Nat) : Int) from rfl, wrap_nat (by omega)]
theorem quo2_ok {j : Nat} (h : j < 64) : 0 ≤ IntKind.i64.wrap ((j : Int).tdiv 2) ∧ IntKind.i64.wrap ((j : Int).tdiv 2) < 32 := by
  rw [quo2_n j (by omega)]; omega
theorem qa_s (s : ByteArray) {i : Nat} (h : i < 64) : setRange (bsc (qv s i) 32) (0 + (IntKind.i64.wrap ((i : Int).tdiv 2)).toNat * 1) [v8 (qv s (i + 1) (i / 2))] = bsc (qv s (i + 1)) 32 := by
  rw [bsc_set _ _ (quo2_n i (by omega)) (by omega)]
  refine cl_ext fun j hj => ?_
  unfold upd
  by_cases e : j = i / 2
  · rw [if_pos e, e]
  · rw [if_neg e]
    unfold qv
    by_cases h1 : 2 * j + 1 < i
    · rw [if_pos h1, if_pos (by omega)]
    · rw [if_neg h1, if_neg (by omega), if_neg (by omega), if_neg (by omega)]
theorem qa_v (s : ByteArray) {i : Nat} (hb : hvB (sbt s i) = true) : IntKind.u8.wrap (IntKind.u8.wrap (((qv s i (i / 2)).toNat : Int) * 16) + IntKind.u8.wrap (hdZ (sbt s i))) = ((qv s (i + 1) (i / 2)).toNat : Int) := by
  have h16 := hv_16 (sbt s i)
  have hz : hdZ (sbt s i) = (hvN (sbt s i) : Int) := by unfold hdZ; rw [hb]; rfl
  rw [hz]
  by_cases he : i % 2 = 0
  · have e1 : qv s i (i / 2) = 0 := by unfold qv; rw [if_neg (by omega), if_neg (by omega)]
    have e2 : qv s (i + 1) (i / 2) = UInt8.ofNat (hvN (sbt s i)) := by unfold qv; rw [if_neg (by omega), if_pos (by omega), show 2 * (i / 2) = i by omega]
    rw [e1, e2, UInt8.toNat_ofNat']
    simp [IntKind.wrap, IntKind.bits, IntKind.signed]
  · have e1 : qv s i (i / 2) = UInt8.ofNat (hvN (sbt s (2 * (i / 2)))) := by unfold qv; rw [if_neg (by omega), if_pos (by omega)]
    have e2 : qv s (i + 1) (i / 2) = pv s (i / 2) := by unfold qv; rw [if_pos (by omega)]
    have h17 := hv_16 (sbt s (2 * (i / 2)))
    rw [e1, e2]
    unfold pv
    rw [show 2 * (i / 2) + 1 = i by omega, UInt8.toNat_ofNat', UInt8.toNat_ofNat']
    simp [IntKind.wrap, IntKind.bits, IntKind.signed]
    omega
theorem QX.fin {s : ByteArray} (x : QX s) (h64 : s.size = 64) (h : 64 ≤ x.i) : Value.tuple #[H8 (qv s x.i), .int .i64 0] = prV s := by
  have e : x.i = 64 := Nat.le_antisymm x.hi h
  rw [← pr_good ⟨h64, fun j hj => x.hv j (by omega)⟩]
  unfold H8
  rw [show bsc (qv s x.i) 32 = bsc (pv s) 32 from cl_ext fun j hj => by unfold qv; rw [if_pos (by omega)]]

theorem c_fmt (f : Nat → UInt8) : Det Tryd.prog 17 [H8 f] (.string (strOf (hxs f 32))) :=
  det_of_vc Tryd.mixed good_hash_Format (O := [.opt 1 [(0, .own Unit () 5 1 (fun _ => []))], .opt 2 [(0, .ld (H8 f))], .inv (Upto 32) (fun x : Upto 32 => ⟨23, [(3, .a 2 1 1), (7, .v (H8 f) []), (8, .v (.int .i64 (x.1 : Int)) [])], [(2, ⟨bufT 5 1, bcs (hxs f x.1), []⟩)], 20⟩) (fun x => 32 - x.1) (fun x => [.both [.opt 4 [(0, .ld (v8 (f x.1)))], .opt 5 [(5, .ld (.int .u8 (((f x.1).toNat % 16 : Nat) : Int))), (7, .call Nat 0 (fun m => (Byt.row m [hexD ((f x.1).toNat / 16), hexD ((f x.1).toNat % 16)]).v) (fun m => (Byt.row m [hexD ((f x.1).toNat / 16), hexD ((f x.1).toNat % 16)]).L)), (8, .app 2 (bcs [hexD ((f x.1).toNat / 16), hexD ((f x.1).toNat % 16)]))]] [.puba 7 3 (bcs (hxs f x.1)) (fun v => [.opt 7 [(1, .ld (.string (strOf (hxs f x.1))))]])]])]) fun _ => ⟨own_mk64 _, fun _ => ⟨ld_h32 f, ⟨⟨⟨0, Nat.zero_le _⟩, rfl, ⟨⟨rfl, rfl, rfl⟩, ⟨rfl, nofun⟩, ⟨rfl, nofun⟩, trivial⟩, ⟨⟨rfl, rfl⟩, rfl, nofun⟩, trivial⟩, fun x => ⟨fun h => ⟨⟨Int.natCast_nonneg _, Int.ofNat_lt.2 (lt_t (n := 32) h)⟩, ix_h f (lt_t (n := 32) h), ⟨by decide, ⟨hex_c1 (f x.1), ⟨ld_and15 (f x.1) _, ⟨hex_c2 (f x.1), ⟨build_two _ _ _ (congrArg (Value.int .u8) (hex_hi (f x.1))) (congrArg (Value.int .u8) (hex_lo (f x.1))), fun m => ⟨⟨(Byt.row m [hexD ((f x.1).toNat / 16), hexD ((f x.1).toNat % 16)]).src (by intro z h; have h : z ∈ (Byt.row m [hexD ((f x.1).toNat / 16), hexD ((f x.1).toNat % 16)]).L := h; simp [h]), hx_ok f x.2⟩, fun _ => ⟨⟨x.1 + 1, (lt_t (n := 32) h)⟩, (by have := (lt_t (n := 32) h); show 32 - (x.1 + 1) < 32 - x.1; omega), rfl, ⟨⟨rfl, rfl, rfl⟩, ⟨rfl, nofun⟩, ⟨congrArg _ (add1 (by have := (lt_t (n := 32) h); omega)), nofun⟩, trivial⟩, ⟨⟨rfl, rfl⟩, bcs_append _ _, nofun⟩, trivial⟩⟩⟩⟩⟩⟩⟩⟩, fun h => ⟨rfl, fun v => ⟨(Byt.fr (hxs f x.1) v).str (fun z h => List.mem_append.2 (.inr (List.mem_append.2 (.inl (List.mem_append.2 (.inl h)))))), ⟨(), hx_fin f (lt_f (n := 32) h) x.2, nofun⟩⟩⟩⟩⟩⟩⟩
theorem t_fmt (f : Nat → UInt8) : Det Tryd.prog 19 [H8 f] (.string (strOf (hxs f 32))) :=
  det_of_vc Tryd.mixed good_pontageref7_Format (O := [.inv (Upto 32) (fun x : Upto 32 => ⟨31, [(1, .p 0 0), (3, .v (.string (strOf (hxs f x.1))) []), (4, .v (.int .i64 (x.1 : Int)) [])], [(0, ⟨25, bsc f 32, []⟩)], 20⟩) (fun x => 32 - x.1) (fun x => [.both [.opt 5 [(2, .ld (v8 (f x.1))), (6, .ld (v8 (f x.1)))], .opt 6 [(3, .ld (.int .u8 (((f x.1).toNat / 16 + 1 : Nat) : Int))), (8, .ld (.int .u8 (((f x.1).toNat % 16 + 1 : Nat) : Int)))]] []])]) fun _ => ⟨⟨⟨0, Nat.zero_le _⟩, rfl, ⟨⟨rfl, rfl, rfl⟩, ⟨rfl, nofun⟩, ⟨rfl, nofun⟩, trivial⟩, ⟨rfl, rfl, nofun⟩, trivial⟩, fun x => ⟨fun h => ⟨⟨Int.natCast_nonneg _, by have := (lt_t (n := 32) h); omega⟩, ⟨cl_at (fun i => v8 (f i)) (n := 32) (j := x.1) rfl (lt_t (n := 32) h), ⟨⟨by decide, rfl⟩, ⟨⟨Int.natCast_nonneg _, by have := (lt_t (n := 32) h); omega⟩, ⟨cl_at (fun i => v8 (f i)) (n := 32) (j := x.1) rfl (lt_t (n := 32) h), ⟨⟨by decide, rfl⟩, ⟨ld_add8 (hq_1 (f x.1)) _, ⟨hex_s1 (f x.1), ⟨hex_j1 f x.2, ⟨ld_add8 (hr_1 (f x.1)) _, ⟨hex_s2 (f x.1), ⟨hex_j2 f x.2, ⟨⟨x.1 + 1, (lt_t (n := 32) h)⟩, (by have := (lt_t (n := 32) h); show 32 - (x.1 + 1) < 32 - x.1; omega), rfl, ⟨⟨rfl, rfl, rfl⟩, ⟨congrArg Value.string (hex_cat (hxs f x.1) (f x.1)), nofun⟩, ⟨congrArg _ (add1 (by have := (lt_t (n := 32) h); omega)), nofun⟩, trivial⟩, ⟨rfl, rfl, nofun⟩, trivial⟩⟩⟩⟩⟩⟩⟩⟩⟩⟩⟩⟩⟩, fun h => ⟨(), hx_fin f (lt_f (n := 32) h) x.2, nofun⟩⟩⟩
theorem hv_1 (b : UInt8) (h1 : 48 ≤ b.toNat) (h2 : b.toNat ≤ 57) : Det Tryd.prog 28 [v8 b] (.tuple #[.int .u8 (hvN b : Int), .bool (hvB b)]) :=
  det_of_vc Tryd.mixed good_hash_hexValue (O := [.reg [(3, .yes), (4, .yes), (5, .yes)], .yes]) fun _ => ⟨gtt (ge_n h1), ⟨gtt (ge_n h1), ⟨(ge_n h1), ⟨(le_n2 h2), ⟨(), hv_f1 h1 h2, nofun⟩⟩⟩⟩⟩
theorem hv_2 (b : UInt8) (h0 : 48 ≤ b.toNat) (h1 : 57 < b.toNat) (h2 : 97 ≤ b.toNat) (h3 : b.toNat ≤ 102) : Det Tryd.prog 28 [v8 b] (.tuple #[.int .u8 (hvN b : Int), .bool (hvB b)]) :=
  det_of_vc Tryd.mixed good_hash_hexValue (O := [.reg [(3, .yes), (4, .yes), (5, .yes)], .no, .reg [(3, .yes), (4, .yes), (5, .yes)], .yes]) fun _ => ⟨gtt (ge_n h0), ⟨gtt (ge_n h0), ⟨(ge_n h0), ⟨(le_nf h1), ⟨gtt (ge_n h2), ⟨gtt (ge_n h2), ⟨(ge_n h2), ⟨(le_n2 h3), ⟨(), hv_f2 h2 h3, nofun⟩⟩⟩⟩⟩⟩⟩⟩⟩
theorem hv_3 (b : UInt8) (h1 : b.toNat < 48) : Det Tryd.prog 28 [v8 b] (.tuple #[.int .u8 (hvN b : Int), .bool (hvB b)]) :=
  det_of_vc Tryd.mixed good_hash_hexValue (O := [.reg [(3, .no), (4, .no), (5, .no)], .no, .reg [(3, .no), (4, .no), (5, .no)], .no]) fun _ => ⟨gtf (ge_nf h1), ⟨gtf (ge_nf h1), ⟨(ge_nf h1), ⟨rfl, ⟨gtf (ge_nf (Nat.lt_of_lt_of_le h1 (by decide))), ⟨gtf (ge_nf (Nat.lt_of_lt_of_le h1 (by decide))), ⟨(ge_nf (Nat.lt_of_lt_of_le h1 (by decide))), ⟨rfl, ⟨(), hv_f3 (.inl h1), nofun⟩⟩⟩⟩⟩⟩⟩⟩⟩
theorem hv_4 (b : UInt8) (h0 : 48 ≤ b.toNat) (h1 : 57 < b.toNat) (h2 : b.toNat < 97) : Det Tryd.prog 28 [v8 b] (.tuple #[.int .u8 (hvN b : Int), .bool (hvB b)]) :=
  det_of_vc Tryd.mixed good_hash_hexValue (O := [.reg [(3, .yes), (4, .yes), (5, .yes)], .no, .reg [(3, .no), (4, .no), (5, .no)], .no]) fun _ => ⟨gtt (ge_n h0), ⟨gtt (ge_n h0), ⟨(ge_n h0), ⟨(le_nf h1), ⟨gtf (ge_nf h2), ⟨gtf (ge_nf h2), ⟨(ge_nf h2), ⟨rfl, ⟨(), hv_f3 (.inr (.inl ⟨h1, h2⟩)), nofun⟩⟩⟩⟩⟩⟩⟩⟩⟩
theorem hv_5 (b : UInt8) (h0 : 48 ≤ b.toNat) (h1 : 57 < b.toNat) (h2 : 97 ≤ b.toNat) (h3 : 102 < b.toNat) : Det Tryd.prog 28 [v8 b] (.tuple #[.int .u8 (hvN b : Int), .bool (hvB b)]) :=
  det_of_vc Tryd.mixed good_hash_hexValue (O := [.reg [(3, .yes), (4, .yes), (5, .yes)], .no, .reg [(3, .yes), (4, .yes), (5, .yes)], .no]) fun _ => ⟨gtt (ge_n h0), ⟨gtt (ge_n h0), ⟨(ge_n h0), ⟨(le_nf h1), ⟨gtt (ge_n h2), ⟨gtt (ge_n h2), ⟨(ge_n h2), ⟨(le_nf h3), ⟨(), hv_f3 (.inr (.inr h3)), nofun⟩⟩⟩⟩⟩⟩⟩⟩⟩
theorem c_hv (b : UInt8) : Det Tryd.prog 28 [v8 b] (.tuple #[.int .u8 (hvN b : Int), .bool (hvB b)]) := by
  by_cases h1 : b.toNat < 48
  · exact hv_3 b h1
  by_cases h2 : b.toNat ≤ 57
  · exact hv_1 b (by omega) h2
  by_cases h3 : b.toNat < 97
  · exact hv_4 b (by omega) (by omega) h3
  by_cases h4 : b.toNat ≤ 102
  · exact hv_2 b (by omega) (by omega) (by omega) h4
  · exact hv_5 b (by omega) (by omega) (by omega) (by omega)

theorem hd_1 (b : UInt8) (h1 : 48 ≤ b.toNat) (h2 : b.toNat ≤ 57) : Det Tryd.prog 29 [v8 b] (.int .i64 (hdZ b)) :=
  det_of_vc Tryd.mixed good_pontageref7_HexDigit (O := [.reg [(3, .yes), (4, .yes), (5, .yes)], .yes]) fun _ => ⟨gtt (ge_n h1), ⟨gtt (ge_n h1), ⟨(ge_n h1), ⟨(le_n2 h2), ⟨(), hd_f1 h1 h2, nofun⟩⟩⟩⟩⟩
theorem hd_2 (b : UInt8) (h0 : 48 ≤ b.toNat) (h1 : 57 < b.toNat) (h2 : 97 ≤ b.toNat) (h3 : b.toNat ≤ 102) : Det Tryd.prog 29 [v8 b] (.int .i64 (hdZ b)) :=
  det_of_vc Tryd.mixed good_pontageref7_HexDigit (O := [.reg [(3, .yes), (4, .yes), (5, .yes)], .no, .reg [(3, .yes), (4, .yes), (5, .yes)], .yes]) fun _ => ⟨gtt (ge_n h0), ⟨gtt (ge_n h0), ⟨(ge_n h0), ⟨(le_nf h1), ⟨gtt (ge_n h2), ⟨gtt (ge_n h2), ⟨(ge_n h2), ⟨(le_n2 h3), ⟨(), hd_f2 h2 h3, nofun⟩⟩⟩⟩⟩⟩⟩⟩⟩
theorem hd_3 (b : UInt8) (h1 : b.toNat < 48) : Det Tryd.prog 29 [v8 b] (.int .i64 (hdZ b)) :=
  det_of_vc Tryd.mixed good_pontageref7_HexDigit (O := [.reg [(3, .no), (4, .no), (5, .no)], .no, .reg [(3, .no), (4, .no), (5, .no)], .no]) fun _ => ⟨gtf (ge_nf h1), ⟨gtf (ge_nf h1), ⟨(ge_nf h1), ⟨rfl, ⟨gtf (ge_nf (Nat.lt_of_lt_of_le h1 (by decide))), ⟨gtf (ge_nf (Nat.lt_of_lt_of_le h1 (by decide))), ⟨(ge_nf (Nat.lt_of_lt_of_le h1 (by decide))), ⟨rfl, ⟨(), hd_f3 (.inl h1), nofun⟩⟩⟩⟩⟩⟩⟩⟩⟩
theorem hd_4 (b : UInt8) (h0 : 48 ≤ b.toNat) (h1 : 57 < b.toNat) (h2 : b.toNat < 97) : Det Tryd.prog 29 [v8 b] (.int .i64 (hdZ b)) :=
  det_of_vc Tryd.mixed good_pontageref7_HexDigit (O := [.reg [(3, .yes), (4, .yes), (5, .yes)], .no, .reg [(3, .no), (4, .no), (5, .no)], .no]) fun _ => ⟨gtt (ge_n h0), ⟨gtt (ge_n h0), ⟨(ge_n h0), ⟨(le_nf h1), ⟨gtf (ge_nf h2), ⟨gtf (ge_nf h2), ⟨(ge_nf h2), ⟨rfl, ⟨(), hd_f3 (.inr (.inl ⟨h1, h2⟩)), nofun⟩⟩⟩⟩⟩⟩⟩⟩⟩
theorem hd_5 (b : UInt8) (h0 : 48 ≤ b.toNat) (h1 : 57 < b.toNat) (h2 : 97 ≤ b.toNat) (h3 : 102 < b.toNat) : Det Tryd.prog 29 [v8 b] (.int .i64 (hdZ b)) :=
  det_of_vc Tryd.mixed good_pontageref7_HexDigit (O := [.reg [(3, .yes), (4, .yes), (5, .yes)], .no, .reg [(3, .yes), (4, .yes), (5, .yes)], .no]) fun _ => ⟨gtt (ge_n h0), ⟨gtt (ge_n h0), ⟨(ge_n h0), ⟨(le_nf h1), ⟨gtt (ge_n h2), ⟨gtt (ge_n h2), ⟨(ge_n h2), ⟨(le_nf h3), ⟨(), hd_f3 (.inr (.inr h3)), nofun⟩⟩⟩⟩⟩⟩⟩⟩⟩
theorem t_hd (b : UInt8) : Det Tryd.prog 29 [v8 b] (.int .i64 (hdZ b)) := by
  by_cases h1 : b.toNat < 48
  · exact hd_3 b h1
  by_cases h2 : b.toNat ≤ 57
  · exact hd_1 b (by omega) h2
  by_cases h3 : b.toNat < 97
  · exact hd_4 b (by omega) (by omega) h3
  by_cases h4 : b.toNat ≤ 102
  · exact hd_2 b (by omega) (by omega) (by omega) h4
  · exact hd_5 b (by omega) (by omega) (by omega) (by omega)

theorem c_pa_len (s : ByteArray) (h : s.size ≠ 64) : Det Tryd.prog 18 [.string s] (prV s) :=
  det_of_vc Tryd.mixed good_hash_Parse (O := [.yes]) fun _ => ⟨(ne64 h), ⟨(), pr_bad (fun g => h g.1), nofun⟩⟩
theorem c_pa_64 (s : ByteArray) (h64 : s.size = 64) : Det Tryd.prog 18 [.string s] (prV s) :=
  det_of_vc Tryd.mixed good_hash_Parse (O := [.no, .inv (PX s) (fun x : PX s => ⟨49, [(0, .v (.string s) []), (2, .p 0 0), (4, .p 2 0), (14, .v (.int .i64 (x.i : Int)) [])], [(0, ⟨25, bsc (fun _ => 0) 32, []⟩), (2, ⟨25, bsc (fun j => if j < x.i then pv s j else 0) 32, []⟩)], 20⟩) (fun x => 32 - x.i) (fun x => [.both [.reg [(2, .ld (.int .i64 ((2 * x.i : Nat) : Int))), (4, det (.tuple #[.int .u8 (hvN (sbt s (2 * x.i)) : Int), .bool (hvB (sbt s (2 * x.i)))]))], .reg [(2, .ld (.int .i64 ((2 * x.i : Nat) : Int))), (3, .ld (.int .i64 ((2 * x.i + 1 : Nat) : Int))), (5, det (.tuple #[.int .u8 (hvN (sbt s (2 * x.i + 1)) : Int), .bool (hvB (sbt s (2 * x.i + 1)))]))], .alt [(hvB (sbt s (2 * x.i)) = false, [(3, .no), (4, .no), (5, .yes)], [.yes]), (True, [(3, .yes), (4, .yes), (5, .no)], [.both [] [.opt 11 [(4, .ld (v8 (pv s x.i))), (6, .mk 0)]]])]] [.opt 13 [(0, .ld (H8 (fun j => if j < x.i then pv s j else 0)))]]])]) fun _ => ⟨(ne64f h64), ⟨⟨⟨0, Nat.zero_le _, fun j h => absurd h (by omega)⟩, rfl, ⟨⟨rfl, nofun⟩, ⟨rfl, rfl, rfl⟩, ⟨rfl, rfl, rfl⟩, ⟨rfl, nofun⟩, trivial⟩, ⟨rfl, rfl, nofun⟩, ⟨rfl, pa_0 s, nofun⟩, trivial⟩, fun x => ⟨fun h => ⟨ld_mul (mul2i (by have := (lt_t (n := 32) h); omega)) _, ⟨⟨Int.natCast_nonneg _, by rw [h64]; have := (lt_t (n := 32) h); omega⟩, ⟨c_hv (sbt s (2 * x.i)) _, fun _ => ⟨ld_mul (mul2i (by have := (lt_t (n := 32) h); omega)) _, ⟨ld_add (addk 1 (by have := (lt_t (n := 32) h); omega)) _, ⟨⟨Int.natCast_nonneg _, by rw [h64]; have := (lt_t (n := 32) h); omega⟩, ⟨c_hv (sbt s (2 * x.i + 1)) _, fun _ => ⟨fun ha => ⟨gft (nb_f ha), ⟨gft (nb_f ha), ⟨(nb_f ha), ⟨rfl, ⟨(), pr_bad (fun g => absurd (g.2 (2 * x.i) (by have := (lt_t (n := 32) h); omega)) (by rw [ha]; decide)), nofun⟩⟩⟩⟩⟩, fun ha => ⟨fun hT => ⟨gff (nb_nt ha), ⟨gff (nb_nt ha), ⟨(nb_nt ha), ⟨fun hl => ⟨(), pr_bad (fun g => absurd (g.2 (2 * x.i + 1) (by have := (lt_t (n := 32) h); omega)) (by rw [nb_ff hl]; decide)), nofun⟩, fun hl => ⟨by decide, ⟨ld_or8 (hv_16 _) (hv_16 _) _, ⟨⟨Int.natCast_nonneg _, by have := (lt_t (n := 32) h); omega⟩, ⟨cl_in (fun j => v8 ((fun j => if j < x.i then pv s j else 0) j)) (n := 32) (j := x.i) rfl (lt_t (n := 32) h), ⟨x.next (lt_t (n := 32) h) (nb_t ha) (nb_t2 hl), (by have := (lt_t (n := 32) h); show 32 - (x.i + 1) < 32 - x.i; omega), rfl, ⟨⟨rfl, nofun⟩, ⟨rfl, rfl, rfl⟩, ⟨rfl, rfl, rfl⟩, ⟨congrArg _ (add1 (by have := (lt_t (n := 32) h); omega)), nofun⟩, trivial⟩, ⟨rfl, rfl, nofun⟩, ⟨rfl, pa_s s (lt_t (n := 32) h), nofun⟩, trivial⟩⟩⟩⟩⟩⟩⟩⟩⟩, fun h => (h trivial).elim⟩⟩⟩⟩⟩⟩⟩⟩⟩, fun h => ⟨ld_h32 _, ⟨(), x.fin h64 (lt_f (n := 32) h), nofun⟩⟩⟩⟩⟩
theorem c_parse (s : ByteArray) : Det Tryd.prog 18 [.string s] (prV s) := by
  by_cases h : s.size = 64
  · exact c_pa_64 s h
  · exact c_pa_len s h

theorem t_pa_len (s : ByteArray) (h : s.size ≠ 64) : Det Tryd.prog 20 [.string s] (prV s) :=
  det_of_vc Tryd.mixed good_pontageref7_Parse (O := [.yes]) fun _ => ⟨(ne64 h), ⟨(), pr_bad (fun g => h g.1), nofun⟩⟩
theorem t_pa_64 (s : ByteArray) (h64 : s.size = 64) : Det Tryd.prog 20 [.string s] (prV s) :=
  det_of_vc Tryd.mixed good_pontageref7_Parse (O := [.no, .inv (QX s) (fun x : QX s => ⟨35, [(0, .v (.string s) []), (2, .p 0 0), (4, .p 2 0), (5, .v (.int .i64 (x.i : Int)) [])], [(0, ⟨25, bsc (fun _ => 0) 32, []⟩), (2, ⟨25, bsc (qv s x.i) 32, []⟩)], 20⟩) (fun x => 64 - x.i) (fun x => [.both [.reg [(3, det (.int .i64 (hdZ (sbt s x.i))))], .both [] [.reg [(5, .ld (v8 (qv s x.i (x.i / 2)))), (10, det (.int .i64 (hdZ (sbt s x.i)))), (12, .ld (v8 (qv s (x.i + 1) (x.i / 2)))), (14, .mk 0)]]] [.opt 10 [(0, .ld (H8 (qv s x.i)))]]])]) fun _ => ⟨(ne64f h64), ⟨⟨⟨0, Nat.zero_le _, fun j h => absurd h (by omega)⟩, rfl, ⟨⟨rfl, nofun⟩, ⟨rfl, rfl, rfl⟩, ⟨rfl, rfl, rfl⟩, ⟨rfl, nofun⟩, trivial⟩, ⟨rfl, rfl, nofun⟩, ⟨rfl, qa_0 s, nofun⟩, trivial⟩, fun x => ⟨fun h => ⟨⟨Int.natCast_nonneg _, by rw [h64]; have := (lt_t (n := 64) h); omega⟩, ⟨t_hd (sbt s x.i) _, fun _ => ⟨fun hc => ⟨(), pr_bad (fun g => absurd (g.2 x.i (lt_t (n := 64) h)) (by rw [hd_neg hc]; decide)), nofun⟩, fun hc => ⟨⟨by decide, rfl⟩, ⟨⟨by decide, rfl⟩, ⟨quo2_ok (by have := (lt_t (n := 64) h); omega), ⟨cl_at (fun j => v8 (qv s x.i j)) (n := 32) (j := x.i / 2) (quo2_n x.i (by have := (lt_t (n := 64) h); omega)) (by have := (lt_t (n := 64) h); omega), ⟨⟨Int.natCast_nonneg _, by rw [h64]; have := (lt_t (n := 64) h); omega⟩, ⟨t_hd (sbt s x.i) _, fun _ => ⟨ld_add8 (qa_v s (hd_nn hc)) _, ⟨quo2_ok (by have := (lt_t (n := 64) h); omega), ⟨cl_in (fun j => v8 (qv s x.i j)) (n := 32) (j := x.i / 2) (quo2_n x.i (by have := (lt_t (n := 64) h); omega)) (by have := (lt_t (n := 64) h); omega), ⟨x.next (lt_t (n := 64) h) (hd_nn hc), (by have := (lt_t (n := 64) h); show 64 - (x.i + 1) < 64 - x.i; omega), rfl, ⟨⟨rfl, nofun⟩, ⟨rfl, rfl, rfl⟩, ⟨rfl, rfl, rfl⟩, ⟨congrArg _ (add1 (by have := (lt_t (n := 64) h); omega)), nofun⟩, trivial⟩, ⟨rfl, rfl, nofun⟩, ⟨rfl, qa_s s (lt_t (n := 64) h), nofun⟩, trivial⟩⟩⟩⟩⟩⟩⟩⟩⟩⟩⟩⟩⟩, fun h => ⟨ld_h32 _, ⟨(), x.fin h64 (lt_f (n := 64) h), nofun⟩⟩⟩⟩⟩
theorem t_parse (s : ByteArray) : Det Tryd.prog 20 [.string s] (prV s) := by
  by_cases h : s.size = 64
  · exact t_pa_64 s h
  · exact t_pa_len s h

end Go.Proofs.YtkbdncbifgicnaaDoor

