/- Package hash over this translation: its words, its schedule, one block. Condition, where it is named: the table of round constants holds the round constants. -/
import Derived.Test.YtgbfolkpgmjaeaaDoorH7n
import Derived.Lib.LaidTab
namespace Go.Proofs.YtgbfolkpgmjaeaaDoor
open Go.RowKit Sx
set_option maxRecDepth 100000

/-- The table of round constants is as it was laid. -/
def RC (w : World) : Prop := Lib.TabIs Tryd.prog w "pontage/hash.roundConstants" .u32 (rcTab.map fun n : Nat => (n : Int))
abbrev Mid : Type := { i : Nat // 16 ≤ i ∧ i ≤ 64 }
theorem mid_next {i : Nat} (h : 16 ≤ i ∧ i ≤ 64) (h2 : i < 64) : 16 ≤ i + 1 ∧ i + 1 ≤ 64 := by omega
theorem rc_name : Tryd.prog.globalNamed "pontage/hash.roundConstants" = some 0 := by kernel_rfl
theorem rc_val : ∀ i, i < 64 → ((rcTab.map fun n : Nat => (n : Int)).getD i 0) = ((rcK i).toNat : Int) := by decide +kernel
theorem rc_load {A : Facts} (hA : EnvF RC A) (i : Nat) (hi : i < 64) : ∀ w, Sx.Holds w A → (loadVar 62 ⟨0, i, none⟩).run Tryd.prog w = .ok (w32 (rcK i)) w := by
  intro w hw
  have hc := (hA w hw : Lib.TabIs _ _ _ _ _).cell rc_name i (by show i < 64; exact hi)
  rw [rc_val i hi] at hc
  simp only [loadVar, Sem.run_bind, Tryd.isAgg62, Result.andThen_ok, Bool.false_eq_true, if_false, run_load, hc]
section
variable {ρ : Operand → Value} {dst : Option Tmp} {type : TypeId} {pos : String} {after : Array Edge} {guard : Option (Nat × Bool)}
theorem rot_amt : ∀ n : Nat, n < 32 → 0 < n → IntKind.u64.wrap ((BitVec.ofInt 64 (IntKind.u64.wrap (IntKind.i64.wrap (0 - (n : Int)))) &&& BitVec.ofInt 64 31).toNat : Int) = ((32 - n : Nat) : Int) := by decide
theorem ld_rot {n : Nat} (h0 : 0 < n) (h1 : n < 32) (A : Facts) {x y : Operand} (hx : ρ x = .int .u64 (IntKind.u64.wrap (IntKind.i64.wrap (0 - (n : Int)))) := by rfl) (hy : ρ y = .int .u64 31 := by rfl) :
    ∀ w, Sx.Holds w A → (execOp ρ ⟨dst, .binOp .and 56 x y 56, type, pos, after, guard⟩).run Tryd.prog w = .ok (.value (.int .u64 ((32 - n : Nat) : Int))) w := by
  intro w _
  have e : execOp ρ ⟨dst, .binOp .and 56 x y 56, type, pos, after, guard⟩ = (do let v ← binOp .and 56 (ρ x) (ρ y); pure (.value v)) := rfl
  have e2 : binOp .and 56 (.int .u64 (IntKind.u64.wrap (IntKind.i64.wrap (0 - (n : Int))))) (.int .u64 31) = pure (.int .u64 (IntKind.u64.wrap ((BitVec.ofInt 64 (IntKind.u64.wrap (IntKind.i64.wrap (0 - (n : Int)))) &&& BitVec.ofInt 64 31).toNat : Int))) := rfl
  rw [e, hx, hy, e2, rot_amt n h1 h0]
  rfl
theorem ld_sub64 {a b c : Int} (h : IntKind.u64.wrap (a - b) = c) (A : Facts) {x y : Operand} (hx : ρ x = .int .u64 a := by rfl) (hy : ρ y = .int .u64 b := by rfl) :
    ∀ w, Sx.Holds w A → (execOp ρ ⟨dst, .binOp .sub 56 x y 56, type, pos, after, guard⟩).run Tryd.prog w = .ok (.value (.int .u64 c)) w := by
  intro w _
  have e : execOp ρ ⟨dst, .binOp .sub 56 x y 56, type, pos, after, guard⟩ = (do let v ← binOp .sub 56 (ρ x) (ρ y); pure (.value v)) := rfl
  rw [e, hx, hy, ← h]
  rfl
theorem rot_sub {n : Nat} (h : n < 32) : IntKind.u64.wrap (32 - (n : Int)) = ((32 - n : Nat) : Int) := by
  rw [show (32 : Int) - (n : Int) = ((32 - n : Nat) : Int) by omega, u64_wrap_nat (by omega)]
theorem rot_back {n : Nat} (h0 : 0 < n) (h : n < 32) : IntKind.u64.wrap (32 - ((32 - n : Nat) : Int)) = (n : Int) := by
  rw [show (32 : Int) - ((32 - n : Nat) : Int) = (n : Int) by omega, u64_wrap_nat (by omega)]
theorem ld_mul {a b c : Int} (h : IntKind.i64.wrap (a * b) = c) (A : Facts) {x y : Operand} (hx : ρ x = .int .i64 a := by rfl) (hy : ρ y = .int .i64 b := by rfl) :
    ∀ w, Sx.Holds w A → (execOp ρ ⟨dst, .binOp .mul 3 x y 3, type, pos, after, guard⟩).run Tryd.prog w = .ok (.value (.int .i64 c)) w := by
  intro w _
  have e : execOp ρ ⟨dst, .binOp .mul 3 x y 3, type, pos, after, guard⟩ = (do let v ← binOp .mul 3 (ρ x) (ρ y); pure (.value v)) := rfl
  rw [e, hx, hy, ← h]
  rfl
theorem mul4i {i : Nat} (h : i < 1000000) : IntKind.i64.wrap (4 * (i : Int)) = ((4 * i : Nat) : Int) := by
  rw [show (4 : Int) * (i : Int) = ((4 * i : Nat) : Int) by omega, wrap_nat (by omega)]
theorem subk {i : Nat} (k : Nat) (h : k ≤ i) (hi : i < 1000000) : IntKind.i64.wrap ((i : Int) - (k : Int)) = ((i - k : Nat) : Int) := by
  rw [show (i : Int) - (k : Int) = ((i - k : Nat) : Int) by omega, wrap_nat (by omega)]
theorem rc_addr (i : Nat) (hi : i < 64) (A : Facts) {x : Operand} (hx : ρ x = .int .i64 (i : Int) := by rfl) (hg : ρ (.global 0) = .pointer (some ⟨0, 0, none⟩) := by rfl) :
    ∀ w, Sx.Holds w A → (execOp ρ ⟨dst, .indexAddr 74 (.global 0) x, type, pos, after, guard⟩).run Tryd.prog w = .ok (.value (.pointer (some ⟨0, i, none⟩))) w := by
  intro w _
  obtain ⟨inf, hinf, hs⟩ : ∃ i, Tryd.prog.info? 62 = some i ∧ i.size = 1 := by
    have h1 : (Tryd.prog.info? 62).map (fun i => i.size) = some 1 := by kernel_rfl
    cases h : Tryd.prog.info? 62 with
    | none => rw [h] at h1; cases h1
    | some i => rw [h] at h1; simp at h1; exact ⟨i, rfl, h1⟩
  simp [execOp, Instr.indexAt, run_underlying Tryd.underlying74, hx, hg, Instr.sureAddr, asIntOf, hi, run_size hinf, add_none, hs]
end
theorem u_chain : Tryd.prog.underlying 65 = some (.array 8 62) := Tryd.underlying65
theorem u_arr8 : Tryd.prog.underlying 63 = some (.array 8 62) := Tryd.underlying63
theorem i_word : (Tryd.prog.info? 62).map (fun i => i.size) = some 1 := by kernel_rfl
theorem z_chain : (Tryd.prog.info? 65).map (fun i => i.zero) = some (some (.agg #[.int .u32 0, .int .u32 0, .int .u32 0, .int .u32 0, .int .u32 0, .int .u32 0, .int .u32 0, .int .u32 0])) := by kernel_rfl
theorem z_arr8 : (Tryd.prog.info? 63).map (fun i => i.zero) = some (some (.agg #[.int .u32 0, .int .u32 0, .int .u32 0, .int .u32 0, .int .u32 0, .int .u32 0, .int .u32 0, .int .u32 0])) := by kernel_rfl
section
variable {ρ : Operand → Value} {dst : Option Tmp} {type : TypeId} {pos : String} {after : Array Edge} {guard : Option (Nat × Bool)}
/-- An array of eight words is made. -/
theorem ld_bld8 {t e : TypeId} (hu : Tryd.prog.underlying t = some (.array 8 e)) (he : (Tryd.prog.info? e).map (fun i => i.size) = some 1) (hz : (Tryd.prog.info? t).map (fun i => i.zero) = some (some (.agg #[.int .u32 0, .int .u32 0, .int .u32 0, .int .u32 0, .int .u32 0, .int .u32 0, .int .u32 0, .int .u32 0])))
    (v : Nat → UInt32) (A : Facts) {x0 x1 x2 x3 x4 x5 x6 x7 : Operand} (h0 : ρ x0 = w32 (v 0) := by rfl) (h1 : ρ x1 = w32 (v 1) := by rfl) (h2 : ρ x2 = w32 (v 2) := by rfl) (h3 : ρ x3 = w32 (v 3) := by rfl) (h4 : ρ x4 = w32 (v 4) := by rfl) (h5 : ρ x5 = w32 (v 5) := by rfl) (h6 : ρ x6 = w32 (v 6) := by rfl) (h7 : ρ x7 = w32 (v 7) := by rfl) :
    ∀ w, Sx.Holds w A → (execOp ρ ⟨dst, .build t #[(0, x0), (1, x1), (2, x2), (3, x3), (4, x4), (5, x5), (6, x6), (7, x7)], type, pos, after, guard⟩).run Tryd.prog w = .ok (.value (.agg (ws v 8).toArray)) w := by
  intro w _
  obtain ⟨i, hi, hs⟩ : ∃ i, Tryd.prog.info? e = some i ∧ i.size = 1 := by
    cases h : Tryd.prog.info? e with
    | none => rw [h] at he; cases he
    | some i => rw [h] at he; simp at he; exact ⟨i, rfl, he⟩
  obtain ⟨j, hj, hjz⟩ : ∃ j, Tryd.prog.info? t = some j ∧ j.zero = some (.agg #[.int .u32 0, .int .u32 0, .int .u32 0, .int .u32 0, .int .u32 0, .int .u32 0, .int .u32 0, .int .u32 0]) := by
    cases h : Tryd.prog.info? t with
    | none => rw [h] at hz; cases hz
    | some i => rw [h] at hz; simp only [Option.map_some, Option.some.injEq] at hz; exact ⟨i, rfl, hz⟩
  have hzero : (zeroValue t).run Tryd.prog w = .ok (.agg #[.int .u32 0, .int .u32 0, .int .u32 0, .int .u32 0, .int .u32 0, .int .u32 0, .int .u32 0, .int .u32 0]) w := by simp [zeroValue, typeInfo, hj, hjz]
  have hf : Instr.fill (fun i => some (i * 1, 1)) (Value.agg #[.int .u32 0, .int .u32 0, .int .u32 0, .int .u32 0, .int .u32 0, .int .u32 0, .int .u32 0, .int .u32 0]).cells [(0, w32 (v 0)), (1, w32 (v 1)), (2, w32 (v 2)), (3, w32 (v 3)), (4, w32 (v 4)), (5, w32 (v 5)), (6, w32 (v 6)), (7, w32 (v 7))] = some (ws v 8).toArray := by kernel_rfl
  have hb : (Instr.build t #[(0, w32 (v 0)), (1, w32 (v 1)), (2, w32 (v 2)), (3, w32 (v 3)), (4, w32 (v 4)), (5, w32 (v 5)), (6, w32 (v 6)), (7, w32 (v 7))]).run Tryd.prog w = .ok (.agg (ws v 8).toArray) w := by
    simp only [Instr.build, Sem.run_bind, hzero, Result.andThen_ok, run_underlying hu, run_size hi, hs]
    rw [hf]
    rfl
  have e2 : execOp ρ ⟨dst, .build t #[(0, x0), (1, x1), (2, x2), (3, x3), (4, x4), (5, x5), (6, x6), (7, x7)], type, pos, after, guard⟩ = (do let v ← Instr.build t #[(0, ρ x0), (1, ρ x1), (2, ρ x2), (3, ρ x3), (4, ρ x4), (5, ρ x5), (6, ρ x6), (7, ρ x7)]; pure (.value v)) := by simp [execOp]
  rw [e2, h0, h1, h2, h3, h4, h5, h6, h7, Sem.run_bind, hb]
  rfl
end
theorem be32_drop (l : List UInt8) (k : Nat) (i : Nat) (n : Nat) (h : 4 * k + i + 3 < n) : be32 ((l.drop (4 * k)).take (n - 4 * k)) i = be32 l (4 * k + i) := by
  have e : ∀ j, j < n - 4 * k → ((l.drop (4 * k)).take (n - 4 * k)).getD j 0 = l.getD (4 * k + j) 0 := fun j hj => by
    simp only [List.getD, List.getElem?_take, List.getElem?_drop]
    rw [if_pos hj]
  unfold be32
  rw [e i (by omega), e (i + 1) (by omega), e (i + 2) (by omega), e (i + 3) (by omega)]
  rfl
theorem sch_lo (l : List UInt8) {i n : Nat} (h : i < 16) (hn : n = 64) : setRange (ws (sch l i) 64) (0 + (i : Int).toNat * 1) [w32 (be32 ((l.drop (4 * i)).take (n - 4 * i)) 0)] = ws (sch l (i + 1)) 64 := by
  rw [ws_set _ _ rfl (by omega), be32_drop l i 0 n (by omega)]
  show _ = ws (upd (sch l i) i (wst l (sch l i) i)) 64
  unfold wst
  rw [if_pos h]
  rfl
theorem sch_16 {l : List UInt8} {i : Nat} (h : 16 ≤ i) (h2 : i ≤ 16) : ws (sch l i) 64 = ws (sch l 16) 64 := by
  obtain rfl : i = 16 := by omega
  rfl
theorem sch_hi (l : List UInt8) {i : Nat} (h : 16 ≤ i) (h2 : i < 64) : setRange (ws (sch l i) 64) (0 + (i : Int).toNat * 1) [w32 (((sS1 (sch l i (i - 2)) + sch l i (i - 7)) + sS0 (sch l i (i - 15))) + sch l i (i - 16))] = ws (sch l (i + 1)) 64 := by
  rw [ws_set _ _ rfl h2]
  show _ = ws (upd (sch l i) i (wst l (sch l i) i)) 64
  unfold wst
  rw [if_neg (by omega)]
theorem ld_ws64 {t : TypeId} {L : Facts} (f : Nat → UInt32) : ldOwn Tryd.prog 74 ⟨t, ws f 64, L⟩ 0 = some (.agg (ws f 64).toArray) := by
  obtain ⟨inf, hinf, hs⟩ : ∃ i, Tryd.prog.info? 74 = some i ∧ i.size = 64 := by
    have h1 : (Tryd.prog.info? 74).map (fun i => i.size) = some 64 := by kernel_rfl
    cases h : Tryd.prog.info? 74 with
    | none => rw [h] at h1; cases h1
    | some i => rw [h] at h1; simp at h1; exact ⟨i, rfl, h1⟩
  unfold ldOwn
  simp only [Tryd.underlying74, hinf, hs]
  rfl
theorem ix_ws {t : TypeId} {L : Facts} (f : Nat → UInt32) {i : Nat} (hi : i < 64) : ldOwn Tryd.prog 62 ⟨t, (ws f 64).toArray.toList, L⟩ ((i : Int).toNat * (elSize Tryd.prog 62)) = some (w32 (f i)) := by
  have h1 : elSize Tryd.prog 62 = 1 := by kernel_rfl
  rw [h1]
  show ((ws f 64).drop _).head? = _
  have := cl_at (fun i => w32 (f i)) (n := 64) (j := i) (z := (i : Int)) rfl hi
  rwa [Nat.zero_add] at this
theorem ex_fin (l : List UInt8) {i : Nat} (h : 64 ≤ i) (h2 : i ≤ 64) : Value.agg (ws (sch l i) 64).toArray = .agg (ws (sch l 64) 64).toArray := by
  obtain rfl : i = 64 := by omega
  rfl
theorem abk_fin (c w : Nat → UInt32) {i : Nat} (h : 64 ≤ i) (h2 : i ≤ 64) : Value.agg (ws (fun j => c j + rds c w i j) 8).toArray = .agg (ws (fun j => c j + rds c w 64 j) 8).toArray := by
  obtain rfl : i = 64 := by omega
  rfl

theorem good_bits_RotateLeft32 : Good Tryd.prog 57 Tryd.f57 2 := ⟨Tryd.func57, by kernel_rfl, by kernel_rfl⟩
theorem good_hash_rotated : Good Tryd.prog 56 Tryd.f56 2 := ⟨Tryd.func56, by kernel_rfl, by kernel_rfl⟩
theorem good_pontageref7_right : Good Tryd.prog 46 Tryd.f46 2 := ⟨Tryd.func46, by kernel_rfl, by kernel_rfl⟩
theorem good_hash_choose : Good Tryd.prog 50 Tryd.f50 3 := ⟨Tryd.func50, by kernel_rfl, by kernel_rfl⟩
theorem good_hash_majority : Good Tryd.prog 52 Tryd.f52 3 := ⟨Tryd.func52, by kernel_rfl, by kernel_rfl⟩
theorem good_hash_bigSigma0 : Good Tryd.prog 51 Tryd.f51 1 := ⟨Tryd.func51, by kernel_rfl, by kernel_rfl⟩
theorem good_hash_bigSigma1 : Good Tryd.prog 49 Tryd.f49 1 := ⟨Tryd.func49, by kernel_rfl, by kernel_rfl⟩
theorem good_hash_smallSigma0 : Good Tryd.prog 55 Tryd.f55 1 := ⟨Tryd.func55, by kernel_rfl, by kernel_rfl⟩
theorem good_hash_smallSigma1 : Good Tryd.prog 54 Tryd.f54 1 := ⟨Tryd.func54, by kernel_rfl, by kernel_rfl⟩
theorem good_hash_bigEndianWord : Good Tryd.prog 53 Tryd.f53 1 := ⟨Tryd.func53, by kernel_rfl, by kernel_rfl⟩
theorem good_hash_expand : Good Tryd.prog 48 Tryd.f48 1 := ⟨Tryd.func48, by kernel_rfl, by kernel_rfl⟩
theorem good_hash_absorbBlock : Good Tryd.prog 47 Tryd.f47 2 := ⟨Tryd.func47, by kernel_rfl, by kernel_rfl⟩
theorem good_hash_absorb : Good Tryd.prog 38 Tryd.f38 2 := ⟨Tryd.func38, by kernel_rfl, by kernel_rfl⟩
theorem good_hash_padded : Good Tryd.prog 40 Tryd.f40 2 := ⟨Tryd.func40, by kernel_rfl, by kernel_rfl⟩
theorem good_hash_digest : Good Tryd.prog 41 Tryd.f41 1 := ⟨Tryd.func41, by kernel_rfl, by kernel_rfl⟩
theorem good_hash_initialChain : Good Tryd.prog 39 Tryd.f39 0 := ⟨Tryd.func39, by kernel_rfl, by kernel_rfl⟩
theorem good_hash_Sum : Good Tryd.prog 30 Tryd.f30 1 := ⟨Tryd.func30, by kernel_rfl, by kernel_rfl⟩
theorem good_hash_Node : Good Tryd.prog 24 Tryd.f24 2 := ⟨Tryd.func24, by kernel_rfl, by kernel_rfl⟩
theorem good_pontageref7_words : Good Tryd.prog 45 Tryd.f45 0 := ⟨Tryd.func45, by kernel_rfl, by kernel_rfl⟩
theorem good_pontageref7_block : Good Tryd.prog 37 Tryd.f37 2 := ⟨Tryd.func37, by kernel_rfl, by kernel_rfl⟩
theorem good_pontageref7_Sum : Good Tryd.prog 27 Tryd.f27 1 := ⟨Tryd.func27, by kernel_rfl, by kernel_rfl⟩
theorem good_pontageref7_Node : Good Tryd.prog 29 Tryd.f29 2 := ⟨Tryd.func29, by kernel_rfl, by kernel_rfl⟩
theorem c_rotl (x : UInt32) (n : Nat) (h0 : 0 < n) (h1 : n < 32) : Det Tryd.prog 57 [w32 x, .int .i64 (IntKind.i64.wrap (0 - (n : Int)))] (w32 (rotr x n)) :=
  det_of_vc Tryd.mixed good_bits_RotateLeft32 (O := [.opt 1 [(2, .ld (.int .u64 ((32 - n : Nat) : Int)))], .opt 2 [(5, .ld (.int .u64 (n : Int))), (7, .ld (w32 ((x <<< UInt32.ofNat (32 - n)) ||| (x >>> UInt32.ofNat n))))]]) fun _ => ⟨ld_rot h0 h1 _, ⟨Int.natCast_nonneg _, ⟨ld_sub64 (rot_back h0 h1) _, ⟨Int.natCast_nonneg _, ⟨ld_or32 (shl32 x (32 - n) (by omega)) (shr32 x n h1) _, ⟨(), congrArg w32 (rotr_comm x n), nofun⟩⟩⟩⟩⟩⟩
theorem c_rotd (x : UInt32) (n : Nat) (h0 : 0 < n) (h1 : n < 32) : Det Tryd.prog 56 [w32 x, .int .i64 (n : Int)] (w32 (rotr x n)) :=
  det_of_vc Tryd.mixed good_hash_rotated (O := [.reg [(3, det (w32 (rotr x n)))]]) fun _ => ⟨c_rotl x n h0 h1 _, fun _ => ⟨(), rfl, nofun⟩⟩
theorem t_rot (x : UInt32) (n : Nat) (h0 : 0 < n) (h1 : n < 32) : Det Tryd.prog 46 [w32 x, .int .u64 (n : Int)] (w32 (rotr x n)) :=
  det_of_vc Tryd.mixed good_pontageref7_right (O := [.opt 1 [(5, .ld (.int .u64 ((32 - n : Nat) : Int))), (7, .ld (w32 ((x >>> UInt32.ofNat n) ||| (x <<< UInt32.ofNat (32 - n)))))]]) fun _ => ⟨Int.natCast_nonneg _, ⟨ld_sub64 (rot_sub h1) _, ⟨Int.natCast_nonneg _, ⟨ld_or32 (shr32 x n h1) (shl32 x (32 - n) (by omega)) _, ⟨(), rfl, nofun⟩⟩⟩⟩⟩
theorem c_ch (x y z : UInt32) : Det Tryd.prog 50 [w32 x, w32 y, w32 z] (w32 (chF x y z)) :=
  det_of_vc Tryd.mixed good_hash_choose (O := [.opt 1 [(2, .ld (w32 (x &&& y))), (4, .ld (w32 (~~~x))), (6, .ld (w32 ((~~~x) &&& z))), (7, .ld (w32 ((x &&& y) ^^^ ((~~~x) &&& z))))]]) fun _ => ⟨ld_and32 rfl rfl _, ⟨ld_not32 rfl _, ⟨ld_and32 rfl rfl _, ⟨ld_xor32 rfl rfl _, ⟨(), rfl, nofun⟩⟩⟩⟩⟩
theorem c_maj (x y z : UInt32) : Det Tryd.prog 52 [w32 x, w32 y, w32 z] (w32 (majF x y z)) :=
  det_of_vc Tryd.mixed good_hash_majority (O := [.opt 1 [(2, .ld (w32 (x &&& y))), (5, .ld (w32 (x &&& z))), (6, .ld (w32 ((x &&& y) ^^^ (x &&& z)))), (9, .ld (w32 (y &&& z))), (10, .ld (w32 (((x &&& y) ^^^ (x &&& z)) ^^^ (y &&& z))))]]) fun _ => ⟨ld_and32 rfl rfl _, ⟨ld_and32 rfl rfl _, ⟨ld_xor32 rfl rfl _, ⟨ld_and32 rfl rfl _, ⟨ld_xor32 rfl rfl _, ⟨(), rfl, nofun⟩⟩⟩⟩⟩⟩
theorem c_S0 (x : UInt32) : Det Tryd.prog 51 [w32 x] (w32 (bS0 x)) :=
  det_of_vc Tryd.mixed good_hash_bigSigma0 (O := [.reg [(1, det (w32 (rotr x 2))), (3, det (w32 (rotr x 13))), (4, .ld (w32 ((rotr x 2) ^^^ (rotr x 13)))), (6, det (w32 (rotr x 22))), (7, .ld (w32 (((rotr x 2) ^^^ (rotr x 13)) ^^^ (rotr x 22))))]]) fun _ => ⟨c_rotd x 2 (by decide) (by decide) _, fun _ => ⟨c_rotd x 13 (by decide) (by decide) _, fun _ => ⟨ld_xor32 rfl rfl _, ⟨c_rotd x 22 (by decide) (by decide) _, fun _ => ⟨ld_xor32 rfl rfl _, ⟨(), rfl, nofun⟩⟩⟩⟩⟩⟩
theorem c_S1 (x : UInt32) : Det Tryd.prog 49 [w32 x] (w32 (bS1 x)) :=
  det_of_vc Tryd.mixed good_hash_bigSigma1 (O := [.reg [(1, det (w32 (rotr x 6))), (3, det (w32 (rotr x 11))), (4, .ld (w32 ((rotr x 6) ^^^ (rotr x 11)))), (6, det (w32 (rotr x 25))), (7, .ld (w32 (((rotr x 6) ^^^ (rotr x 11)) ^^^ (rotr x 25))))]]) fun _ => ⟨c_rotd x 6 (by decide) (by decide) _, fun _ => ⟨c_rotd x 11 (by decide) (by decide) _, fun _ => ⟨ld_xor32 rfl rfl _, ⟨c_rotd x 25 (by decide) (by decide) _, fun _ => ⟨ld_xor32 rfl rfl _, ⟨(), rfl, nofun⟩⟩⟩⟩⟩⟩
theorem c_s0 (x : UInt32) : Det Tryd.prog 55 [w32 x] (w32 (sS0 x)) :=
  det_of_vc Tryd.mixed good_hash_smallSigma0 (O := [.reg [(1, det (w32 (rotr x 7))), (3, det (w32 (rotr x 18))), (4, .ld (w32 ((rotr x 7) ^^^ (rotr x 18)))), (7, .ld (w32 (((rotr x 7) ^^^ (rotr x 18)) ^^^ (x >>> UInt32.ofNat 3))))]]) fun _ => ⟨c_rotd x 7 (by decide) (by decide) _, fun _ => ⟨c_rotd x 18 (by decide) (by decide) _, fun _ => ⟨ld_xor32 rfl rfl _, ⟨by decide, ⟨ld_xor32 rfl (shr32 x 3 (by decide)) _, ⟨(), rfl, nofun⟩⟩⟩⟩⟩⟩
theorem c_s1 (x : UInt32) : Det Tryd.prog 54 [w32 x] (w32 (sS1 x)) :=
  det_of_vc Tryd.mixed good_hash_smallSigma1 (O := [.reg [(1, det (w32 (rotr x 17))), (3, det (w32 (rotr x 19))), (4, .ld (w32 ((rotr x 17) ^^^ (rotr x 19)))), (7, .ld (w32 (((rotr x 17) ^^^ (rotr x 19)) ^^^ (x >>> UInt32.ofNat 10))))]]) fun _ => ⟨c_rotd x 17 (by decide) (by decide) _, fun _ => ⟨c_rotd x 19 (by decide) (by decide) _, fun _ => ⟨ld_xor32 rfl rfl _, ⟨by decide, ⟨ld_xor32 rfl (shr32 x 10 (by decide)) _, ⟨(), rfl, nofun⟩⟩⟩⟩⟩⟩
theorem c_be32 (y : Byt) (hn : 4 ≤ y.n) (A : Facts) (hy : Sub y.L A) : Gives Tryd.prog 53 [y.v] A (Unit) (fun _ => w32 (be32 y.l 0)) (fun _ => []) :=
  gives_of_vcF Tryd.mixed good_hash_bigEndianWord (args := [(y.v, y.L)]) (B := []) (O := [.opt 1 [(2, .ld (v8 (y.l.getD 0 0))), (3, .ld (w32 (y.l.getD 0 0).toUInt32)), (7, .ld (v8 (y.l.getD 1 0))), (8, .ld (w32 (y.l.getD 1 0).toUInt32)), (10, .ld (w32 (((y.l.getD 0 0).toUInt32 <<< UInt32.ofNat 24) ||| ((y.l.getD 1 0).toUInt32 <<< UInt32.ofNat 16)))), (13, .ld (v8 (y.l.getD 2 0))), (14, .ld (w32 (y.l.getD 2 0).toUInt32)), (16, .ld (w32 ((((y.l.getD 0 0).toUInt32 <<< UInt32.ofNat 24) ||| ((y.l.getD 1 0).toUInt32 <<< UInt32.ofNat 16)) ||| ((y.l.getD 2 0).toUInt32 <<< UInt32.ofNat 8)))), (19, .ld (v8 (y.l.getD 3 0))), (20, .ld (w32 (y.l.getD 3 0).toUInt32)), (21, .ld (w32 (((((y.l.getD 0 0).toUInt32 <<< UInt32.ofNat 24) ||| ((y.l.getD 1 0).toUInt32 <<< UInt32.ofNat 16)) ||| ((y.l.getD 2 0).toUInt32 <<< UInt32.ofNat 8)) ||| (y.l.getD 3 0).toUInt32)))]]) (.app (.nil _) (.app (hy) (.nil _))) (⟨y.idx (by decide) (show (0 : Int) < (y.n : Int) by omega), ⟨y.load 0 rfl (by omega) (by intro q h; simp [h]), ⟨ld_u8_32 _ _, ⟨by decide, ⟨y.idx (by decide) (show (1 : Int) < (y.n : Int) by omega), ⟨y.load 1 rfl (by omega) (by intro q h; simp [h]), ⟨ld_u8_32 _ _, ⟨by decide, ⟨ld_or32 (shl32 (y.l.getD 0 0).toUInt32 24 (by decide)) (shl32 (y.l.getD 1 0).toUInt32 16 (by decide)) _, ⟨y.idx (by decide) (show (2 : Int) < (y.n : Int) by omega), ⟨y.load 2 rfl (by omega) (by intro q h; simp [h]), ⟨ld_u8_32 _ _, ⟨by decide, ⟨ld_or32 rfl (shl32 (y.l.getD 2 0).toUInt32 8 (by decide)) _, ⟨y.idx (by decide) (show (3 : Int) < (y.n : Int) by omega), ⟨y.load 3 rfl (by omega) (by intro q h; simp [h]), ⟨ld_u8_32 _ _, ⟨ld_or32 rfl rfl _, ⟨(), rfl, nofun⟩⟩⟩⟩⟩⟩⟩⟩⟩⟩⟩⟩⟩⟩⟩⟩⟩⟩⟩)
theorem c_exp (y : Byt) (hn : y.n = 64) (A : Facts) (hy : Sub y.L A) : Gives Tryd.prog 48 [y.v] A (Unit) (fun _ => .agg (ws (sch y.l 64) 64).toArray) (fun _ => []) :=
  gives_of_vcF Tryd.mixed good_hash_expand (args := [(y.v, y.L)]) (B := []) (O := [.inv (Upto 16) (fun x : Upto 16 => ⟨45, [(0, .v y.v y.L), (2, .p 0 0), (3, .p 1 0), (6, .v (.int .i64 (x.1 : Int)) [])], [(0, ⟨74, ws (fun _ => 0) 64, []⟩), (1, ⟨74, ws (sch y.l x.1) 64, []⟩)], 10⟩) (fun x => 16 - x.1) (fun x => [.both [.reg [(3, .ld (.int .i64 ((4 * x.1 : Nat) : Int))), (5, det (w32 (be32 ((y.l.drop (4 * x.1)).take (y.n - 4 * x.1)) 0))), (7, .mk 0)]] [.inv (Mid) (fun x : Mid => ⟨45, [(2, .p 0 0), (3, .p 1 0), (5, .v (.int .i64 (x.1 : Int)) [])], [(0, ⟨74, ws (fun _ => 0) 64, []⟩), (1, ⟨74, ws (sch y.l x.1) 64, []⟩)], 40⟩) (fun z => 64 - z.1) (fun z => [.both [.reg [(2, .ld (.int .i64 ((z.1 - 2 : Nat) : Int))), (4, .ld (w32 (sch y.l z.1 (z.1 - 2)))), (5, det (w32 (sS1 (sch y.l z.1 (z.1 - 2))))), (7, .ld (.int .i64 ((z.1 - 7 : Nat) : Int))), (9, .ld (w32 (sch y.l z.1 (z.1 - 7)))), (10, .ld (w32 ((sS1 (sch y.l z.1 (z.1 - 2))) + (sch y.l z.1 (z.1 - 7))))), (12, .ld (.int .i64 ((z.1 - 15 : Nat) : Int))), (14, .ld (w32 (sch y.l z.1 (z.1 - 15)))), (15, det (w32 (sS0 (sch y.l z.1 (z.1 - 15))))), (16, .ld (w32 (((sS1 (sch y.l z.1 (z.1 - 2))) + (sch y.l z.1 (z.1 - 7))) + (sS0 (sch y.l z.1 (z.1 - 15)))))), (18, .ld (.int .i64 ((z.1 - 16 : Nat) : Int))), (20, .ld (w32 (sch y.l z.1 (z.1 - 16)))), (21, .ld (w32 ((((sS1 (sch y.l z.1 (z.1 - 2))) + (sch y.l z.1 (z.1 - 7))) + (sS0 (sch y.l z.1 (z.1 - 15)))) + (sch y.l z.1 (z.1 - 16))))), (23, .mk 0)]] [.opt 11 [(0, .ld (.agg (ws (sch y.l z.1) 64).toArray))]]])]])]) (.app (.nil _) (.app (hy) (.nil _))) (⟨⟨⟨0, Nat.zero_le _⟩, rfl, ⟨⟨rfl, fun _ h => h⟩, ⟨rfl, rfl, rfl⟩, ⟨rfl, rfl, rfl⟩, ⟨rfl, nofun⟩, trivial⟩, ⟨rfl, rfl, nofun⟩, ⟨rfl, rfl, nofun⟩, trivial⟩, fun x => ⟨fun h => ⟨ld_mul (mul4i (by have := (lt_t (n := 16) h); omega)) _, ⟨y.cutk (by have := (lt_t (n := 16) h); omega), ⟨c_be32 (y.sub (4 * x.1) y.n (by have := (lt_t (n := 16) h); omega) (Nat.le_refl _)) (by show 4 ≤ y.n - 4 * x.1; have := (lt_t (n := 16) h); omega) _ (by intro q h; have h : q ∈ y.L := h; simp [h]), fun _ => ⟨⟨Int.natCast_nonneg _, by have := (lt_t (n := 16) h); omega⟩, ⟨cl_in (fun i => w32 (sch y.l x.1 i)) (n := 64) (j := x.1) rfl (by have := (lt_t (n := 16) h); omega), ⟨⟨x.1 + 1, (lt_t (n := 16) h)⟩, (by have := (lt_t (n := 16) h); show 16 - (x.1 + 1) < 16 - x.1; omega), rfl, ⟨⟨rfl, fun _ h => h⟩, ⟨rfl, rfl, rfl⟩, ⟨rfl, rfl, rfl⟩, ⟨congrArg _ (add1 (by have := (lt_t (n := 16) h); omega)), nofun⟩, trivial⟩, ⟨rfl, rfl, nofun⟩, ⟨rfl, sch_lo y.l (lt_t (n := 16) h) hn, nofun⟩, trivial⟩⟩⟩⟩⟩⟩, fun h => ⟨⟨⟨16, by decide⟩, rfl, ⟨⟨rfl, rfl, rfl⟩, ⟨rfl, rfl, rfl⟩, ⟨rfl, nofun⟩, trivial⟩, ⟨rfl, rfl, nofun⟩, ⟨rfl, sch_16 (lt_f (n := 16) h) x.2, nofun⟩, trivial⟩, fun z => ⟨fun h2 => ⟨ld_sub (subk 2 (by have := z.2; omega) (by have := z.2; omega)) _, ⟨⟨Int.natCast_nonneg _, by have := (lt_t (n := 64) h2); omega⟩, ⟨cl_at (fun i => w32 (sch y.l z.1 i)) (n := 64) (j := z.1 - 2) rfl (by have := (lt_t (n := 64) h2); omega), ⟨c_s1 _ _, fun _ => ⟨ld_sub (subk 7 (by have := z.2; omega) (by have := z.2; omega)) _, ⟨⟨Int.natCast_nonneg _, by have := (lt_t (n := 64) h2); omega⟩, ⟨cl_at (fun i => w32 (sch y.l z.1 i)) (n := 64) (j := z.1 - 7) rfl (by have := (lt_t (n := 64) h2); omega), ⟨ld_add32 rfl rfl _, ⟨ld_sub (subk 15 (by have := z.2; omega) (by have := z.2; omega)) _, ⟨⟨Int.natCast_nonneg _, by have := (lt_t (n := 64) h2); omega⟩, ⟨cl_at (fun i => w32 (sch y.l z.1 i)) (n := 64) (j := z.1 - 15) rfl (by have := (lt_t (n := 64) h2); omega), ⟨c_s0 _ _, fun _ => ⟨ld_add32 rfl rfl _, ⟨ld_sub (subk 16 (by have := z.2; omega) (by have := z.2; omega)) _, ⟨⟨Int.natCast_nonneg _, by have := (lt_t (n := 64) h2); omega⟩, ⟨cl_at (fun i => w32 (sch y.l z.1 i)) (n := 64) (j := z.1 - 16) rfl (by have := (lt_t (n := 64) h2); omega), ⟨ld_add32 rfl rfl _, ⟨⟨Int.natCast_nonneg _, by have := (lt_t (n := 64) h2); omega⟩, ⟨cl_in (fun i => w32 (sch y.l z.1 i)) (n := 64) (j := z.1) rfl (lt_t (n := 64) h2), ⟨⟨z.1 + 1, mid_next z.2 (lt_t (n := 64) h2)⟩, (by have := (lt_t (n := 64) h2); show 64 - (z.1 + 1) < 64 - z.1; omega), rfl, ⟨⟨rfl, rfl, rfl⟩, ⟨rfl, rfl, rfl⟩, ⟨congrArg _ (add1 (by have := (lt_t (n := 64) h2); omega)), nofun⟩, trivial⟩, ⟨rfl, rfl, nofun⟩, ⟨rfl, sch_hi y.l z.2.1 (lt_t (n := 64) h2), nofun⟩, trivial⟩⟩⟩⟩⟩⟩⟩⟩⟩⟩⟩⟩⟩⟩⟩⟩⟩⟩⟩⟩, fun h2 => ⟨ld_ws64 (sch y.l z.1), ⟨(), ex_fin y.l (lt_f (n := 64) h2) z.2.2, nofun⟩⟩⟩⟩⟩⟩)
theorem c_abk (c w : Nat → UInt32) (A : Facts) (hA : EnvF RC A) : Gives Tryd.prog 47 [.agg (ws c 8).toArray, .agg (ws w 64).toArray] A (Unit) (fun _ => .agg (ws (fun j => c j + rds c w 64 j) 8).toArray) (fun _ => []) :=
  gives_of_vcF Tryd.mixed good_hash_absorbBlock (args := [(.agg (ws c 8).toArray, []), (.agg (ws w 64).toArray, [])]) (B := A) (O := [.opt 3 [(0, .ld (.agg (ws w 64).toArray))], .inv (Upto 64) (fun x : Upto 64 => ⟨106, [(2, .p 0 0), (4, .p 2 0), (5, .v (w32 (rds c w x.1 0)) []), (6, .v (w32 (rds c w x.1 1)) []), (7, .v (w32 (rds c w x.1 2)) []), (8, .v (w32 (rds c w x.1 3)) []), (9, .v (w32 (rds c w x.1 4)) []), (10, .v (w32 (rds c w x.1 5)) []), (11, .v (w32 (rds c w x.1 6)) []), (12, .v (w32 (rds c w x.1 7)) []), (33, .v (.agg (ws w 64).toArray) []), (34, .v (.int .i64 (x.1 : Int)) [])], [(0, ⟨65, ws c 8, []⟩), (2, ⟨65, ws (fun _ => 0) 8, []⟩)], 90⟩) (fun x => 64 - x.1) (fun x => [.both [.opt 5 [(1, .ld (w32 (w x.1)))], .reg [(2, det (w32 (bS1 (rds c w x.1 4)))), (3, .ld (w32 ((rds c w x.1 7) + (bS1 (rds c w x.1 4))))), (7, det (w32 (chF (rds c w x.1 4) (rds c w x.1 5) (rds c w x.1 6)))), (8, .ld (w32 (((rds c w x.1 7) + (bS1 (rds c w x.1 4))) + (chF (rds c w x.1 4) (rds c w x.1 5) (rds c w x.1 6))))), (10, .ld (.pointer (some ⟨0, x.1, none⟩))), (11, .ld (w32 (rcK x.1))), (12, .ld (w32 ((((rds c w x.1 7) + (bS1 (rds c w x.1 4))) + (chF (rds c w x.1 4) (rds c w x.1 5) (rds c w x.1 6))) + (rcK x.1)))), (14, .ld (w32 (((((rds c w x.1 7) + (bS1 (rds c w x.1 4))) + (chF (rds c w x.1 4) (rds c w x.1 5) (rds c w x.1 6))) + (rcK x.1)) + (w x.1))))], .reg [(1, det (w32 (bS0 (rds c w x.1 0)))), (5, det (w32 (majF (rds c w x.1 0) (rds c w x.1 1) (rds c w x.1 2)))), (6, .ld (w32 ((bS0 (rds c w x.1 0)) + (majF (rds c w x.1 0) (rds c w x.1 1) (rds c w x.1 2)))))], .opt 8 [(2, .ld (w32 ((((((rds c w x.1 7) + (bS1 (rds c w x.1 4))) + (chF (rds c w x.1 4) (rds c w x.1 5) (rds c w x.1 6))) + (rcK x.1)) + (w x.1)) + ((bS0 (rds c w x.1 0)) + (majF (rds c w x.1 0) (rds c w x.1 1) (rds c w x.1 2)))))), (8, .ld (w32 ((rds c w x.1 3) + (((((rds c w x.1 7) + (bS1 (rds c w x.1 4))) + (chF (rds c w x.1 4) (rds c w x.1 5) (rds c w x.1 6))) + (rcK x.1)) + (w x.1)))))]] [.opt 10 [(3, .ld (w32 ((c 0) + (rds c w x.1 0)))), (7, .ld (w32 ((c 1) + (rds c w x.1 1)))), (11, .ld (w32 ((c 2) + (rds c w x.1 2)))), (15, .ld (w32 ((c 3) + (rds c w x.1 3)))), (19, .ld (w32 ((c 4) + (rds c w x.1 4)))), (23, .ld (w32 ((c 5) + (rds c w x.1 5)))), (27, .ld (w32 ((c 6) + (rds c w x.1 6)))), (31, .ld (w32 ((c 7) + (rds c w x.1 7)))), (32, .ld (.agg (ws (fun j => c j + rds c w x.1 j) 8).toArray))]]])]) (.app ((.refl _)) (.app (.nil _) (.app (.nil _) (.nil _)))) (⟨by decide, ⟨by decide, ⟨by decide, ⟨by decide, ⟨by decide, ⟨by decide, ⟨by decide, ⟨by decide, ⟨ld_ws64 _, ⟨⟨⟨0, Nat.zero_le _⟩, rfl, ⟨⟨rfl, rfl, rfl⟩, ⟨rfl, rfl, rfl⟩, ⟨rfl, nofun⟩, ⟨rfl, nofun⟩, ⟨rfl, nofun⟩, ⟨rfl, nofun⟩, ⟨rfl, nofun⟩, ⟨rfl, nofun⟩, ⟨rfl, nofun⟩, ⟨rfl, nofun⟩, ⟨rfl, nofun⟩, ⟨rfl, nofun⟩, trivial⟩, ⟨rfl, rfl, nofun⟩, ⟨rfl, rfl, nofun⟩, trivial⟩, fun x => ⟨fun h => ⟨⟨Int.natCast_nonneg _, Int.ofNat_lt.2 (lt_t (n := 64) h)⟩, ix_ws w (lt_t (n := 64) h), ⟨c_S1 _ _, fun _ => ⟨ld_add32 rfl rfl _, ⟨c_ch _ _ _ _, fun _ => ⟨ld_add32 rfl rfl _, ⟨rc_addr x.1 (lt_t (n := 64) h) _, ⟨rc_load (hA.app _) x.1 (lt_t (n := 64) h), ⟨ld_add32 rfl rfl _, ⟨ld_add32 rfl rfl _, ⟨c_S0 _ _, fun _ => ⟨c_maj _ _ _ _, fun _ => ⟨ld_add32 rfl rfl _, ⟨ld_add32 rfl rfl _, ⟨ld_add32 rfl rfl _, ⟨⟨x.1 + 1, (lt_t (n := 64) h)⟩, (by have := (lt_t (n := 64) h); show 64 - (x.1 + 1) < 64 - x.1; omega), rfl, ⟨⟨rfl, rfl, rfl⟩, ⟨rfl, rfl, rfl⟩, ⟨rfl, nofun⟩, ⟨rfl, nofun⟩, ⟨rfl, nofun⟩, ⟨rfl, nofun⟩, ⟨rfl, nofun⟩, ⟨rfl, nofun⟩, ⟨rfl, nofun⟩, ⟨rfl, nofun⟩, ⟨rfl, nofun⟩, ⟨congrArg _ (add1 (by have := (lt_t (n := 64) h); omega)), nofun⟩, trivial⟩, ⟨rfl, rfl, nofun⟩, ⟨rfl, rfl, nofun⟩, trivial⟩⟩⟩⟩⟩⟩⟩⟩⟩⟩⟩⟩⟩⟩⟩, fun h => ⟨by decide, ⟨ld_add32 rfl rfl _, ⟨by decide, ⟨ld_add32 rfl rfl _, ⟨by decide, ⟨ld_add32 rfl rfl _, ⟨by decide, ⟨ld_add32 rfl rfl _, ⟨by decide, ⟨ld_add32 rfl rfl _, ⟨by decide, ⟨ld_add32 rfl rfl _, ⟨by decide, ⟨ld_add32 rfl rfl _, ⟨by decide, ⟨ld_add32 rfl rfl _, ⟨ld_bld8 u_chain i_word z_chain (fun j => c j + rds c w x.1 j) _, ⟨(), abk_fin c w (lt_f (n := 64) h) x.2, nofun⟩⟩⟩⟩⟩⟩⟩⟩⟩⟩⟩⟩⟩⟩⟩⟩⟩⟩⟩⟩⟩⟩⟩⟩⟩⟩⟩⟩⟩)
end Go.Proofs.YtgbfolkpgmjaeaaDoor

