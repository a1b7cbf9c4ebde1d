/- The reference of layer 7 over this translation: one block. No conditions. -/
import Derived.Test.YtgbfolkpgmjaeaaDoorH7s
namespace Go.Proofs.YtgbfolkpgmjaeaaDoor
open Go.RowKit Sx
set_option maxRecDepth 100000

/-- The text of the sixty-four constants. -/
def wordsPs : Array (Nat × Operand) := (rcTab.zipIdx.map fun q => (q.2, Operand.const (.int .u32 (q.1 : Int)))).toArray
section
variable {ρ : Operand → Value} {dst : Option Tmp} {type : TypeId} {pos : String} {after : Array Edge} {guard : Option (Nat × Bool)}
theorem ld_words (A : Facts) {ps : Array (Nat × Operand)} (hp : ps = wordsPs := by kernel_rfl) (hρ : ∀ v, ρ (.const v) = v := by intro _; rfl) :
    ∀ w, Sx.Holds w A → (execOp ρ ⟨dst, .build 74 ps, type, pos, after, guard⟩).run Tryd.prog w = .ok (.value (.agg (ws rcK 64).toArray)) w := by
  intro w _
  subst hp
  obtain ⟨i, hi, hs⟩ : ∃ i, Tryd.prog.info? 62 = some i ∧ i.size = 1 := by
    have he := i_word
    cases h : Tryd.prog.info? 62 with
    | none => rw [h] at he; cases he
    | some i => rw [h] at he; simp at he; exact ⟨i, rfl, he⟩
  obtain ⟨j, hj, hjz⟩ : ∃ j, Tryd.prog.info? 74 = some j ∧ j.zero = some (.agg (List.replicate 64 (Value.int .u32 0)).toArray) := by
    have hz : (Tryd.prog.info? 74).map (fun i => i.zero) = some (some (.agg (List.replicate 64 (Value.int .u32 0)).toArray)) := by kernel_rfl
    cases h : Tryd.prog.info? 74 with
    | none => rw [h] at hz; cases hz
    | some i => rw [h] at hz; simp only [Option.map_some, Option.some.injEq] at hz; exact ⟨i, rfl, hz⟩
  have hzero : (zeroValue 74).run Tryd.prog w = .ok (.agg (List.replicate 64 (Value.int .u32 0)).toArray) w := by simp [zeroValue, typeInfo, hj, hjz]
  have hm : (wordsPs.map fun (q : Nat × Operand) => (q.1, ρ q.2)).toList = rcTab.zipIdx.map fun q => (q.2, Value.int .u32 (q.1 : Int)) := by
    simp [wordsPs, hρ, Function.comp_def]
  have hf : Instr.fill (fun i => some (i * 1, 1)) (Value.agg (List.replicate 64 (Value.int .u32 0)).toArray).cells (rcTab.zipIdx.map fun q => (q.2, Value.int .u32 (q.1 : Int))) = some (ws rcK 64).toArray := by kernel_rfl
  have hb : (Instr.build 74 (wordsPs.map fun (q : Nat × Operand) => (q.1, ρ q.2))).run Tryd.prog w = .ok (.agg (ws rcK 64).toArray) w := by
    simp only [Instr.build, Sem.run_bind, hzero, Result.andThen_ok, run_underlying Tryd.underlying74, run_size hi, hs, hm]
    rw [hf]
    rfl
  have e2 : execOp ρ ⟨dst, .build 74 wordsPs, type, pos, after, guard⟩ = (do let v ← Instr.build 74 (wordsPs.map fun (q : Nat × Operand) => (q.1, ρ q.2)); pure (.value v)) := rfl
  rw [e2, Sem.run_bind, hb]
  rfl
end
theorem ld_a8 {t : TypeId} {L : Facts} (f : Nat → UInt32) : ldOwn Tryd.prog 63 ⟨t, ws f 8, L⟩ 0 = some (.agg (ws f 8).toArray) := by
  obtain ⟨inf, hinf, hs⟩ : ∃ i, Tryd.prog.info? 63 = some i ∧ i.size = 8 := by
    have h1 : (Tryd.prog.info? 63).map (fun i => i.size) = some 8 := by kernel_rfl
    cases h : Tryd.prog.info? 63 with
    | none => rw [h] at h1; cases h1
    | some i => rw [h] at h1; simp at h1; exact ⟨i, rfl, h1⟩
  unfold ldOwn
  simp only [Tryd.underlying63, hinf, hs]
  rfl
theorem set8 (f g : Nat → UInt32) : setRange (ws f 8) 0 (ws g 8) = ws g 8 := by
  have h1 := cl_length (fun i => w32 (f i)) 8 0
  have h2 := cl_length (fun i => w32 (g i)) 8 0
  unfold setRange
  rw [List.take_zero, List.nil_append, h2, List.drop_of_length_le (by rw [h1]; decide), List.append_nil]
theorem or_add32 (a b : UInt32) (x k : Nat) (h : a.toNat = x * 2 ^ k) (hb : b.toNat < 2 ^ k) : a + b = a ||| b := by
  apply UInt32.toNat_inj.1
  rw [UInt32.toNat_add, UInt32.toNat_or]
  have e : a.toNat + b.toNat = a.toNat ||| b.toNat := by
    rw [h, Nat.mul_comm]; exact Nat.two_pow_add_eq_or_of_lt hb x
  rw [e]
  exact Nat.mod_eq_of_lt (Nat.or_lt_two_pow (n := 32) a.toNat_lt b.toNat_lt)
theorem sh_nat (b : UInt8) (k : Nat) (hk : k ≤ 24) : (b.toUInt32 <<< UInt32.ofNat k).toNat = b.toNat * 2 ^ k := by
  have hb : b.toNat < 256 := b.toNat_lt
  rw [UInt32.toNat_shiftLeft, UInt32.toNat_ofNat', UInt8.toNat_toUInt32, Nat.shiftLeft_eq, show k % 2 ^ 32 % 32 = k by omega]
  have h2 : (2 : Nat) ^ k ≤ 2 ^ 24 := Nat.pow_le_pow_right (by decide) hk
  exact Nat.mod_eq_of_lt (by
    have : b.toNat * 2 ^ k ≤ 255 * 2 ^ 24 := Nat.mul_le_mul (by omega) h2
    omega)
theorem be32_sum (a b c d : UInt8) : (((a.toUInt32 <<< UInt32.ofNat 24) + (b.toUInt32 <<< UInt32.ofNat 16)) + (c.toUInt32 <<< UInt32.ofNat 8)) + d.toUInt32 = (((a.toUInt32 <<< UInt32.ofNat 24) ||| (b.toUInt32 <<< UInt32.ofNat 16)) ||| (c.toUInt32 <<< UInt32.ofNat 8)) ||| d.toUInt32 := by
  have ha : a.toNat < 256 := a.toNat_lt
  have hb : b.toNat < 256 := b.toNat_lt
  have hc : c.toNat < 256 := c.toNat_lt
  have hd : d.toUInt32.toNat < 2 ^ 8 := by rw [UInt8.toNat_toUInt32]; exact d.toNat_lt
  have na := sh_nat a 24 (by decide)
  have nb := sh_nat b 16 (by decide)
  have nc := sh_nat c 8 (by decide)
  generalize d.toUInt32 = D at *
  generalize a.toUInt32 <<< UInt32.ofNat 24 = X at *
  generalize b.toUInt32 <<< UInt32.ofNat 16 = Y at *
  generalize c.toUInt32 <<< UInt32.ofNat 8 = Z at *
  have e1 : X + Y = X ||| Y := or_add32 _ _ a.toNat 24 na (by omega)
  have n1 : (X + Y).toNat = (a.toNat * 256 + b.toNat) * 2 ^ 16 := by rw [UInt32.toNat_add, na, nb]; omega
  have e2 : (X + Y) + Z = (X + Y) ||| Z := or_add32 _ _ _ 16 n1 (by omega)
  have n2 : ((X + Y) + Z).toNat = ((a.toNat * 256 + b.toNat) * 256 + c.toNat) * 2 ^ 8 := by rw [UInt32.toNat_add, n1, nc]; omega
  have e3 : ((X + Y) + Z) + D = ((X + Y) + Z) ||| D := or_add32 _ _ _ 8 n2 hd
  rw [e3, e2, e1]
theorem be32_add (l : List UInt8) (i : Nat) : ((((l.getD i 0).toUInt32 <<< UInt32.ofNat 24) + ((l.getD (i + 1) 0).toUInt32 <<< UInt32.ofNat 16)) + ((l.getD (i + 2) 0).toUInt32 <<< UInt32.ofNat 8)) + (l.getD (i + 3) 0).toUInt32 = be32 l i := be32_sum _ _ _ _
theorem sch_lo2 (l : List UInt8) {i : Nat} (h : i < 16) : setRange (ws (sch l i) 64) (0 + (i : Int).toNat * 1) [w32 (((((l.getD (4 * i) 0).toUInt32 <<< UInt32.ofNat 24) + ((l.getD (4 * i + 1) 0).toUInt32 <<< UInt32.ofNat 16)) + ((l.getD (4 * i + 2) 0).toUInt32 <<< UInt32.ofNat 8)) + (l.getD (4 * i + 3) 0).toUInt32)] = ws (sch l (i + 1)) 64 := by
  rw [ws_set _ _ rfl (by omega), be32_add]
  show _ = ws (upd (sch l i) i (wst l (sch l i) i)) 64
  unfold wst
  rw [if_pos h]
theorem sch_hi2 (l : List UInt8) {i : Nat} (h : 16 ≤ i) (h2 : i < 64) : setRange (ws (sch l i) 64) (0 + (i : Int).toNat * 1) [w32 (((sch l i (i - 16) + ((rotr (sch l i (i - 15)) 7 ^^^ rotr (sch l i (i - 15)) 18) ^^^ (sch l i (i - 15) >>> UInt32.ofNat 3))) + sch l i (i - 7)) + ((rotr (sch l i (i - 2)) 17 ^^^ rotr (sch l i (i - 2)) 19) ^^^ (sch l i (i - 2) >>> UInt32.ofNat 10)))] = ws (sch l (i + 1)) 64 := by
  rw [ws_set _ _ rfl h2]
  show _ = ws (upd (sch l i) i (wst l (sch l i) i)) 64
  unfold wst
  rw [if_neg (by omega)]
  congr 2
  show (sch l i (i - 16) + sS0 (sch l i (i - 15)) + sch l i (i - 7) + sS1 (sch l i (i - 2))) = _
  ac_rfl
theorem sch_64 {l : List UInt8} {i : Nat} (h : 64 ≤ i) (h2 : i ≤ 64) : ws (sch l i) 64 = ws (sch l 64) 64 := by
  obtain rfl : i = 64 := by omega
  rfl
theorem bl3_0 (c W : Nat → UInt32) {i : Nat} (h : 64 ≤ i) (h2 : i ≤ 64) : ws (rds c W i) 8 = ws (fun j => if j < 0 then rds c W 64 j + c j else rds c W 64 j) 8 := by
  obtain rfl : i = 64 := by omega
  exact cl_ext fun j _ => by dsimp only; rw [if_neg (by omega)]
theorem bl3_g (c W : Nat → UInt32) {u : Nat} (h : u < 8) : ((ws (fun j => if j < u then rds c W 64 j + c j else rds c W 64 j) 8).drop (0 + (u : Int).toNat * 1)).head? = some (w32 (rds c W 64 u)) := by
  rw [cl_at _ rfl h]; dsimp only; rw [if_neg (by omega)]
theorem bl3_s (c W : Nat → UInt32) {u : Nat} (h : u < 8) : setRange (ws (fun j => if j < u then rds c W 64 j + c j else rds c W 64 j) 8) (0 + (u : Int).toNat * 1) [w32 (rds c W 64 u + c u)] = ws (fun j => if j < u + 1 then rds c W 64 j + c j else rds c W 64 j) 8 := by
  rw [ws_set _ _ rfl h]
  refine cl_ext fun j hj => ?_
  unfold upd
  dsimp only
  by_cases e : j = u
  · subst e; rw [if_pos rfl, if_pos (by omega)]
  · rw [if_neg e]
    by_cases h1 : j < u
    · rw [if_pos h1, if_pos (by omega)]
    · rw [if_neg h1, if_neg (by omega)]
theorem bl3_fin (c : Nat → UInt32) (l : List UInt8) {u : Nat} (h : 8 ≤ u) (h2 : u ≤ 8) : Value.agg (ws (fun j => if j < u then rds c (sch l 64) 64 j + c j else rds c (sch l 64) 64 j) 8).toArray = .agg (ws (blk c l) 8).toArray := by
  obtain rfl : u = 8 := by omega
  rw [show ws (fun j => if j < 8 then rds c (sch l 64) 64 j + c j else rds c (sch l 64) 64 j) 8 = ws (blk c l) 8 from cl_ext fun j hj => by dsimp only; rw [if_pos hj, UInt32.add_comm]; rfl]

theorem t_words  : Det Tryd.prog 45 [] (.agg (ws rcK 64).toArray) :=
  det_of_vc Tryd.mixed good_pontageref7_words (O := [.opt 1 [(0, .ld (.agg (ws rcK 64).toArray))]]) fun _ => ⟨ld_words _, ⟨(), rfl, nofun⟩⟩
theorem t_blk (c : Nat → UInt32) (y : Byt) (hn : y.n = 64) (A : Facts) (hy : Sub y.L A) : Gives Tryd.prog 37 [.agg (ws (c) 8).toArray, y.v] A (Unit) (fun _ => .agg (ws (blk c y.l) 8).toArray) (fun _ => []) :=
  gives_of_vcF Tryd.mixed good_pontageref7_block (args := [(.agg (ws (c) 8).toArray, []), (y.v, y.L)]) (B := []) (O := [.reg [(0, det (.agg (ws rcK 64).toArray))], .inv (Upto 64) (fun x : Upto 64 => ⟨191, [(1, .v y.v y.L), (2, .p 0 0), (4, .p 1 0), (5, .p 3 0), (6, .p 5 0), (7, .v (.int .i64 (x.1 : Int)) [])], [(0, ⟨63, ws c 8, []⟩), (1, ⟨63, ws (fun _ => 0) 8, []⟩), (3, ⟨74, ws rcK 64, []⟩), (5, ⟨74, ws (sch y.l x.1) 64, []⟩)], 40⟩) (fun x => 64 - x.1) (fun x => [.both [.both [.opt 7 [(3, .ld (.int .i64 ((4 * x.1 : Nat) : Int))), (5, .ld (v8 (y.l.getD (4 * x.1) 0))), (6, .ld (w32 (y.l.getD (4 * x.1) 0).toUInt32)), (10, .ld (.int .i64 ((4 * x.1 : Nat) : Int))), (11, .ld (.int .i64 ((4 * x.1 + 1 : Nat) : Int))), (13, .ld (v8 (y.l.getD (4 * x.1 + 1) 0))), (14, .ld (w32 (y.l.getD (4 * x.1 + 1) 0).toUInt32)), (16, .ld (w32 (((y.l.getD (4 * x.1) 0).toUInt32 <<< UInt32.ofNat 24) + ((y.l.getD (4 * x.1 + 1) 0).toUInt32 <<< UInt32.ofNat 16)))), (19, .ld (.int .i64 ((4 * x.1 : Nat) : Int))), (20, .ld (.int .i64 ((4 * x.1 + 2 : Nat) : Int))), (22, .ld (v8 (y.l.getD (4 * x.1 + 2) 0))), (23, .ld (w32 (y.l.getD (4 * x.1 + 2) 0).toUInt32)), (25, .ld (w32 ((((y.l.getD (4 * x.1) 0).toUInt32 <<< UInt32.ofNat 24) + ((y.l.getD (4 * x.1 + 1) 0).toUInt32 <<< UInt32.ofNat 16)) + ((y.l.getD (4 * x.1 + 2) 0).toUInt32 <<< UInt32.ofNat 8)))), (28, .ld (.int .i64 ((4 * x.1 : Nat) : Int))), (29, .ld (.int .i64 ((4 * x.1 + 3 : Nat) : Int))), (31, .ld (v8 (y.l.getD (4 * x.1 + 3) 0))), (32, .ld (w32 (y.l.getD (4 * x.1 + 3) 0).toUInt32)), (33, .ld (w32 (((((y.l.getD (4 * x.1) 0).toUInt32 <<< UInt32.ofNat 24) + ((y.l.getD (4 * x.1 + 1) 0).toUInt32 <<< UInt32.ofNat 16)) + ((y.l.getD (4 * x.1 + 2) 0).toUInt32 <<< UInt32.ofNat 8)) + (y.l.getD (4 * x.1 + 3) 0).toUInt32))), (35, .mk 0)]] [.opt 8 [(1, .ld (.int .i64 ((x.1 - 15 : Nat) : Int))), (3, .ld (w32 (sch y.l x.1 (x.1 - 15)))), (5, .ld (.int .i64 ((x.1 - 2 : Nat) : Int))), (7, .ld (w32 (sch y.l x.1 (x.1 - 2))))], .reg [(2, .ld (.int .i64 ((x.1 - 16 : Nat) : Int))), (4, .ld (w32 (sch y.l x.1 (x.1 - 16)))), (6, det (w32 (rotr (sch y.l x.1 (x.1 - 15)) 7))), (8, det (w32 (rotr (sch y.l x.1 (x.1 - 15)) 18))), (9, .ld (w32 ((rotr (sch y.l x.1 (x.1 - 15)) 7) ^^^ (rotr (sch y.l x.1 (x.1 - 15)) 18)))), (12, .ld (w32 (((rotr (sch y.l x.1 (x.1 - 15)) 7) ^^^ (rotr (sch y.l x.1 (x.1 - 15)) 18)) ^^^ ((sch y.l x.1 (x.1 - 15)) >>> UInt32.ofNat 3)))), (13, .ld (w32 ((sch y.l x.1 (x.1 - 16)) + (((rotr (sch y.l x.1 (x.1 - 15)) 7) ^^^ (rotr (sch y.l x.1 (x.1 - 15)) 18)) ^^^ ((sch y.l x.1 (x.1 - 15)) >>> UInt32.ofNat 3))))), (15, .ld (.int .i64 ((x.1 - 7 : Nat) : Int))), (17, .ld (w32 (sch y.l x.1 (x.1 - 7)))), (18, .ld (w32 (((sch y.l x.1 (x.1 - 16)) + (((rotr (sch y.l x.1 (x.1 - 15)) 7) ^^^ (rotr (sch y.l x.1 (x.1 - 15)) 18)) ^^^ ((sch y.l x.1 (x.1 - 15)) >>> UInt32.ofNat 3))) + (sch y.l x.1 (x.1 - 7))))), (20, det (w32 (rotr (sch y.l x.1 (x.1 - 2)) 17))), (22, det (w32 (rotr (sch y.l x.1 (x.1 - 2)) 19))), (23, .ld (w32 ((rotr (sch y.l x.1 (x.1 - 2)) 17) ^^^ (rotr (sch y.l x.1 (x.1 - 2)) 19)))), (26, .ld (w32 (((rotr (sch y.l x.1 (x.1 - 2)) 17) ^^^ (rotr (sch y.l x.1 (x.1 - 2)) 19)) ^^^ ((sch y.l x.1 (x.1 - 2)) >>> UInt32.ofNat 10)))), (27, .ld (w32 ((((sch y.l x.1 (x.1 - 16)) + (((rotr (sch y.l x.1 (x.1 - 15)) 7) ^^^ (rotr (sch y.l x.1 (x.1 - 15)) 18)) ^^^ ((sch y.l x.1 (x.1 - 15)) >>> UInt32.ofNat 3))) + (sch y.l x.1 (x.1 - 7))) + (((rotr (sch y.l x.1 (x.1 - 2)) 17) ^^^ (rotr (sch y.l x.1 (x.1 - 2)) 19)) ^^^ ((sch y.l x.1 (x.1 - 2)) >>> UInt32.ofNat 10))))), (29, .mk 0)]]] [.opt 10 [(0, .ld (.agg (ws (c) 8).toArray))], .inv (Upto 64) (fun z : Upto 64 => ⟨191, [(2, .p 0 0), (4, .p 1 0), (5, .p 3 0), (6, .p 5 0), (10, .p 43 0), (11, .v (.int .i64 (z.1 : Int)) [])], [(0, ⟨63, ws c 8, []⟩), (1, ⟨63, ws (fun _ => 0) 8, []⟩), (3, ⟨74, ws rcK 64, []⟩), (5, ⟨74, ws (sch y.l 64) 64, []⟩), (43, ⟨63, ws (rds c (sch y.l 64) z.1) 8, []⟩)], 80⟩) (fun z => 64 - z.1) (fun z => [.both [.reg [(3, det (w32 (rotr (rds c (sch y.l 64) z.1 4) 6))), (5, det (w32 (rotr (rds c (sch y.l 64) z.1 4) 11))), (6, .ld (w32 ((rotr (rds c (sch y.l 64) z.1 4) 6) ^^^ (rotr (rds c (sch y.l 64) z.1 4) 11)))), (8, det (w32 (rotr (rds c (sch y.l 64) z.1 4) 25))), (9, .ld (w32 (((rotr (rds c (sch y.l 64) z.1 4) 6) ^^^ (rotr (rds c (sch y.l 64) z.1 4) 11)) ^^^ (rotr (rds c (sch y.l 64) z.1 4) 25)))), (10, .ld (w32 ((rds c (sch y.l 64) z.1 7) + (((rotr (rds c (sch y.l 64) z.1 4) 6) ^^^ (rotr (rds c (sch y.l 64) z.1 4) 11)) ^^^ (rotr (rds c (sch y.l 64) z.1 4) 25))))), (14, .ld (w32 ((rds c (sch y.l 64) z.1 4) &&& (rds c (sch y.l 64) z.1 5)))), (16, .ld (w32 (~~~(rds c (sch y.l 64) z.1 4)))), (19, .ld (w32 ((~~~(rds c (sch y.l 64) z.1 4)) &&& (rds c (sch y.l 64) z.1 6)))), (20, .ld (w32 (((rds c (sch y.l 64) z.1 4) &&& (rds c (sch y.l 64) z.1 5)) ^^^ ((~~~(rds c (sch y.l 64) z.1 4)) &&& (rds c (sch y.l 64) z.1 6))))), (21, .ld (w32 (((rds c (sch y.l 64) z.1 7) + (((rotr (rds c (sch y.l 64) z.1 4) 6) ^^^ (rotr (rds c (sch y.l 64) z.1 4) 11)) ^^^ (rotr (rds c (sch y.l 64) z.1 4) 25))) + (((rds c (sch y.l 64) z.1 4) &&& (rds c (sch y.l 64) z.1 5)) ^^^ ((~~~(rds c (sch y.l 64) z.1 4)) &&& (rds c (sch y.l 64) z.1 6)))))), (24, .ld (w32 (rcK z.1))), (25, .ld (w32 ((((rds c (sch y.l 64) z.1 7) + (((rotr (rds c (sch y.l 64) z.1 4) 6) ^^^ (rotr (rds c (sch y.l 64) z.1 4) 11)) ^^^ (rotr (rds c (sch y.l 64) z.1 4) 25))) + (((rds c (sch y.l 64) z.1 4) &&& (rds c (sch y.l 64) z.1 5)) ^^^ ((~~~(rds c (sch y.l 64) z.1 4)) &&& (rds c (sch y.l 64) z.1 6)))) + (rcK z.1)))), (28, .ld (w32 (sch y.l 64 z.1))), (29, .ld (w32 (((((rds c (sch y.l 64) z.1 7) + (((rotr (rds c (sch y.l 64) z.1 4) 6) ^^^ (rotr (rds c (sch y.l 64) z.1 4) 11)) ^^^ (rotr (rds c (sch y.l 64) z.1 4) 25))) + (((rds c (sch y.l 64) z.1 4) &&& (rds c (sch y.l 64) z.1 5)) ^^^ ((~~~(rds c (sch y.l 64) z.1 4)) &&& (rds c (sch y.l 64) z.1 6)))) + (rcK z.1)) + (sch y.l 64 z.1))))], .reg [(1, det (w32 (rotr (rds c (sch y.l 64) z.1 0) 2))), (3, det (w32 (rotr (rds c (sch y.l 64) z.1 0) 13))), (4, .ld (w32 ((rotr (rds c (sch y.l 64) z.1 0) 2) ^^^ (rotr (rds c (sch y.l 64) z.1 0) 13)))), (6, det (w32 (rotr (rds c (sch y.l 64) z.1 0) 22))), (7, .ld (w32 (((rotr (rds c (sch y.l 64) z.1 0) 2) ^^^ (rotr (rds c (sch y.l 64) z.1 0) 13)) ^^^ (rotr (rds c (sch y.l 64) z.1 0) 22)))), (11, .ld (w32 ((rds c (sch y.l 64) z.1 0) &&& (rds c (sch y.l 64) z.1 1)))), (15, .ld (w32 ((rds c (sch y.l 64) z.1 0) &&& (rds c (sch y.l 64) z.1 2)))), (16, .ld (w32 (((rds c (sch y.l 64) z.1 0) &&& (rds c (sch y.l 64) z.1 1)) ^^^ ((rds c (sch y.l 64) z.1 0) &&& (rds c (sch y.l 64) z.1 2))))), (21, .ld (w32 ((rds c (sch y.l 64) z.1 1) &&& (rds c (sch y.l 64) z.1 2)))), (22, .ld (w32 ((((rds c (sch y.l 64) z.1 0) &&& (rds c (sch y.l 64) z.1 1)) ^^^ ((rds c (sch y.l 64) z.1 0) &&& (rds c (sch y.l 64) z.1 2))) ^^^ ((rds c (sch y.l 64) z.1 1) &&& (rds c (sch y.l 64) z.1 2))))), (23, .ld (w32 ((((rotr (rds c (sch y.l 64) z.1 0) 2) ^^^ (rotr (rds c (sch y.l 64) z.1 0) 13)) ^^^ (rotr (rds c (sch y.l 64) z.1 0) 22)) + ((((rds c (sch y.l 64) z.1 0) &&& (rds c (sch y.l 64) z.1 1)) ^^^ ((rds c (sch y.l 64) z.1 0) &&& (rds c (sch y.l 64) z.1 2))) ^^^ ((rds c (sch y.l 64) z.1 1) &&& (rds c (sch y.l 64) z.1 2))))))], .opt 17 [(2, .ld (w32 ((t1F (rcK z.1) (sch y.l 64 z.1) (rds c (sch y.l 64) z.1)) + (t2F (rds c (sch y.l 64) z.1))))), (11, .ld (w32 ((rds c (sch y.l 64) z.1 3) + (t1F (rcK z.1) (sch y.l 64 z.1) (rds c (sch y.l 64) z.1))))), (17, .ld (.agg (ws (rds c (sch y.l 64) (z.1 + 1)) 8).toArray))]] [.inv (Upto 8) (fun u : Upto 8 => ⟨191, [(2, .p 0 0), (4, .p 1 0), (10, .p 43 0), (16, .v (.int .i64 (u.1 : Int)) [])], [(0, ⟨63, ws c 8, []⟩), (1, ⟨63, ws (fun _ => 0) 8, []⟩), (43, ⟨63, ws (fun j => if j < u.1 then rds c (sch y.l 64) 64 j + c j else rds c (sch y.l 64) 64 j) 8, []⟩)], 120⟩) (fun u => 8 - u.1) (fun u => [.both [.opt 21 [(3, .ld (w32 (rds c (sch y.l 64) 64 u.1))), (6, .ld (w32 (c u.1))), (7, .ld (w32 ((rds c (sch y.l 64) 64 u.1) + (c u.1)))), (9, .mk 0)]] [.opt 22 [(0, .ld (.agg (ws ((fun j => if j < u.1 then rds c (sch y.l 64) 64 j + c j else rds c (sch y.l 64) 64 j)) 8).toArray))]]])]])]])]) (.app (.nil _) (.app (.nil _) (.app (hy) (.nil _)))) (⟨t_words _, fun _ => ⟨⟨⟨0, Nat.zero_le _⟩, rfl, ⟨⟨rfl, fun _ h => h⟩, ⟨rfl, rfl, rfl⟩, ⟨rfl, rfl, rfl⟩, ⟨rfl, rfl, rfl⟩, ⟨rfl, rfl, rfl⟩, ⟨rfl, nofun⟩, trivial⟩, ⟨rfl, rfl, nofun⟩, ⟨rfl, rfl, nofun⟩, ⟨rfl, rfl, nofun⟩, ⟨rfl, rfl, nofun⟩, trivial⟩, fun x => ⟨fun h => ⟨fun g => ⟨ld_mul (mul4i (by have := (lt_t (n := 64) h); omega)) _, ⟨y.idx (Int.natCast_nonneg _) (Int.ofNat_lt.2 (by have := (lt_t (n := 16) g); omega)), ⟨y.load (4 * x.1) rfl (by have := (lt_t (n := 16) g); omega) (by intro q h; simp [h]), ⟨ld_u8_32 _ _, ⟨by decide, ⟨ld_mul (mul4i (by have := (lt_t (n := 64) h); omega)) _, ⟨ld_add (addk 1 (by have := (lt_t (n := 64) h); omega)) _, ⟨y.idx (Int.natCast_nonneg _) (Int.ofNat_lt.2 (by have := (lt_t (n := 16) g); omega)), ⟨y.load (4 * x.1 + 1) rfl (by have := (lt_t (n := 16) g); omega) (by intro q h; simp [h]), ⟨ld_u8_32 _ _, ⟨by decide, ⟨ld_add32 (shl32 (y.l.getD (4 * x.1) 0).toUInt32 24 (by decide)) (shl32 (y.l.getD (4 * x.1 + 1) 0).toUInt32 16 (by decide)) _, ⟨ld_mul (mul4i (by have := (lt_t (n := 64) h); omega)) _, ⟨ld_add (addk 2 (by have := (lt_t (n := 64) h); omega)) _, ⟨y.idx (Int.natCast_nonneg _) (Int.ofNat_lt.2 (by have := (lt_t (n := 16) g); omega)), ⟨y.load (4 * x.1 + 2) rfl (by have := (lt_t (n := 16) g); omega) (by intro q h; simp [h]), ⟨ld_u8_32 _ _, ⟨by decide, ⟨ld_add32 rfl (shl32 (y.l.getD (4 * x.1 + 2) 0).toUInt32 8 (by decide)) _, ⟨ld_mul (mul4i (by have := (lt_t (n := 64) h); omega)) _, ⟨ld_add (addk 3 (by have := (lt_t (n := 64) h); omega)) _, ⟨y.idx (Int.natCast_nonneg _) (Int.ofNat_lt.2 (by have := (lt_t (n := 16) g); omega)), ⟨y.load (4 * x.1 + 3) rfl (by have := (lt_t (n := 16) g); omega) (by intro q h; simp [h]), ⟨ld_u8_32 _ _, ⟨ld_add32 rfl rfl _, ⟨⟨Int.natCast_nonneg _, by have := (lt_t (n := 64) h); omega⟩, ⟨cl_in (fun i => w32 (sch y.l x.1 i)) (n := 64) (j := x.1) rfl (lt_t (n := 64) h), ⟨⟨x.1 + 1, (lt_t (n := 64) h)⟩, (by have := (lt_t (n := 64) h); show 64 - (x.1 + 1) < 64 - x.1; omega), rfl, ⟨⟨rfl, fun _ h => h⟩, ⟨rfl, rfl, rfl⟩, ⟨rfl, rfl, rfl⟩, ⟨rfl, rfl, rfl⟩, ⟨rfl, rfl, rfl⟩, ⟨congrArg _ (add1 (by have := (lt_t (n := 64) h); omega)), nofun⟩, trivial⟩, ⟨rfl, rfl, nofun⟩, ⟨rfl, rfl, nofun⟩, ⟨rfl, rfl, nofun⟩, ⟨rfl, sch_lo2 y.l (lt_t (n := 16) g), nofun⟩, trivial⟩⟩⟩⟩⟩⟩⟩⟩⟩⟩⟩⟩⟩⟩⟩⟩⟩⟩⟩⟩⟩⟩⟩⟩⟩⟩⟩⟩, fun g => ⟨ld_sub (subk 15 (by have := (lt_f (n := 16) g); omega) (by have := (lt_t (n := 64) h); omega)) _, ⟨⟨Int.natCast_nonneg _, by have := (lt_t (n := 64) h); omega⟩, ⟨cl_at (fun i => w32 (sch y.l x.1 i)) (n := 64) (j := x.1 - 15) rfl (by have := (lt_t (n := 64) h); omega), ⟨ld_sub (subk 2 (by have := (lt_f (n := 16) g); omega) (by have := (lt_t (n := 64) h); omega)) _, ⟨⟨Int.natCast_nonneg _, by have := (lt_t (n := 64) h); omega⟩, ⟨cl_at (fun i => w32 (sch y.l x.1 i)) (n := 64) (j := x.1 - 2) rfl (by have := (lt_t (n := 64) h); omega), ⟨ld_sub (subk 16 (by have := (lt_f (n := 16) g); omega) (by have := (lt_t (n := 64) h); omega)) _, ⟨⟨Int.natCast_nonneg _, by have := (lt_t (n := 64) h); omega⟩, ⟨cl_at (fun i => w32 (sch y.l x.1 i)) (n := 64) (j := x.1 - 16) rfl (by have := (lt_t (n := 64) h); omega), ⟨t_rot (sch y.l x.1 (x.1 - 15)) 7 (by decide) (by decide) _, fun _ => ⟨t_rot (sch y.l x.1 (x.1 - 15)) 18 (by decide) (by decide) _, fun _ => ⟨ld_xor32 rfl rfl _, ⟨by decide, ⟨ld_xor32 rfl (shr32 (sch y.l x.1 (x.1 - 15)) 3 (by decide)) _, ⟨ld_add32 rfl rfl _, ⟨ld_sub (subk 7 (by have := (lt_f (n := 16) g); omega) (by have := (lt_t (n := 64) h); omega)) _, ⟨⟨Int.natCast_nonneg _, by have := (lt_t (n := 64) h); omega⟩, ⟨cl_at (fun i => w32 (sch y.l x.1 i)) (n := 64) (j := x.1 - 7) rfl (by have := (lt_t (n := 64) h); omega), ⟨ld_add32 rfl rfl _, ⟨t_rot (sch y.l x.1 (x.1 - 2)) 17 (by decide) (by decide) _, fun _ => ⟨t_rot (sch y.l x.1 (x.1 - 2)) 19 (by decide) (by decide) _, fun _ => ⟨ld_xor32 rfl rfl _, ⟨by decide, ⟨ld_xor32 rfl (shr32 (sch y.l x.1 (x.1 - 2)) 10 (by decide)) _, ⟨ld_add32 rfl rfl _, ⟨⟨Int.natCast_nonneg _, by have := (lt_t (n := 64) h); omega⟩, ⟨cl_in (fun i => w32 (sch y.l x.1 i)) (n := 64) (j := x.1) rfl (lt_t (n := 64) h), ⟨⟨x.1 + 1, (lt_t (n := 64) h)⟩, (by have := (lt_t (n := 64) h); show 64 - (x.1 + 1) < 64 - x.1; omega), rfl, ⟨⟨rfl, fun _ h => h⟩, ⟨rfl, rfl, rfl⟩, ⟨rfl, rfl, rfl⟩, ⟨rfl, rfl, rfl⟩, ⟨rfl, rfl, rfl⟩, ⟨congrArg _ (add1 (by have := (lt_t (n := 64) h); omega)), nofun⟩, trivial⟩, ⟨rfl, rfl, nofun⟩, ⟨rfl, rfl, nofun⟩, ⟨rfl, rfl, nofun⟩, ⟨rfl, sch_hi2 y.l (lt_f (n := 16) g) (lt_t (n := 64) h), nofun⟩, trivial⟩⟩⟩⟩⟩⟩⟩⟩⟩⟩⟩⟩⟩⟩⟩⟩⟩⟩⟩⟩⟩⟩⟩⟩⟩⟩⟩⟩⟩, fun h => ⟨ld_a8 c, ⟨⟨⟨0, Nat.zero_le _⟩, rfl, ⟨⟨rfl, rfl, rfl⟩, ⟨rfl, rfl, rfl⟩, ⟨rfl, rfl, rfl⟩, ⟨rfl, rfl, rfl⟩, ⟨rfl, rfl, rfl⟩, ⟨rfl, nofun⟩, trivial⟩, ⟨rfl, rfl, nofun⟩, ⟨rfl, rfl, nofun⟩, ⟨rfl, rfl, nofun⟩, ⟨rfl, sch_64 (lt_f (n := 64) h) x.2, nofun⟩, ⟨rfl, set8 (fun _ => 0) c, nofun⟩, trivial⟩, fun z => ⟨fun h2 => ⟨by decide, ⟨by decide, ⟨by decide, ⟨t_rot (rds c (sch y.l 64) z.1 4) 6 (by decide) (by decide) _, fun _ => ⟨t_rot (rds c (sch y.l 64) z.1 4) 11 (by decide) (by decide) _, fun _ => ⟨ld_xor32 rfl rfl _, ⟨t_rot (rds c (sch y.l 64) z.1 4) 25 (by decide) (by decide) _, fun _ => ⟨ld_xor32 rfl rfl _, ⟨ld_add32 rfl rfl _, ⟨by decide, ⟨ld_and32 rfl rfl _, ⟨ld_not32 rfl _, ⟨by decide, ⟨ld_and32 rfl rfl _, ⟨ld_xor32 rfl rfl _, ⟨ld_add32 rfl rfl _, ⟨⟨Int.natCast_nonneg _, by have := (lt_t (n := 64) h2); omega⟩, ⟨cl_at (fun i => w32 (rcK i)) (n := 64) (j := z.1) rfl (lt_t (n := 64) h2), ⟨ld_add32 rfl rfl _, ⟨⟨Int.natCast_nonneg _, by have := (lt_t (n := 64) h2); omega⟩, ⟨cl_at (fun i => w32 (sch y.l 64 i)) (n := 64) (j := z.1) rfl (lt_t (n := 64) h2), ⟨ld_add32 rfl rfl _, ⟨t_rot (rds c (sch y.l 64) z.1 0) 2 (by decide) (by decide) _, fun _ => ⟨t_rot (rds c (sch y.l 64) z.1 0) 13 (by decide) (by decide) _, fun _ => ⟨ld_xor32 rfl rfl _, ⟨t_rot (rds c (sch y.l 64) z.1 0) 22 (by decide) (by decide) _, fun _ => ⟨ld_xor32 rfl rfl _, ⟨by decide, ⟨ld_and32 rfl rfl _, ⟨by decide, ⟨ld_and32 rfl rfl _, ⟨ld_xor32 rfl rfl _, ⟨by decide, ⟨by decide, ⟨ld_and32 rfl rfl _, ⟨ld_xor32 rfl rfl _, ⟨ld_add32 rfl rfl _, ⟨ld_add32 rfl rfl _, ⟨by decide, ⟨by decide, ⟨by decide, ⟨ld_add32 rfl rfl _, ⟨by decide, ⟨by decide, ⟨ld_bld8 u_arr8 i_word z_arr8 (rds c (sch y.l 64) (z.1 + 1)) _, ⟨⟨z.1 + 1, (lt_t (n := 64) h2)⟩, (by have := (lt_t (n := 64) h2); show 64 - (z.1 + 1) < 64 - z.1; omega), rfl, ⟨⟨rfl, rfl, rfl⟩, ⟨rfl, rfl, rfl⟩, ⟨rfl, rfl, rfl⟩, ⟨rfl, rfl, rfl⟩, ⟨rfl, rfl, rfl⟩, ⟨congrArg _ (add1 (by have := (lt_t (n := 64) h2); omega)), nofun⟩, trivial⟩, ⟨rfl, rfl, nofun⟩, ⟨rfl, rfl, nofun⟩, ⟨rfl, rfl, nofun⟩, ⟨rfl, rfl, nofun⟩, ⟨rfl, set8 _ _, nofun⟩, trivial⟩⟩⟩⟩⟩⟩⟩⟩⟩⟩⟩⟩⟩⟩⟩⟩⟩⟩⟩⟩⟩⟩⟩⟩⟩⟩⟩⟩⟩⟩⟩⟩⟩⟩⟩⟩⟩⟩⟩⟩⟩⟩⟩⟩⟩⟩, fun h2 => ⟨⟨⟨0, Nat.zero_le _⟩, rfl, ⟨⟨rfl, rfl, rfl⟩, ⟨rfl, rfl, rfl⟩, ⟨rfl, rfl, rfl⟩, ⟨rfl, nofun⟩, trivial⟩, ⟨rfl, rfl, nofun⟩, ⟨rfl, rfl, nofun⟩, ⟨rfl, bl3_0 c _ (lt_f (n := 64) h2) z.2, nofun⟩, trivial⟩, fun u => ⟨fun h3 => ⟨⟨Int.natCast_nonneg _, by have := (lt_t (n := 8) h3); omega⟩, ⟨bl3_g c _ (lt_t (n := 8) h3), ⟨⟨Int.natCast_nonneg _, by have := (lt_t (n := 8) h3); omega⟩, ⟨cl_at (fun i => w32 (c i)) (n := 8) (j := u.1) rfl (lt_t (n := 8) h3), ⟨ld_add32 rfl rfl _, ⟨⟨Int.natCast_nonneg _, by have := (lt_t (n := 8) h3); omega⟩, ⟨cl_in (fun i => w32 ((fun j => if j < u.1 then rds c (sch y.l 64) 64 j + c j else rds c (sch y.l 64) 64 j) i)) (n := 8) (j := u.1) rfl (lt_t (n := 8) h3), ⟨⟨u.1 + 1, (lt_t (n := 8) h3)⟩, (by have := (lt_t (n := 8) h3); show 8 - (u.1 + 1) < 8 - u.1; omega), rfl, ⟨⟨rfl, rfl, rfl⟩, ⟨rfl, rfl, rfl⟩, ⟨rfl, rfl, rfl⟩, ⟨congrArg _ (add1 (by have := (lt_t (n := 8) h3); omega)), nofun⟩, trivial⟩, ⟨rfl, rfl, nofun⟩, ⟨rfl, rfl, nofun⟩, ⟨rfl, bl3_s c _ (lt_t (n := 8) h3), nofun⟩, trivial⟩⟩⟩⟩⟩⟩⟩⟩, fun h3 => ⟨ld_a8 (fun j => if j < u.1 then rds c (sch y.l 64) 64 j + c j else rds c (sch y.l 64) 64 j), ⟨(), bl3_fin c y.l (lt_f (n := 8) h3) u.2, nofun⟩⟩⟩⟩⟩⟩⟩⟩⟩⟩)
end Go.Proofs.YtgbfolkpgmjaeaaDoor

