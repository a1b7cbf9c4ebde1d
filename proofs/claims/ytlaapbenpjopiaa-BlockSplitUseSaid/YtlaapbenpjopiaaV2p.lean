/- Package params over this translation: the first key outside its range, Get and Set, the first parameters. No conditions. -/
import Derived.Test.YtlaapbenpjopiaaV2n
namespace Go.Proofs.Ytlaapbenpjopiaa
open Go.RowKit Sx
set_option maxRecDepth 100000

/-! Parts put together. -/
theorem bld_arr {t e : TypeId} {n s : Nat} {z : Value} {cs : List Value} {ps : Array (Nat × Value)} (hu : Try.prog.underlying t = some (.array n e)) (he : (Try.prog.info? e).map (fun i => i.size) = some s) (hz : (Try.prog.info? t).map (fun i => i.zero) = some (some z))
    (hf : fillL (fun j => some (j * s, s)) z.cells.toList ps.toList = some cs) : ∀ w, (Instr.build t ps).run Try.prog w = .ok (.agg cs.toArray) w := by
  intro w
  obtain ⟨i, hi, hs⟩ : ∃ i, Try.prog.info? e = some i ∧ i.size = s := by
    cases h : Try.prog.info? e with
    | none => rw [h] at he; cases he
    | some i => rw [h] at he; simp at he; exact ⟨i, rfl, he⟩
  obtain ⟨j, hj, hjz⟩ : ∃ j, Try.prog.info? t = some j ∧ j.zero = some z := by
    cases h : Try.prog.info? t with
    | none => rw [h] at hz; cases hz
    | some i => rw [h] at hz; simp only [Option.map_some, Option.some.injEq] at hz; exact ⟨i, rfl, hz⟩
  have hzero : (zeroValue t).run Try.prog w = .ok z w := by simp [zeroValue, typeInfo, hj, hjz]
  have hfill := fill_sound _ _ z.cells.toList cs hf
  simp only [Array.toArray_toList] at hfill
  simp only [Instr.build, Sem.run_bind, hzero, Result.andThen_ok, run_underlying hu, run_size hi, hs, hfill]
  simp
theorem bld_str {t : TypeId} {fs : Array Field} {pl : List (Nat × Nat)} {z : Value} {cs : List Value} {ps : Array (Nat × Value)} (hu : Try.prog.underlying t = some (.struct fs)) (hpl : placesOf Try.prog fs.toList = some pl) (hz : (Try.prog.info? t).map (fun i => i.zero) = some (some z))
    (hf : fillL (fun j => pl[j]?) z.cells.toList ps.toList = some cs) : ∀ w, (Instr.build t ps).run Try.prog w = .ok (.agg cs.toArray) w := by
  intro w
  obtain ⟨j, hj, hjz⟩ : ∃ j, Try.prog.info? t = some j ∧ j.zero = some z := by
    cases h : Try.prog.info? t with
    | none => rw [h] at hz; cases hz
    | some i => rw [h] at hz; simp only [Option.map_some, Option.some.injEq] at hz; exact ⟨i, rfl, hz⟩
  have hzero : (zeroValue t).run Try.prog w = .ok z w := by simp [zeroValue, typeInfo, hj, hjz]
  have hfill := fill_sound _ _ z.cells.toList cs hf
  simp only [Array.toArray_toList] at hfill
  simp only [Instr.build, Sem.run_bind, hzero, Result.andThen_ok, run_underlying hu, places_sound hpl]
  rw [show (fun x : Nat => pl.toArray[x]?) = fun j => pl[j]? from funext fun j => by simp, hfill]
  simp
section
variable {ρ : Operand → Value} {dst : Option Tmp} {type : TypeId} {pos : String} {after : Array Edge} {guard : Option (Nat × Bool)}
theorem ld_b12 {t : TypeId} {out : Value} {i0 i1 i2 i3 i4 i5 i6 i7 i8 i9 i10 i11 : Nat} {v0 v1 v2 v3 v4 v5 v6 v7 v8 v9 v10 v11 : Value} (hb : ∀ w, (Instr.build t #[(i0, v0), (i1, v1), (i2, v2), (i3, v3), (i4, v4), (i5, v5), (i6, v6), (i7, v7), (i8, v8), (i9, v9), (i10, v10), (i11, v11)]).run Try.prog w = .ok out w) (A : Facts)
    {x0 x1 x2 x3 x4 x5 x6 x7 x8 x9 x10 x11 : Operand} (h0 : ρ x0 = v0 := by rfl) (h1 : ρ x1 = v1 := by rfl) (h2 : ρ x2 = v2 := by rfl) (h3 : ρ x3 = v3 := by rfl) (h4 : ρ x4 = v4 := by rfl) (h5 : ρ x5 = v5 := by rfl) (h6 : ρ x6 = v6 := by rfl) (h7 : ρ x7 = v7 := by rfl) (h8 : ρ x8 = v8 := by rfl) (h9 : ρ x9 = v9 := by rfl) (h10 : ρ x10 = v10 := by rfl) (h11 : ρ x11 = v11 := by rfl) :
    ∀ w, Sx.Holds w A → (execOp ρ ⟨dst, .build t #[(i0, x0), (i1, x1), (i2, x2), (i3, x3), (i4, x4), (i5, x5), (i6, x6), (i7, x7), (i8, x8), (i9, x9), (i10, x10), (i11, x11)], type, pos, after, guard⟩).run Try.prog w = .ok (.value out) w := by
  intro w _
  have e2 : execOp ρ ⟨dst, .build t #[(i0, x0), (i1, x1), (i2, x2), (i3, x3), (i4, x4), (i5, x5), (i6, x6), (i7, x7), (i8, x8), (i9, x9), (i10, x10), (i11, x11)], type, pos, after, guard⟩ = (do let v ← Instr.build t #[(i0, ρ x0), (i1, ρ x1), (i2, ρ x2), (i3, ρ x3), (i4, ρ x4), (i5, ρ x5), (i6, ρ x6), (i7, ρ x7), (i8, ρ x8), (i9, ρ x9), (i10, ρ x10), (i11, ρ x11)]; pure (.value v)) := by simp [execOp]
  rw [e2, h0, h1, h2, h3, h4, h5, h6, h7, h8, h9, h10, h11, Sem.run_bind, hb]
  rfl
end
abbrev w0 (n : Nat) : Value := .int .u64 (n : Int)
theorem b_par (p : Par) : ∀ w, (Instr.build 28 #[(0, w0 (p 1)), (1, w0 (p 2)), (2, w0 (p 3)), (3, U (p 4)), (4, w0 (p 5)), (5, U (p 6)), (6, w0 (p 7)), (7, U (p 8)), (8, w0 (p 9)), (9, w0 (p 10)), (10, w0 (p 11)), (11, w0 (p 12))]).run Try.prog w = .ok (PV p) w :=
  bld_str Try.underlying28 (pl := [(0, 1), (1, 1), (2, 1), (3, 4), (7, 1), (8, 4), (12, 1), (13, 4), (17, 1), (18, 1), (19, 1), (20, 1)]) (by kernel_rfl) (z := .agg (List.replicate 21 (Value.int .u64 0)).toArray) (by kernel_rfl) (by kernel_rfl)
theorem vas_0 {p : Par} (h : p 0 = 0) : Value.agg (List.replicate 4 (Value.int .u64 0) ++ vas p 1 12).toArray = VA p := by
  obtain ⟨h0, h1, h2, h3⟩ := limb_zero
  show _ = Value.agg (Value.int .u64 (limb (p 0) 0) :: Value.int .u64 (limb (p 0) 1) :: Value.int .u64 (limb (p 0) 2) :: Value.int .u64 (limb (p 0) 3) :: vas p 1 12).toArray
  rw [h, h0, h1, h2, h3]
  rfl
theorem b_vals {p : Par} (h : p 0 = 0) : ∀ w, (Instr.build 80 #[(1, U (p 1)), (2, U (p 2)), (3, U (p 3)), (4, U (p 4)), (5, U (p 5)), (6, U (p 6)), (7, U (p 7)), (8, U (p 8)), (9, U (p 9)), (10, U (p 10)), (11, U (p 11)), (12, U (p 12))]).run Try.prog w = .ok (VA p) w := by
  rw [← vas_0 h]
  exact bld_arr Try.underlying80 (s := 4) (by kernel_rfl) (z := .agg (List.replicate 52 (Value.int .u64 0)).toArray) (by kernel_rfl) (by kernel_rfl)
/-- The ranges as Go lays them. -/
abbrev IV (lo hi : Nat) : Value := .agg #[.int .u64 (lo : Int), .int .u64 (hi : Int)]
def ivs (m : Nat) : Nat → Nat → List Value
  | _, 0 => []
  | k, n + 1 => .int .u64 (loK m k : Int) :: .int .u64 (hiK k : Int) :: ivs m (k + 1) n
theorem ivs_len (m : Nat) : ∀ n k, (ivs m k n).length = n * 2 := by
  intro n
  induction n with
  | zero => exact fun _ => rfl
  | succ n ih => intro k; rw [ivs]; simp only [List.length_cons, ih]; omega
theorem ivs_at (m : Nat) : ∀ n k j, j < n → ((ivs m k n).drop (j * 2)).take 2 = [.int .u64 (loK m (k + j) : Int), .int .u64 (hiK (k + j) : Int)] := by
  intro n
  induction n with
  | zero => exact fun k j h => absurd h (Nat.not_lt_zero j)
  | succ n ih =>
    intro k j h
    cases j with
    | zero => rw [ivs]; rfl
    | succ j =>
      rw [ivs, show (j + 1) * 2 = j * 2 + 2 by omega]
      show (((ivs m (k + 1) n).drop (j * 2)).take 2) = _
      rw [ih (k + 1) j (by omega), show k + 1 + j = k + (j + 1) by omega]
abbrev IA (m : Nat) : Value := .agg (ivs m 0 13).toArray
theorem b_ivs (m : Nat) : ∀ w, (Instr.build 93 #[(1, .agg #[.int .u64 1, .int .u64 1099511627776]), (2, .agg #[.int .u64 0, .int .u64 1048576]), (3, .agg #[.int .u64 1, .int .u64 1048576]), (4, .agg #[.int .u64 1, .int .u64 18446744073709551615]), (5, .agg #[.int .u64 1, .int .u64 1099511627776]), (6, .agg #[.int .u64 0, .int .u64 18446744073709551615]), (7, .agg #[.int .u64 0, .int .u64 10000]), (8, .agg #[.int .u64 0, .int .u64 18446744073709551615]), (9, .agg #[.int .u64 1, .int .u64 1099511627776]), (10, .agg #[.int .u64 1, .int .u64 1048576]), (11, .agg #[.int .u64 0, .int .u64 1048576]), (12, .agg #[.int .u64 (m : Int), .int .u64 16777216])]).run Try.prog w = .ok (IA m) w :=
  bld_arr Try.underlying93 (s := 2) (by kernel_rfl) (z := .agg (List.replicate 26 (Value.int .u64 0)).toArray) (by kernel_rfl) (by kernel_rfl)
theorem info_iv : ∃ i, Try.prog.info? 92 = some i ∧ i.size = 2 := by
  have h1 : (Try.prog.info? 92).map (fun i => i.size) = some 2 := by kernel_rfl
  cases h : Try.prog.info? 92 with
  | none => rw [h] at h1; cases h1
  | some i => rw [h] at h1; simp at h1; exact ⟨i, rfl, h1⟩
theorem info_u : ∃ i, Try.prog.info? 24 = some i ∧ i.size = 4 := by
  have h1 : (Try.prog.info? 24).map (fun i => i.size) = some 4 := by kernel_rfl
  cases h : Try.prog.info? 24 with
  | none => rw [h] at h1; cases h1
  | some i => rw [h] at h1; simp at h1; exact ⟨i, rfl, h1⟩
theorem info_vals : ∃ i, Try.prog.info? 80 = some i ∧ i.size = 52 := by
  have h1 : (Try.prog.info? 80).map (fun i => i.size) = some 52 := by kernel_rfl
  cases h : Try.prog.info? 80 with
  | none => rw [h] at h1; cases h1
  | some i => rw [h] at h1; simp at h1; exact ⟨i, rfl, h1⟩
/-- A range, a number, taken out of an array. -/
theorem lo_iv {t : TypeId} {L : Facts} (m : Nat) {j : Nat} {z : Int} (hz : z = (j : Int)) (hj : j < 13) : ldOwn Try.prog 92 ⟨t, ivs m 0 13, L⟩ (0 + z.toNat * 2) = some (IV (loK m j) (hiK j)) := by
  obtain ⟨inf, hinf, hs⟩ := info_iv
  subst hz
  have h := ivs_at m 13 0 j hj
  have hl := ivs_len m 13 0
  unfold ldOwn
  simp only [Try.underlying92, hinf, hs]
  rw [Int.toNat_natCast, Nat.zero_add, hl, show Nat.ble (j * 2 + 2) (13 * 2) = true from Nat.ble_eq_true_of_le (by omega), h, Nat.zero_add]
  rfl
theorem lo_u {t : TypeId} {L : Facts} (f : Nat → Nat) (k : Nat) {n j : Nat} {z : Int} (hz : z = (j : Int)) (hj : j < n) : ldOwn Try.prog 24 ⟨t, vas f k n, L⟩ (0 + z.toNat * 4) = some (U (f (k + j))) := by
  obtain ⟨inf, hinf, hs⟩ := info_u
  subst hz
  have h := vas_at f n k j hj
  have hl := vas_len f n k
  unfold ldOwn
  simp only [Try.underlying24, hinf, hs]
  rw [Int.toNat_natCast, Nat.zero_add, hl, show Nat.ble (j * 4 + 4) (n * 4) = true from Nat.ble_eq_true_of_le (by omega), h]
  rfl
theorem lo_vals {t : TypeId} {L : Facts} (f : Nat → Nat) : ldOwn Try.prog 80 ⟨t, vas f 0 13, L⟩ 0 = some (VA f) := by
  obtain ⟨inf, hinf, hs⟩ := info_vals
  unfold ldOwn
  simp only [Try.underlying80, hinf, hs]
  rfl
/-- A number is put into the array. -/
theorem st_u (f : Nat → Nat) (k x : Nat) {n j : Nat} {z : Int} (hz : z = (j : Int)) (hj : j < n) : setRange (vas f k n) (0 + z.toNat * 4) (cU x) = vas (updP f (k + j) x) k n := by
  subst hz
  rw [Int.toNat_natCast, Nat.zero_add, ← vas_set f x n k j hj]
  unfold setRange
  rw [List.append_assoc]
  rfl
theorem in_u (f : Nat → Nat) (k : Nat) {n j : Nat} {z : Int} (hz : z = (j : Int)) (hj : j < n) : 0 + z.toNat * 4 + 4 ≤ (vas f k n).length := by
  subst hz
  rw [Int.toNat_natCast, vas_len]
  omega

/-! Contracts. -/
theorem d_tou (a : Nat) (ha : a < B256) : Det Try.prog 70 [U a] (.tuple #[.int .u64 ((w64 a : Nat) : Int), .bool (decide (a < 18446744073709551616))]) := by
  by_cases h : a < 18446744073709551616
  · rw [w64, if_pos h, decide_eq_true h]
    exact .of_calls ⟨_, Try.func70, by kernel_rfl, rfl⟩ fun w => uint64_yes a ha h w
  · rw [w64, if_neg h, decide_eq_false h]
    exact .of_calls ⟨_, Try.func70, by kernel_rfl, rfl⟩ fun w => uint64_no a ha h w
theorem not_t {b : Bool} (h : (!b) = true) : b = false := by simpa using h
theorem not_f {b : Bool} (h : (!b) = false) : b = true := by simpa using h
theorem in_a {n lo hi : Nat} (h : ¬ n < 18446744073709551616) : (Value.bool false) = .bool (inR n lo hi) := by rw [inR, decide_eq_false h]; rfl
theorem in_b {n lo hi : Nat} (h : ¬ lo ≤ n) : (Value.bool false) = .bool (inR n lo hi) := by rw [inR, decide_eq_false h]; simp
theorem in_c {n lo hi : Nat} (h : n < 18446744073709551616) (h1 : lo ≤ n) : Value.bool (decide (((w64 n : Nat) : Int) ≤ (hi : Int))) = .bool (inR n lo hi) := by
  rw [inR, decide_eq_true h, decide_eq_true h1, w64, if_pos h]
  simp [Int.ofNat_le]
theorem in_d {n lo hi : Nat} (h : n < 18446744073709551616) (h1 : lo ≤ n) : Value.bool (decide ((n : Int) ≤ (hi : Int))) = .bool (inR n lo hi) := by
  rw [inR, decide_eq_true h, decide_eq_true h1]
  simp [Int.ofNat_le]
theorem ge_w {n lo : Nat} (h : n < 18446744073709551616) (h1 : lo ≤ n) : decide (((w64 n : Nat) : Int) ≥ (lo : Int)) = true := by rw [w64, if_pos h]; apply decide_eq_true; omega
theorem nge_w {n lo : Nat} (h : n < 18446744073709551616) (h1 : ¬ lo ≤ n) : decide (((w64 n : Nat) : Int) ≥ (lo : Int)) = false := by rw [w64, if_pos h]; apply decide_eq_false; omega
theorem ge_n {n lo : Nat} (h1 : lo ≤ n) : decide ((n : Int) ≥ (lo : Int)) = true := by apply decide_eq_true; omega
theorem nge_n {n lo : Nat} (h1 : ¬ lo ≤ n) : decide ((n : Int) ≥ (lo : Int)) = false := by apply decide_eq_false; omega
/-- The search for the first key outside its range: n more from key k on. -/
abbrev FX (p : Par) : Type := { k : Nat // 1 ≤ k ∧ k ≤ 13 ∧ fi p = fiN (okK p) (13 - k) k }
def fx0 (p : Par) : FX p := ⟨1, by decide, by decide, rfl⟩
theorem k12 {k : Nat} (h : decide ((k : Int) ≤ 12) = true) : k ≤ 12 := by have := of_decide_eq_true h; omega
theorem fx_at {p : Par} (x : FX p) (h : decide ((x.1 : Int) ≤ 12) = true) : fi p = fiN (okK p) (12 - x.1 + 1) x.1 := by
  have h1 := k12 h
  have := x.2.2.2
  rwa [show 13 - x.1 = 12 - x.1 + 1 by omega] at this
theorem fx_nx {p : Par} (x : FX p) (h : decide ((x.1 : Int) ≤ 12) = true) (g : (!inR (p x.1) (loK (w64 (p 11)) x.1) (hiK x.1)) = false) : 1 ≤ x.1 + 1 ∧ x.1 + 1 ≤ 13 ∧ fi p = fiN (okK p) (13 - (x.1 + 1)) (x.1 + 1) := by
  have h1 := k12 h
  refine ⟨by omega, by omega, ?_⟩
  have e := fi_step (fx_at x h) (not_f g)
  rwa [show 12 - x.1 = 13 - (x.1 + 1) by omega] at e
def fxN {p : Par} (x : FX p) (h : decide ((x.1 : Int) ≤ 12) = true) (g : (!inR (p x.1) (loK (w64 (p 11)) x.1) (hiK x.1)) = false) : FX p := ⟨x.1 + 1, fx_nx x h g⟩
theorem fx_no {p : Par} (x : FX p) (h : decide ((x.1 : Int) ≤ 12) = true) (g : (!inR (p x.1) (loK (w64 (p 11)) x.1) (hiK x.1)) = true) : Value.int .i64 (x.1 : Int) = .int .i64 ((fi p : Nat) : Int) := congrArg (fun n : Nat => Value.int .i64 (n : Int)) (fi_stop (fx_at x h) (not_t g)).symm
theorem fx_z {p : Par} (x : FX p) (h : decide ((x.1 : Int) ≤ 12) = false) : Value.int .i64 0 = .int .i64 ((fi p : Nat) : Int) := by
  have h1 := of_decide_eq_false h
  have h2 := x.2.2.1
  have h3 := x.2.2.2
  have h4 : fi p = 0 := by
    rw [show 13 - x.1 = 0 by omega] at h3
    exact h3
  rw [h4]
  rfl
theorem limb_w {n : Nat} (h : n < 18446744073709551616) : Value.int .u64 (limb n 0) = .int .u64 (n : Int) := by rw [limb_self h]
theorem isK_t {k : Int} (h : isK k) : decide (isK k) = true := decide_eq_true h
theorem ke_1 {k : Int} (h : ¬ 1 ≤ k) : Value.bool false = .bool (decide (isK k)) := by rw [decide_eq_false fun e => h e.1]
theorem ke_2 {k : Int} (h : 1 ≤ k) : Value.bool (decide (k ≤ 12)) = .bool (decide (isK k)) := by
  have : isK k ↔ k ≤ 12 := ⟨fun e => e.2, fun e => ⟨h, e⟩⟩
  simp only [this]
/-- What Get gives. -/
abbrev getV (p : Par) (k : Int) : Value := .tuple #[U (if isK k then p k.toNat else 0), .int .i64 (if isK k then 0 else 17)]
abbrev setVV (p : Par) (k : Int) (n : Nat) : Value := .tuple #[PV (setR p k n), .int .i64 (setE p k n)]
theorem get_n {p : Par} {k : Int} (h : ¬ isK k) : Value.tuple #[.agg #[.int .u64 0, .int .u64 0, .int .u64 0, .int .u64 0], .int .i64 17] = getV p k := by
  obtain ⟨h0, h1, h2, h3⟩ := limb_zero
  simp only [getV, if_neg h]
  rw [U, h0, h1, h2, h3]
theorem get_y {p : Par} {k : Int} (h : isK k) : Value.tuple #[U (p k.toNat), .int .i64 0] = getV p k := by
  simp only [getV, if_pos h]
theorem PV_0 : Value.agg (List.replicate 21 (Value.int .u64 0)).toArray = PV zerP := by
  obtain ⟨h0, h1, h2, h3⟩ := limb_zero
  show _ = Value.agg #[.int .u64 ((0 : Nat) : Int), .int .u64 ((0 : Nat) : Int), .int .u64 ((0 : Nat) : Int), .int .u64 (limb 0 0), .int .u64 (limb 0 1), .int .u64 (limb 0 2), .int .u64 (limb 0 3), .int .u64 ((0 : Nat) : Int), .int .u64 (limb 0 0), .int .u64 (limb 0 1), .int .u64 (limb 0 2), .int .u64 (limb 0 3), .int .u64 ((0 : Nat) : Int), .int .u64 (limb 0 0), .int .u64 (limb 0 1), .int .u64 (limb 0 2), .int .u64 (limb 0 3), .int .u64 ((0 : Nat) : Int), .int .u64 ((0 : Nat) : Int), .int .u64 ((0 : Nat) : Int), .int .u64 ((0 : Nat) : Int)]
  rw [h0, h1, h2, h3]
  rfl
section
variable {p : Par} {k : Int} {n : Nat}
theorem set_1 (h : ¬ isK k) : Value.tuple #[.agg (List.replicate 21 (Value.int .u64 0)).toArray, .int .i64 17] = setVV p k n := by
  rw [PV_0, setVV, setR, setE, if_neg h, if_neg fun e => h e.1]
theorem set_2 (h : isK k) (h1 : ¬ fi p = 0) : Value.tuple #[.agg (List.replicate 21 (Value.int .u64 0)).toArray, .int .i64 15] = setVV p k n := by
  rw [PV_0, setVV, setR, setE, if_pos h, if_neg h1, if_neg fun e => h1 e.2.1]
theorem set_3 (h : isK k) (h1 : fi p = 0) (h2 : ¬ fi (updP p k.toNat n) = 0) : Value.tuple #[.agg (List.replicate 21 (Value.int .u64 0)).toArray, .int .i64 15] = setVV p k n := by
  rw [PV_0, setVV, setR, setE, if_pos h, if_pos h1, if_neg h2, if_neg fun e => h2 e.2.2]
theorem set_4 (h : isK k) (h1 : fi p = 0) (h2 : fi (updP p k.toNat n) = 0) : Value.tuple #[PV (updP p k.toNat n), .int .i64 0] = setVV p k n := by
  rw [setVV, setR, setE, if_pos h, if_pos h1, if_pos h2, if_pos ⟨h, h1, h2⟩]
theorem kk {k : Int} (h : isK k) : k = (k.toNat : Int) := by obtain ⟨h1, h2⟩ := h; omega
theorem kk13 {k : Int} (h : isK k) : k.toNat < 13 := by obtain ⟨h1, h2⟩ := h; omega
theorem nfi {x : Nat} (h : ((x : Int) != 0) = true) : ¬ x = 0 := by simpa using h
theorem yfi {x : Nat} (h : ((x : Int) != 0) = false) : x = 0 := by simpa using h
theorem notK {k : Int} (h : (!decide (isK k)) = true) : ¬ isK k := by simpa using h
theorem yesK {k : Int} (h : (!decide (isK k)) = false) : isK k := by simpa using h
theorem b13 (h : isK k) : (0 : Int) ≤ k ∧ k < 13 := by obtain ⟨h1, h2⟩ := h; omega
theorem st_k (h : isK k) : setRange (vas p 0 13) (0 + k.toNat * 4) (cU n) = vas (updP p k.toNat n) 0 13 := by
  have := st_u p 0 n (n := 13) (kk h) (kk13 h)
  rwa [Nat.zero_add k.toNat] at this
theorem lo_k (h : isK k) {t : TypeId} {L : Facts} : ldOwn Try.prog 80 ⟨t, setRange (vas p 0 13) (0 + k.toNat * 4) (cU n), L⟩ 0 = some (VA (updP p k.toNat n)) := by rw [st_k h]; exact lo_vals _
theorem ix_k (h : isK k) {t : TypeId} {L : Facts} : ldOwn Try.prog 24 ⟨t, (vas p 0 13).toArray.toList, L⟩ (k.toNat * (elSize Try.prog 24)) = some (U (p k.toNat)) := by
  have e : elSize Try.prog 24 = 4 := by kernel_rfl
  have := lo_u (t := t) (L := L) p 0 (n := 13) (kk h) (kk13 h)
  rw [e]
  rwa [Nat.zero_add, Nat.zero_add] at this
end
theorem par_w {p : Par} (h : fi p = 0) {k : Nat} (h1 : 1 ≤ k) (h2 : k ≤ 12) : p k < 18446744073709551616 := okK_w ((fi_0 p).1 h k h1 h2)
theorem good_params_FirstInvalid : Good Try.prog 50 Try.f50 1 := ⟨Try.func50, by kernel_rfl, by kernel_rfl⟩
theorem good_params_Valid : Good Try.prog 36 Try.f36 1 := ⟨Try.func36, by kernel_rfl, by kernel_rfl⟩
theorem good_params_Genesis : Good Try.prog 13 Try.f13 0 := ⟨Try.func13, by kernel_rfl, by kernel_rfl⟩
theorem good_params_firstInvalid : Good Try.prog 58 Try.f58 1 := ⟨Try.func58, by kernel_rfl, by kernel_rfl⟩
theorem good_params_ranges : Good Try.prog 64 Try.f64 1 := ⟨Try.func64, by kernel_rfl, by kernel_rfl⟩
theorem good_params_valuesOf : Good Try.prog 59 Try.f59 1 := ⟨Try.func59, by kernel_rfl, by kernel_rfl⟩
theorem good_params_interval_contains : Good Try.prog 65 Try.f65 2 := ⟨Try.func65, by kernel_rfl, by kernel_rfl⟩
theorem p_in (lo hi n : Nat) (hn : n < B256) : Det Try.prog 65 [IV lo hi, U n] (.bool (inR n lo hi)) :=
  det_of_vc Try.mixed good_params_interval_contains (O := [.reg [(1, det (.tuple #[.int .u64 ((w64 n : Nat) : Int), .bool (decide (n < 18446744073709551616))]))], .alt [(¬ n < 18446744073709551616, [(2, .no), (3, .no), (4, .no), (5, .no), (6, .no), (8, .no), (9, .no), (10, .no), (11, .no), (12, .no)], []), (¬ lo ≤ n, [(2, .yes), (3, .yes), (4, .yes), (5, .yes), (6, .yes), (8, .no), (9, .no), (10, .no), (11, .no), (12, .no)], []), (True, [(2, .yes), (3, .yes), (4, .yes), (5, .yes), (6, .yes), (8, .yes), (9, .yes), (10, .yes), (11, .yes), (12, .yes)], [])]]) fun _ => ⟨d_tou n hn _, fun _ => ⟨fun h => ⟨gtf (decide_eq_false h), ⟨gtf (decide_eq_false h), ⟨gtf (decide_eq_false h), ⟨gtf (decide_eq_false h), ⟨(decide_eq_false h), ⟨gtf rfl, ⟨gtf rfl, ⟨gtf rfl, ⟨gtf rfl, ⟨rfl, ⟨(), in_a h, nofun⟩⟩⟩⟩⟩⟩⟩⟩⟩⟩⟩, fun h => ⟨fun h1 => ⟨gtt (decide_eq_true (Decidable.not_not.1 h)), ⟨gtt (decide_eq_true (Decidable.not_not.1 h)), ⟨gtt (decide_eq_true (Decidable.not_not.1 h)), ⟨gtt (decide_eq_true (Decidable.not_not.1 h)), ⟨(decide_eq_true (Decidable.not_not.1 h)), ⟨gtf (nge_w (Decidable.not_not.1 h) h1), ⟨gtf (nge_w (Decidable.not_not.1 h) h1), ⟨gtf (nge_w (Decidable.not_not.1 h) h1), ⟨gtf (nge_w (Decidable.not_not.1 h) h1), ⟨(nge_w (Decidable.not_not.1 h) h1), ⟨(), in_b h1, nofun⟩⟩⟩⟩⟩⟩⟩⟩⟩⟩⟩, fun h1 => ⟨fun _ => ⟨gtt (decide_eq_true (Decidable.not_not.1 h)), ⟨gtt (decide_eq_true (Decidable.not_not.1 h)), ⟨gtt (decide_eq_true (Decidable.not_not.1 h)), ⟨gtt (decide_eq_true (Decidable.not_not.1 h)), ⟨(decide_eq_true (Decidable.not_not.1 h)), ⟨gtt (ge_w (Decidable.not_not.1 h) (Decidable.not_not.1 h1)), ⟨gtt (ge_w (Decidable.not_not.1 h) (Decidable.not_not.1 h1)), ⟨gtt (ge_w (Decidable.not_not.1 h) (Decidable.not_not.1 h1)), ⟨gtt (ge_w (Decidable.not_not.1 h) (Decidable.not_not.1 h1)), ⟨(ge_w (Decidable.not_not.1 h) (Decidable.not_not.1 h1)), ⟨(), in_c (Decidable.not_not.1 h) (Decidable.not_not.1 h1), nofun⟩⟩⟩⟩⟩⟩⟩⟩⟩⟩⟩, fun h => (h trivial).elim⟩⟩⟩⟩
theorem p_vals (p : Par) (hp : PWf p) : Det Try.prog 59 [PV p] (VA p) :=
  det_of_vc Try.mixed good_params_valuesOf (O := [.reg [(2, det (U (p 1))), (5, det (U (p 2))), (8, det (U (p 3))), (13, det (U (p 5))), (18, det (U (p 7))), (23, det (U (p 9))), (26, det (U (p 10))), (29, det (U (p 11))), (32, det (U (p 12))), (33, .ld (VA p))]]) fun _ => ⟨d_u64 (p 1) (hp.w 1 (by decide) (by decide) (by decide)) _, fun _ => ⟨d_u64 (p 2) (hp.w 2 (by decide) (by decide) (by decide)) _, fun _ => ⟨d_u64 (p 3) (hp.w 3 (by decide) (by decide) (by decide)) _, fun _ => ⟨d_u64 (p 5) (hp.w 5 (by decide) (by decide) (by decide)) _, fun _ => ⟨d_u64 (p 7) (hp.w 7 (by decide) (by decide) (by decide)) _, fun _ => ⟨d_u64 (p 9) (hp.w 9 (by decide) (by decide) (by decide)) _, fun _ => ⟨d_u64 (p 10) (hp.w 10 (by decide) (by decide) (by decide)) _, fun _ => ⟨d_u64 (p 11) (hp.w 11 (by decide) (by decide) (by decide)) _, fun _ => ⟨d_u64 (p 12) (hp.w 12 (by decide) (by decide) (by decide)) _, fun _ => ⟨ld_b12 (b_vals hp.z) _, ⟨(), rfl, nofun⟩⟩⟩⟩⟩⟩⟩⟩⟩⟩⟩
theorem p_rng (p : Par) (hb : p 11 < B256) : Det Try.prog 64 [VA p] (IA (w64 (p 11))) :=
  det_of_vc Try.mixed good_params_ranges (O := [.reg [(2, det (.tuple #[.int .u64 ((w64 (p 11) : Nat) : Int), .bool (decide (p 11 < 18446744073709551616))]))], .opt 2 [(13, .ld (IA (w64 (p 11))))]]) fun _ => ⟨by decide, ⟨d_tou (p 11) hb _, fun _ => ⟨ld_b12 (b_ivs _) _, ⟨(), rfl, nofun⟩⟩⟩⟩
theorem p_fi (p : Par) (hb : ∀ k, p k < B256) : Det Try.prog 58 [VA p] (.int .i64 ((fi p : Nat) : Int)) :=
  det_of_vc Try.mixed good_params_firstInvalid (O := [.reg [(1, det (IA (w64 (p 11))))], .inv (FX p) (fun x : FX p => ⟨20, [(1, .p 0 0), (3, .p 4 0), (4, .v (.int .i64 ((x.1 : Nat) : Int)) [])], [(0, ⟨80, vas p 0 13, []⟩), (4, ⟨93, ivs (w64 (p 11)) 0 13, []⟩)], 90⟩) (fun x => 13 - x.1) (fun x => [.both [.reg [(2, .ld (IV (loK (w64 (p 11)) x.1) (hiK x.1))), (5, .ld (U (p x.1))), (6, det (.bool (inR (p x.1) (loK (w64 (p 11)) x.1) (hiK x.1))))], .both [] []] []])]) fun _ => ⟨p_rng p (hb 11) _, fun _ => ⟨⟨fx0 p, rfl, ⟨⟨rfl, rfl, rfl⟩, ⟨rfl, rfl, rfl⟩, ⟨rfl, nofun⟩, trivial⟩, ⟨⟨rfl, rfl, nofun⟩, ⟨rfl, rfl, nofun⟩, trivial⟩⟩, fun x => ⟨fun h => ⟨⟨Int.natCast_nonneg _, by have := k12 h; omega⟩, ⟨lo_iv _ rfl (by have := k12 h; omega), ⟨⟨Int.natCast_nonneg _, by have := k12 h; omega⟩, ⟨(by have := lo_u (t := 80) (L := []) p 0 (n := 13) (j := x.1) rfl (by have := k12 h; omega); rwa [Nat.zero_add x.1] at this), ⟨p_in _ _ _ (hb _) _, fun _ => ⟨fun g => ⟨(), fx_no x h g, nofun⟩, fun g => ⟨fxN x h g, by have := k12 h; show 13 - (x.1 + 1) < 13 - x.1; omega, rfl, ⟨⟨rfl, rfl, rfl⟩, ⟨rfl, rfl, rfl⟩, ⟨congrArg _ (inc1 (by have := k12 h; omega)), nofun⟩, trivial⟩, ⟨⟨rfl, rfl, nofun⟩, ⟨rfl, rfl, nofun⟩, trivial⟩⟩⟩⟩⟩⟩⟩⟩, fun h => ⟨(), fx_z x h, nofun⟩⟩⟩⟩
theorem p_first (p : Par) (hp : PWf p) : Det Try.prog 50 [PV p] (.int .i64 ((fi p : Nat) : Int)) :=
  det_of_vc Try.mixed good_params_FirstInvalid (O := [.reg [(1, det (VA p)), (2, det (.int .i64 ((fi p : Nat) : Int)))]]) fun _ => ⟨p_vals p hp _, fun _ => ⟨p_fi p hp.b _, fun _ => ⟨(), rfl, nofun⟩⟩⟩
theorem p_valid (p : Par) (hp : PWf p) : Det Try.prog 36 [PV p] (.bool (((fi p : Nat) : Int) == 0)) :=
  det_of_vc Try.mixed good_params_Valid (O := [.reg [(1, det (.int .i64 ((fi p : Nat) : Int)))]]) fun _ => ⟨p_first p hp _, fun _ => ⟨(), rfl, nofun⟩⟩
theorem p_gen  : Det Try.prog 13 [] (PV gen) :=
  det_of_vc Try.mixed good_params_Genesis (O := [.reg [(0, det (U (gen 4))), (1, det (U (gen 6))), (2, det (U (gen 8))), (3, .ld (PV gen))]]) fun _ => ⟨d_u64 (gen 4) (gen_w 4) _, fun _ => ⟨d_u64 (gen 6) (gen_w 6) _, fun _ => ⟨d_u64 (gen 8) (gen_w 8) _, fun _ => ⟨ld_b12 (b_par gen) _, ⟨(), rfl, nofun⟩⟩⟩⟩⟩
theorem upd_b {p : Par} (hp : PWf p) {j n : Nat} (hn : n < B256) : ∀ k, updP p j n k < B256 := fun k => by
  by_cases e : k = j
  · subst e; rw [updP_at]; exact hn
  · rw [updP_ne _ _ e]; exact hp.b k
end Go.Proofs.Ytlaapbenpjopiaa

