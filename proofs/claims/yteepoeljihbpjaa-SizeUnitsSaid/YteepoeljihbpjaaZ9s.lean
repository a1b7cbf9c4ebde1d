/- Package lz over this translation: the hash, the search, the index. No conditions. -/
import Derived.Test.YteepoeljihbpjaaZ9r
namespace Go.Proofs.Yteepoeljihbpjaa
open Go.RowKit Sx
set_option maxRecDepth 100000

/-! The index as memory: 2048 heads, then 1024 places of the window. -/
def mapR (n : Nat) (f : Nat → Value) : List Value := (List.range n).map f
theorem mapR_len (n : Nat) (f : Nat → Value) : (mapR n f).length = n := by simp [mapR]
theorem mapR_get {n : Nat} (f : Nat → Value) {i : Nat} (h : i < n) : (mapR n f)[i]? = some (f i) := by simp [mapR, h]
theorem mapR_set {n : Nat} (f g : Nat → Value) {i : Nat} (h : i < n) (hg : ∀ j, j ≠ i → g j = f j) : setRange (mapR n f) i [g i] = mapR n g := by
  unfold setRange
  have hl := mapR_len n f
  apply List.ext_getElem?
  intro j
  have e1 : ((mapR n f).take i).length = i := by rw [List.length_take, hl]; omega
  rcases Nat.lt_trichotomy j i with h1 | h1 | h1
  · rw [List.append_assoc, List.getElem?_append_left (by omega), List.getElem?_take_of_lt h1, mapR_get f (by omega), mapR_get g (by omega), hg j (by omega)]
  · subst h1
    rw [List.append_assoc, List.getElem?_append_right (by omega), e1, Nat.sub_self, mapR_get g h]
    rfl
  · have e2 : ((mapR n f).take i ++ [g i]).length = i + 1 := by rw [List.length_append, e1]; rfl
    rw [List.getElem?_append_right (by omega), e2, List.getElem?_drop, show i + [g i].length + (j - (i + 1)) = j by simp; omega]
    by_cases h2 : j < n
    · rw [mapR_get f h2, mapR_get g h2, hg j (by omega)]
    · rw [List.getElem?_eq_none (by omega), List.getElem?_eq_none (by rw [mapR_len]; omega)]
theorem setRange_l (a b : List Value) (i : Nat) (v : Value) (h : i < a.length) : setRange (a ++ b) i [v] = setRange a i [v] ++ b := by
  unfold setRange
  rw [List.take_append_of_le_length (by omega), List.drop_append_of_le_length (by simp; omega)]
  simp
theorem setRange_r (a b : List Value) (i k : Nat) (v : Value) (hk : k = a.length + i) : setRange (a ++ b) k [v] = a ++ setRange b i [v] := by
  subst hk
  unfold setRange
  rw [List.take_append, List.drop_append, List.take_of_length_le (by omega), List.drop_of_length_le (by simp; omega), Nat.add_sub_cancel_left, show a.length + i + [v].length - a.length = i + [v].length by simp; omega]
  simp
abbrev nv (n : Nat) : Value := .int .i64 (n : Int)
def icells (l : Bs) (c : Nat) : List Value := mapR 2048 (fun h => nv (prevH l h c)) ++ mapR 1024 (fun r => nv (bef l r c))
/-- Between the two stores of 'add'. -/
def icm (l : Bs) (c : Nat) : List Value := mapR 2048 (fun h => nv (prevH l h c)) ++ mapR 1024 (fun r => nv (bef l r (c + 1)))
theorem ic_head (l : Bs) (c : Nat) {h : Nat} (hh : h < 2048) : (icells l c)[h]? = some (nv (prevH l h c)) := by
  unfold icells; rw [List.getElem?_append_left (by rw [mapR_len]; exact hh), mapR_get _ hh]
theorem ic_bef (l : Bs) (c : Nat) {r : Nat} (hr : r < 1024) : (icells l c)[2048 + r]? = some (nv (bef l r c)) := by
  unfold icells; rw [List.getElem?_append_right (by rw [mapR_len]; omega), mapR_len, Nat.add_sub_cancel_left, mapR_get _ hr]
theorem ic_len (l : Bs) (c : Nat) : (icells l c).length = 3072 := by unfold icells; rw [List.length_append, mapR_len, mapR_len]
theorem icm_len (l : Bs) (c : Nat) : (icm l c).length = 3072 := by unfold icm; rw [List.length_append, mapR_len, mapR_len]
theorem ic_set1 (l : Bs) (c : Nat) : setRange (icells l c) (2048 + c % 1024) [nv (prevH l (hsh l c) c)] = icm l c := by
  unfold icells icm
  rw [setRange_r _ _ (c % 1024) _ _ (by rw [mapR_len])]
  congr 1
  have h := mapR_set (n := 1024) (fun r => nv (bef l r c)) (fun r => nv (bef l r (c + 1))) (i := c % 1024) (Nat.mod_lt _ (by decide)) (fun j hj => by show nv (bef l j (c + 1)) = nv (bef l j c); rw [bef, if_neg (Ne.symm hj)])
  have e : bef l (c % 1024) (c + 1) = prevH l (hsh l c) c := by rw [bef, if_pos rfl]
  rw [← e]
  exact h
theorem ic_set2 (l : Bs) (c : Nat) : setRange (icm l c) (hsh l c) [nv (c + 1)] = icells l (c + 1) := by
  unfold icells icm
  rw [setRange_l _ _ _ _ (by rw [mapR_len]; exact hsh_lt l c)]
  congr 1
  have h := mapR_set (n := 2048) (fun h => nv (prevH l h c)) (fun h => nv (prevH l h (c + 1))) (i := hsh l c) (hsh_lt l c) (fun j hj => by show nv (prevH l j (c + 1)) = nv (prevH l j c); rw [prevH, if_neg (Ne.symm hj)])
  have e : prevH l (hsh l c) (c + 1) = c + 1 := by rw [prevH, if_pos rfl]
  conv => lhs; rw [← e]
  exact h
abbrev ixF (m : Nat) (c : List Value) : Facts := [(m, .cells c.toArray 47)]
theorem ic_zero (l : Bs) : List.replicate 3072 (Value.int .i64 0) = icells l 0 := by
  unfold icells
  have e1 : (fun h => nv (prevH l h 0)) = fun _ => Value.int .i64 0 := rfl
  have e2 : (fun r => nv (bef l r 0)) = fun _ => Value.int .i64 0 := rfl
  rw [e1, e2]
  unfold mapR
  rw [List.map_const', List.map_const', List.length_range, List.length_range, List.replicate_append_replicate]
section
variable {ρ : Operand → Value} {dst : Option Tmp} {type : TypeId} {pos : String} {after : Array Edge} {guard : Option (Nat × Bool)} {A : Facts} {X Y : Operand}
theorem ix_f0 (m : Nat) (A : Facts) (hx : ρ X = .pointer (some ⟨m, 0, none⟩) := by rfl) : ∀ w, Sx.Holds w A → (execOp ρ ⟨dst, .fieldAddr 47 X 0, type, pos, after, guard⟩).run Try.prog w = .ok (.value (.pointer (some ⟨m, 0, none⟩))) w := by
  intro w _
  have h : pureRun Try.prog (execOp (fun _ => .pointer (some ⟨m, 0, none⟩)) ⟨dst, .fieldAddr 47 X 0, type, pos, after, guard⟩) = some (.value (.pointer (some ⟨m, 0, none⟩))) := by kernel_rfl
  have e : execOp ρ ⟨dst, .fieldAddr 47 X 0, type, pos, after, guard⟩ = execOp (fun _ => .pointer (some ⟨m, 0, none⟩)) ⟨dst, .fieldAddr 47 X 0, type, pos, after, guard⟩ := by
    simp only [execOp, hx]
  rw [e]
  exact pureRun_sound h w
theorem ix_f1 (m : Nat) (A : Facts) (hx : ρ X = .pointer (some ⟨m, 0, none⟩) := by rfl) : ∀ w, Sx.Holds w A → (execOp ρ ⟨dst, .fieldAddr 47 X 1, type, pos, after, guard⟩).run Try.prog w = .ok (.value (.pointer (some ⟨m, 2048, none⟩))) w := by
  intro w _
  have h : pureRun Try.prog (execOp (fun _ => .pointer (some ⟨m, 0, none⟩)) ⟨dst, .fieldAddr 47 X 1, type, pos, after, guard⟩) = some (.value (.pointer (some ⟨m, 2048, none⟩))) := by kernel_rfl
  have e : execOp ρ ⟨dst, .fieldAddr 47 X 1, type, pos, after, guard⟩ = execOp (fun _ => .pointer (some ⟨m, 0, none⟩)) ⟨dst, .fieldAddr 47 X 1, type, pos, after, guard⟩ := by
    simp only [execOp, hx]
  rw [e]
  exact pureRun_sound h w
theorem info_i : ∃ i, Try.prog.info? 3 = some i ∧ i.size = 1 := by
  have h1 : (Try.prog.info? 3).map (fun i => i.size) = some 1 := by kernel_rfl
  cases h : Try.prog.info? 3 with
  | none => rw [h] at h1; cases h1
  | some i => rw [h] at h1; simp at h1; exact ⟨i, rfl, h1⟩
theorem ix_a0 (m : Nat) {k : IntKind} {j : Int} (d : Nat) (ej : j = (d : Int)) (h : d < 2048) (A : Facts) (hx : ρ X = .pointer (some ⟨m, 0, none⟩) := by rfl) (hy : ρ Y = .int k j := by rfl) : ∀ w, Sx.Holds w A → (execOp ρ ⟨dst, .indexAddr 44 X Y, type, pos, after, guard⟩).run Try.prog w = .ok (.value (.pointer (some ⟨m, d, none⟩))) w := by
  intro w _
  subst ej
  obtain ⟨inf, hinf, hs⟩ := info_i
  simp [execOp, Instr.indexAt, run_underlying Try.underlying44, hx, hy, Instr.sureAddr, asIntOf, h, run_size hinf, add_none, hs]
theorem ix_a1 (m : Nat) {k : IntKind} {j : Int} (d : Nat) (ej : j = (d : Int)) (h : d < 1024) (A : Facts) (hx : ρ X = .pointer (some ⟨m, 2048, none⟩) := by rfl) (hy : ρ Y = .int k j := by rfl) : ∀ w, Sx.Holds w A → (execOp ρ ⟨dst, .indexAddr 45 X Y, type, pos, after, guard⟩).run Try.prog w = .ok (.value (.pointer (some ⟨m, 2048 + d, none⟩))) w := by
  intro w _
  subst ej
  obtain ⟨inf, hinf, hs⟩ := info_i
  simp [execOp, Instr.indexAt, run_underlying Try.underlying45, hx, hy, Instr.sureAddr, asIntOf, h, run_size hinf, add_none, hs]
/-- A number of the index is loaded. -/
theorem rd_ic {m k : Nat} {c : List Value} {v : Value} (h : c[k]? = some v) (hx : ρ X = .pointer (some ⟨m, k, none⟩) := by rfl) : ReadsOp Try.prog (execOp ρ ⟨dst, .load 3 X, type, pos, after, guard⟩) A (ixF m c) Unit (fun _ => v) (fun _ => []) := by
  intro w hA hF hap
  have h1 := hF _ (List.mem_singleton.2 rfl)
  simp only at h1
  have hc : w.cell? ⟨m, k, none⟩ = some v := by
    simp only [World.cell?, h1]
    simpa using h
  have hrun : (execOp ρ ⟨dst, .load 3 X, type, pos, after, guard⟩).run Try.prog w = .ok (.value v) w := by
    simp [execOp, Instr.loadAt, hx, Instr.sureAddr, loadVar, Try.isAgg3, run_load, hc]
  unfold OpRun
  rw [hrun]
  exact ⟨(), rfl, fun _ h => (by cases h), fun _ h => (by cases h), .refl _ _⟩
/-- A number of the index is stored. -/
theorem st_ic {m k n : Nat} {c c' : List Value} (hk : k < c.length) (e : setRange c k [nv n] = c') (hx : ρ X = .pointer (some ⟨m, k, none⟩) := by rfl) (hy : ρ Y = nv n := by rfl) : GivesT Try.prog (execOp ρ ⟨dst, .store 3 X Y, type, pos, after, guard⟩) A (fun F => F = ixF m c) Unit (fun _ => undef) (fun _ => []) (fun _ F => F = ixF m c') := by
  obtain ⟨inf, hinf, hs⟩ := info_i
  subst e
  exact store_thing (P := Try.prog) (F0 := ixF m c) (m := m) (off := k) (c := c) (e := 47) (vs := [nv n]) hinf hx hy rfl (by rw [hs]; rfl) (fun u hu => by obtain rfl := List.mem_singleton.1 hu; rfl) (by rw [hs]; omega) (List.mem_singleton.2 rfl) (fun z hz => .inl (List.mem_singleton.1 hz))
theorem ld_u8_32n (b : UInt8) (A : Facts) (hx : ρ X = .int .u8 (b.toNat : Int) := by rfl) :
    ∀ w, Sx.Holds w A → (execOp ρ ⟨dst, .convert 5 65 X, type, pos, after, guard⟩).run Try.prog w = .ok (.value (.int .u32 (b.toNat : Int))) w := by
  intro w _
  have hb : b.toNat < 256 := b.toNat_lt
  have hw : IntKind.u32.wrap (b.toNat : Int) = (b.toNat : Int) := by simp [IntKind.wrap, IntKind.bits, IntKind.signed]; omega
  have e : execOp ρ ⟨dst, .convert 5 65 X, type, pos, after, guard⟩ = (do let v ← convert 5 65 (ρ X); pure (.value v)) := rfl
  rw [e, hx]
  simp [convert, run_underlying Try.underlying5, run_underlying Try.underlying65, Conv.intToInt, hw]
theorem u32_nat {n : Nat} (h : n < 4294967296) : IntKind.u32.wrap (n : Int) = (n : Int) := by simp [IntKind.wrap, IntKind.bits, IntKind.signed]; omega
theorem shl8_32 {a : Nat} (h : a < 16777216) : IntKind.u32.wrap ((a : Int) * 2 ^ (min (8 : Int).toNat IntKind.u32.bits)) = ((a * 256 : Nat) : Int) := by
  have e : (2 : Int) ^ (min (8 : Int).toNat IntKind.u32.bits) = 256 := by decide
  rw [e, show ((a : Int) * 256) = ((a * 256 : Nat) : Int) by omega, u32_nat (by omega)]
theorem ld_or8 {a : Nat} (b : UInt8) (h : a < 16777216) (A : Facts) (hx : ρ X = .int .u32 (IntKind.u32.wrap ((a : Int) * 2 ^ (min (8 : Int).toNat IntKind.u32.bits))) := by rfl) (hy : ρ Y = .int .u32 (b.toNat : Int) := by rfl) :
    ∀ w, Sx.Holds w A → (execOp ρ ⟨dst, .binOp .or 65 X Y 65, type, pos, after, guard⟩).run Try.prog w = .ok (.value (.int .u32 ((a * 256 + b.toNat : Nat) : Int))) w := by
  intro w _
  have hb : b.toNat < 256 := b.toNat_lt
  have e : execOp ρ ⟨dst, .binOp .or 65 X Y 65, type, pos, after, guard⟩ = (do let v ← binOp .or 65 (ρ X) (ρ Y); pure (.value v)) := rfl
  rw [e, hx, hy, shl8_32 h]
  have hr : binOp .or 65 (.int .u32 ((a * 256 : Nat) : Int)) (.int .u32 (b.toNat : Int)) = Op.intBits .or .u32 ((a * 256 : Nat) : Int) (b.toNat : Int) := rfl
  have hor : a * 256 ||| b.toNat = a * 256 + b.toNat := by
    rw [Nat.mul_comm]; exact (Nat.two_pow_add_eq_or_of_lt (i := 8) hb a).symm
  have ho : Op.intBits .or .u32 ((a * 256 : Nat) : Int) (b.toNat : Int) = pure (.int .u32 ((a * 256 + b.toNat : Nat) : Int)) := by
    show (pure (.int .u32 (IntKind.u32.wrap (((BitVec.ofInt 32 ((a * 256 : Nat) : Int) ||| BitVec.ofInt 32 (b.toNat : Int)).toNat : Nat) : Int))) : Sem Value) = _
    rw [BitVec.ofInt_natCast, BitVec.ofInt_natCast, BitVec.toNat_or, BitVec.toNat_ofNat, BitVec.toNat_ofNat, Nat.mod_eq_of_lt (by omega), Nat.mod_eq_of_lt (by omega), hor, u32_nat (by omega)]
  rw [hr, ho]
  rfl
end
/-- The first bytes of four, as a number. -/
def pw (l : Bs) (p : Nat) : Nat → Nat
  | 0 => 0
  | j + 1 => pw l p j * 256 + (l.getD (p + j) 0).toNat
theorem pw_lt (l : Bs) (p : Nat) : ∀ j, j < 4 → pw l p j < 16777216
  | 0, _ => by show 0 < _; decide
  | 1, _ => by have := u8_lt (l.getD (p + 0) 0); simp only [pw]; omega
  | 2, _ => by have := u8_lt (l.getD (p + 0) 0); have := u8_lt (l.getD (p + 1) 0); simp only [pw]; omega
  | 3, _ => by have := u8_lt (l.getD (p + 0) 0); have := u8_lt (l.getD (p + 1) 0); have := u8_lt (l.getD (p + 2) 0); simp only [pw]; omega
theorem pw_4 (l : Bs) (p : Nat) : pw l p 4 = zw4 l p := by simp only [pw, zw4, Nat.zero_mul, Nat.zero_add, Nat.add_zero]
theorem hsh_fin (l : Bs) (p : Nat) {j : Nat} (hj : j = 4) : Value.int .u32 ((IntKind.u32.wrap (((pw l p j : Nat) : Int) * 2654435761)).fdiv (2 ^ (min (21 : Int).toNat IntKind.u32.bits))) = .int .u32 ((hsh l p : Nat) : Int) := by
  subst hj
  have e : (2 : Int) ^ (min (21 : Int).toNat IntKind.u32.bits) = ((2097152 : Nat) : Int) := by decide
  have e2 : IntKind.u32.wrap (((pw l p 4 : Nat) : Int) * 2654435761) = ((zw4 l p * 2654435761 % 4294967296 : Nat) : Int) := by
    rw [pw_4, show (((zw4 l p : Nat) : Int) * 2654435761) = ((zw4 l p * 2654435761 : Nat) : Int) by omega]
    simp [IntKind.wrap, IntKind.bits, IntKind.signed]
  rw [e, e2]
  congr 1
  exact (Int.ofNat_fdiv _ _).symm
theorem sub_get (y : Byt) {a b j : Nat} (hab : a ≤ b) (hb : b ≤ y.n) (hj : j < b - a) : (y.sub a b hab hb).l.getD j 0 = y.l.getD (a + j) 0 := by
  show ((y.l.drop a).take (b - a)).getD j 0 = _
  simp [List.getD, List.getElem?_drop, hj]

/-- Where the search stands. -/
structure LmS (l : Bs) (i : Nat) where
  D : Nat
  held : Nat
  b : Nat × Nat
  s : Srch l i D held b
def lm0 (l : Bs) (i : Nat) : LmS l i := ⟨0, prevH l (hsh l i) i, (0, 0), srch_0 l i⟩
section
variable {l : Bs} {i : Nat} (x : LmS l i)
theorem LmS.hle : x.held ≤ i := by have := x.s.le; omega
/-- One candidate more: b is what is the best then. -/
def LmS.next (h0 : 0 < x.held) (h1 : i - (x.held - 1) ≤ 1024) (b : Nat × Nat) (hb : (if x.b.1 < mlen l i (i - (x.held - 1)) then (mlen l i (i - (x.held - 1)), i - (x.held - 1)) else x.b) = b) : LmS l i :=
  ⟨i - (x.held - 1), bef l ((x.held - 1) % 1024) i, b, hb ▸ srch_step x.s h0 rfl h1⟩
theorem LmS.mu (h0 : 0 < x.held) (h1 : i - (x.held - 1) ≤ 1024) (b : Nat × Nat) (hb : (if x.b.1 < mlen l i (i - (x.held - 1)) then (mlen l i (i - (x.held - 1)), i - (x.held - 1)) else x.b) = b) : (x.next h0 h1 b hb).held < x.held := by
  have e : (x.next h0 h1 b hb).held ≤ i - (i - (x.held - 1)) := (x.next h0 h1 b hb).s.le
  have := x.hle
  omega
theorem LmS.bef_val (h0 : 0 < x.held) : (icells l i)[2048 + (x.held - 1) % 1024]? = some (nv (bef l ((x.held - 1) % 1024) i)) := by have _ := h0; exact ic_bef l i (Nat.mod_lt _ (by decide))
end
abbrev mv (p : Nat × Nat) : Value := .agg #[nv p.1, nv p.2]
theorem lm_y {l : Bs} {i : Nat} {b : Nat × Nat} (h : b.1 < 4) (e : (if b.1 < 4 then (0, 0) else b) = found l i) : Value.agg #[.int .i64 0, .int .i64 0] = mv (found l i) := by rw [if_pos h] at e; rw [← e]; rfl
theorem lm_n {l : Bs} {i : Nat} {b : Nat × Nat} (h : 4 ≤ b.1) (e : (if b.1 < 4 then (0, 0) else b) = found l i) : mv b = mv (found l i) := by rw [if_neg (by omega)] at e; rw [e]
theorem rem1024 (n : Nat) : (n : Int).tmod 1024 = ((n % 1024 : Nat) : Int) := rfl
theorem good_lz_hashAt : Good Try.prog 32 Try.f32 2 := ⟨Try.func32, by kernel_rfl, by kernel_rfl⟩
theorem z_hash (y : Byt) (i : Nat) (h : i + 4 ≤ y.n) (hn : y.n ≤ 100000000) (A : Facts) (hy : Sub y.L A) : Gives Try.prog 32 [y.v, .int .i64 ((i : Nat) : Int)] A (Unit) (fun _ => .int .u32 ((hsh y.l i : Nat) : Int)) (fun _ => []) :=
  gives_of_vcF Try.mixed good_lz_hashAt (args := [(y.v, y.L), (.int .i64 ((i : Nat) : Int), [])]) (B := []) (O := [.opt 2 [(3, .ld (.int .i64 ((i + 4 : Nat) : Int)))], .inv (Upto 4) (fun x : Upto 4 => ⟨27, [(5, .v (.int .u32 ((pw y.l i x.1 : Nat) : Int)) []), (12, .v (y.sub i (i + 4) (Nat.le_add_right _ _) h).v y.L), (13, .v (.int .i64 ((i + 4 - i : Nat) : Int)) []), (14, .v (.int .i64 ((x.1 : Nat) : Int)) [])], [], 20⟩) (fun x => 4 - x.1) (fun x => [.both [.opt 4 [(1, .ld (.int .u8 ((y.l.getD (i + x.1) 0).toNat : Int)))], .opt 5 [(3, .ld (.int .u32 ((y.l.getD (i + x.1) 0).toNat : Int))), (4, .ld (.int .u32 ((pw y.l i (x.1 + 1) : Nat) : Int)))]] []])]) (.app (.nil _) (.app (hy) (.app (.nil _) (.nil _)))) (⟨ld_add (add_n9 (b := 4) (by omega)) _, ⟨cutC y (Nat.le_add_right _ _) h, ⟨⟨⟨0, Nat.zero_le _⟩, rfl, ⟨⟨rfl, nofun⟩, ⟨rfl, fun _ h => h⟩, ⟨rfl, nofun⟩, ⟨rfl, nofun⟩, trivial⟩, trivial⟩, fun x => ⟨fun g => ⟨(y.sub i (i + 4) (Nat.le_add_right _ _) h).idx (Int.natCast_nonneg _) (Int.ofNat_lt.2 (show x.1 < i + 4 - i from (by have := lt_t g; omega))), ⟨(sub_get y (Nat.le_add_right _ _) h (by have := lt_t g; omega)) ▸ (y.sub i (i + 4) (Nat.le_add_right _ _) h).load x.1 rfl (show x.1 < i + 4 - i from (by have := lt_t g; omega)) (by intro q h; have h : q ∈ y.L := h; simp [h]), ⟨by decide, ⟨ld_u8_32n _ _, ⟨ld_or8 _ (pw_lt y.l i x.1 (by have := lt_t g; omega)) _, ⟨⟨x.1 + 1, (by have := lt_t g; omega)⟩, (by have := lt_t g; show 4 - (x.1 + 1) < 4 - x.1; omega), rfl, ⟨⟨rfl, nofun⟩, ⟨rfl, fun _ h => h⟩, ⟨rfl, nofun⟩, ⟨congrArg _ (add1 (by have := x.2; omega)), nofun⟩, trivial⟩, trivial⟩⟩⟩⟩⟩⟩, fun g => ⟨by decide, ⟨(), hsh_fin y.l i (by have := lt_f g; have := x.2; omega), nofun⟩⟩⟩⟩⟩⟩)
theorem good_lz_commonLength : Good Try.prog 33 Try.f33 4 := ⟨Try.func33, by kernel_rfl, by kernel_rfl⟩
theorem z_cl (y : Byt) (i dd lim : Nat) (hd : dd ≤ i) (h1 : 1 ≤ dd) (hi : i + lim ≤ y.n) (hn : y.n ≤ 100000000) (A : Facts) (hy : Sub y.L A) : Gives Try.prog 33 [y.v, .int .i64 ((i : Nat) : Int), .int .i64 ((dd : Nat) : Int), .int .i64 ((lim : Nat) : Int)] A (Unit) (fun _ => .int .i64 ((mrun y.l dd i lim : Nat) : Int)) (fun _ => []) :=
  gives_of_vcF Try.mixed good_lz_commonLength (args := [(y.v, y.L), (.int .i64 ((i : Nat) : Int), []), (.int .i64 ((dd : Nat) : Int), []), (.int .i64 ((lim : Nat) : Int), [])]) (B := []) (O := [.inv (RunS y.l i dd lim) (fun x : RunS y.l i dd lim => ⟨33, [(0, .v y.v y.L), (1, .v (.int .i64 ((i : Nat) : Int)) []), (2, .v (.int .i64 ((dd : Nat) : Int)) []), (3, .v (.int .i64 ((lim : Nat) : Int)) []), (9, .v (.int .i64 ((x.1 : Nat) : Int)) [])], [], 10⟩) (fun x => lim - x.1) (fun x => [.alt [(x.1 < lim, [(4, .yes), (5, .yes), (6, .yes), (7, .ld (.int .i64 ((i + x.1 : Nat) : Int))), (8, .yes), (9, .ld (.int .u8 ((y.l.getD (i + x.1) 0).toNat : Int))), (10, .yes), (11, .yes), (12, .yes), (13, .ld (.int .i64 ((i + x.1 : Nat) : Int))), (14, .yes), (15, .ld (.int .i64 ((i + x.1 - dd : Nat) : Int))), (16, .yes), (17, .ld (.int .u8 ((y.l.getD (i + x.1 - dd) 0).toNat : Int))), (18, .yes), (19, .yes)], [.both [] []]), (True, [(4, .no), (5, .no), (6, .no), (7, .no), (8, .no), (9, .no), (10, .no), (11, .no), (12, .no), (13, .no), (14, .no), (15, .no), (16, .no), (17, .no), (18, .no), (19, .no)], [.no])]])]) (.app (.nil _) (.app (hy) (.app (.nil _) (.app (.nil _) (.app (.nil _) (.nil _)))))) (⟨⟨run0 _ _ _ _, rfl, ⟨⟨rfl, fun _ h => h⟩, ⟨rfl, nofun⟩, ⟨rfl, nofun⟩, ⟨rfl, nofun⟩, ⟨rfl, nofun⟩, trivial⟩, trivial⟩, fun x => ⟨fun h => ⟨gtt (ltn_t h), ⟨gtt (ltn_t h), ⟨gtt (ltn_t h), ⟨⟨gtt (ltn_t h), ld_add (add_n9 (by omega)) _⟩, ⟨⟨gtt (ltn_t h), y.idx (Int.natCast_nonneg _) (Int.ofNat_lt.2 (show i + x.1 < y.n by omega))⟩, ⟨⟨gtt (ltn_t h), y.load (i + x.1) rfl (by omega) (by intro q h; simp [h])⟩, ⟨gtt (ltn_t h), ⟨gtt (ltn_t h), ⟨gtt (ltn_t h), ⟨⟨gtt (ltn_t h), ld_add (add_n9 (by omega)) _⟩, ⟨gtt (ltn_t h), ⟨⟨gtt (ltn_t h), ld_sub (sub_n9 (by omega) (by omega)) _⟩, ⟨⟨gtt (ltn_t h), y.idx (Int.natCast_nonneg _) (Int.ofNat_lt.2 (show i + x.1 - dd < y.n by omega))⟩, ⟨⟨gtt (ltn_t h), y.load (i + x.1 - dd) rfl (by omega) (by intro q h; simp [h])⟩, ⟨gtt (ltn_t h), ⟨(ltn_t h), ⟨fun g => ⟨x.next h g, (by show lim - (x.1 + 1) < lim - x.1; omega), rfl, ⟨⟨rfl, fun _ h => h⟩, ⟨rfl, nofun⟩, ⟨rfl, nofun⟩, ⟨rfl, nofun⟩, ⟨congrArg _ (add1 (by omega)), nofun⟩, trivial⟩, trivial⟩, fun g => ⟨(), x.stop g, nofun⟩⟩⟩⟩⟩⟩⟩⟩⟩⟩⟩⟩⟩⟩⟩⟩⟩⟩, fun h => ⟨fun h2 => ⟨gtf (ltn_f (Nat.not_lt.1 h)), ⟨gtf (ltn_f (Nat.not_lt.1 h)), ⟨gtf (ltn_f (Nat.not_lt.1 h)), ⟨gtf (ltn_f (Nat.not_lt.1 h)), ⟨gtf (ltn_f (Nat.not_lt.1 h)), ⟨gtf (ltn_f (Nat.not_lt.1 h)), ⟨gtf (ltn_f (Nat.not_lt.1 h)), ⟨gtf (ltn_f (Nat.not_lt.1 h)), ⟨gtf (ltn_f (Nat.not_lt.1 h)), ⟨gtf (ltn_f (Nat.not_lt.1 h)), ⟨gtf (ltn_f (Nat.not_lt.1 h)), ⟨gtf (ltn_f (Nat.not_lt.1 h)), ⟨gtf (ltn_f (Nat.not_lt.1 h)), ⟨gtf (ltn_f (Nat.not_lt.1 h)), ⟨gtf (ltn_f (Nat.not_lt.1 h)), ⟨(ltn_f (Nat.not_lt.1 h)), ⟨rfl, ⟨(), x.full h, nofun⟩⟩⟩⟩⟩⟩⟩⟩⟩⟩⟩⟩⟩⟩⟩⟩⟩⟩, fun h => (h trivial).elim⟩⟩⟩)
theorem z_ml9 (y : Byt) (i dd lim : Nat) (hd : dd ≤ i) (h1 : 1 ≤ dd) (hl : lim = min 131 (y.n - i)) (hi : i ≤ y.n) (hn : y.n ≤ 100000000) (A : Facts) (hy : Sub y.L A) : Gives Try.prog 33 [y.v, .int .i64 ((i : Nat) : Int), .int .i64 ((dd : Nat) : Int), .int .i64 ((lim : Nat) : Int)] A Unit (fun _ => .int .i64 ((mlen y.l i dd : Nat) : Int)) (fun _ => []) := by
  unfold mlen; rw [y.hl, ← hl]; exact z_cl y i dd lim hd h1 (by omega) hn A hy
theorem good_lz_index_add : Good Try.prog 24 Try.f24 3 := ⟨Try.func24, by kernel_rfl, by kernel_rfl⟩
theorem z_add0 (m : Nat) (y : Byt) (i : Nat) (hi : i ≤ y.n) (hn : y.n ≤ 100000000) (A : Facts) (hy : Sub y.L A) (c : List Value) (h : y.n - i < 4) : CallT Try.prog 24 [.pointer (some ⟨m, 0, none⟩), y.v, .int .i64 ((i : Nat) : Int)] A (fun F => F = ixF m (c)) (Unit) (fun _ => .tuple #[]) (fun _ => []) (fun _ F => F = ixF m c) :=
  givesT_of_vcF Try.mixed good_lz_index_add (args := [(.pointer (some ⟨m, 0, none⟩), []), (y.v, y.L), (.int .i64 ((i : Nat) : Int), [])]) (B := A) (O := [.opt 0 [(3, .ld (.int .i64 ((y.n - i : Nat) : Int)))], .yes]) (.app ((.refl _)) (.app (.nil _) (.app (hy) (.app (.nil _) (.nil _))))) (⟨ld_sub (sub_n9 hi (by omega)) _, ⟨(ltn_t (b := 4) h), ⟨(), rfl, nofun, fun _ g => g, trivial⟩⟩⟩)
theorem z_add1 (m : Nat) (y : Byt) (i : Nat) (hi : i ≤ y.n) (hn : y.n ≤ 100000000) (A : Facts) (hy : Sub y.L A) (h : i + 4 ≤ y.n) : CallT Try.prog 24 [.pointer (some ⟨m, 0, none⟩), y.v, .int .i64 ((i : Nat) : Int)] A (fun F => F = ixF m (icells y.l i)) (Unit) (fun _ => .tuple #[]) (fun _ => []) (fun _ F => F = ixF m (icells y.l (i + 1))) :=
  givesT_of_vcF Try.mixed good_lz_index_add (args := [(.pointer (some ⟨m, 0, none⟩), []), (y.v, y.L), (.int .i64 ((i : Nat) : Int), [])]) (B := A) (O := [.opt 0 [(3, .ld (.int .i64 ((y.n - i : Nat) : Int)))], .no, .reg [(2, det (.int .u32 (((hsh y.l i) : Nat) : Int)))], .opt 2 [(6, .ld (.pointer (some ⟨m, 0, none⟩))), (7, .ld (.pointer (some ⟨m, (hsh y.l i), none⟩))), (8, .rdT 0 Unit () (fun _ => nv (prevH y.l (hsh y.l i) i)) (fun _ => [])), (10, .ld (.pointer (some ⟨m, 2048, none⟩))), (11, .ld (.pointer (some ⟨m, 2048 + i % 1024, none⟩))), (12, .thg 0 Unit () (fun _ => undef) (fun _ => []) (fun _ F => F = ixF m (icm y.l i)))], .opt 3 [(3, .ld (nv (i + 1))), (5, .ld (.pointer (some ⟨m, 0, none⟩))), (6, .ld (.pointer (some ⟨m, (hsh y.l i), none⟩))), (7, .thg 0 Unit () (fun _ => undef) (fun _ => []) (fun _ F => F = ixF m (icells y.l (i + 1))))]]) (.app ((.refl _)) (.app (.nil _) (.app (hy) (.app (.nil _) (.nil _))))) (⟨ld_sub (sub_n9 hi (by omega)) _, ⟨(ltn_f (b := 4) (by omega)), ⟨z_hash y i h hn _ (by intro q h; simp [h]), fun _ => ⟨⟨by decide, rfl⟩, ⟨ix_f0 m _, ⟨ix_a0 m (hsh y.l i) rfl (hsh_lt _ _) _, ⟨fun _ g => by subst g; exact rd_ic (ic_head y.l i (hsh_lt _ _)), fun _ => ⟨ix_f1 m _, ⟨ix_a1 m (i % 1024) rfl (Nat.mod_lt _ (by decide)) _, ⟨st_ic (by rw [ic_len]; omega) (ic_set1 y.l i), fun _ => ⟨ld_add (add_n9 (b := 1) (by omega)) _, ⟨ix_f0 m _, ⟨ix_a0 m (hsh y.l i) rfl (hsh_lt _ _) _, ⟨st_ic (by rw [icm_len]; have := hsh_lt y.l i; omega) (ic_set2 y.l i), fun _ => ⟨(), rfl, nofun, fun _ g => g, trivial⟩⟩⟩⟩⟩⟩⟩⟩⟩⟩⟩⟩⟩⟩⟩)
theorem good_lz_index_longestMatch : Good Try.prog 21 Try.f21 3 := ⟨Try.func21, by kernel_rfl, by kernel_rfl⟩
theorem z_lm0 (m : Nat) (y : Byt) (i : Nat) (hi : i ≤ y.n) (hn : y.n ≤ 100000000) (A : Facts) (hy : Sub y.L A) (c : List Value) (h : y.n - i < 4) : CallR Try.prog 21 [.pointer (some ⟨m, 0, none⟩), y.v, .int .i64 ((i : Nat) : Int)] A ((ixF m c)) (Unit) (fun _ => mv (found y.l i)) (fun _ => []) :=
  reads_of_vcF Try.mixed good_lz_index_longestMatch (args := [(.pointer (some ⟨m, 0, none⟩), []), (y.v, y.L), (.int .i64 ((i : Nat) : Int), [])]) (B := A) (F := (ixF m c)) (O := [.opt 1 [(3, .ld (.int .i64 ((y.n - i : Nat) : Int))), (4, .ld (.int .i64 (((min 131 (y.n - i)) : Nat) : Int)))], .yes]) (.app ((.refl _)) (.app (.nil _) (.app (hy) (.app (.nil _) (.nil _))))) (⟨ld_sub (sub_n9 hi (by omega)) _, ⟨ld_min 131 (y.n - i) _, ⟨(ltn_t (b := 4) (by omega)), ⟨(), congrArg mv (found_short (by rw [y.hl]; omega)).symm, nofun, fun _ g => g, trivial⟩⟩⟩⟩)
theorem z_lm1 (m : Nat) (y : Byt) (i : Nat) (hi : i ≤ y.n) (hn : y.n ≤ 100000000) (A : Facts) (hy : Sub y.L A) (h : i + 4 ≤ y.n) : CallR Try.prog 21 [.pointer (some ⟨m, 0, none⟩), y.v, .int .i64 ((i : Nat) : Int)] A ((ixF m (icells y.l i))) (Unit) (fun _ => mv (found y.l i)) (fun _ => []) :=
  reads_of_vcF Try.mixed good_lz_index_longestMatch (args := [(.pointer (some ⟨m, 0, none⟩), []), (y.v, y.L), (.int .i64 ((i : Nat) : Int), [])]) (B := A) (F := (ixF m (icells y.l i))) (O := [.opt 1 [(3, .ld (.int .i64 ((y.n - i : Nat) : Int))), (4, .ld (.int .i64 (((min 131 (y.n - i)) : Nat) : Int)))], .no, .reg [(3, det (.int .u32 (((hsh y.l i) : Nat) : Int))), (5, .ld (.pointer (some ⟨m, 0, none⟩))), (6, .ld (.pointer (some ⟨m, (hsh y.l i), none⟩))), (7, .rdT 0 Unit () (fun _ => nv (prevH y.l (hsh y.l i) i)) (fun _ => []))], .invT (LmS y.l i) (fun x : LmS y.l i => ⟨67, [(0, .v (.pointer (some ⟨m, 0, none⟩)) []), (1, .v y.v y.L), (2, .v (.int .i64 ((i : Nat) : Int)) []), (6, .p 0 0), (7, .v (.int .i64 (((min 131 (y.n - i)) : Nat) : Int)) []), (8, .p 9 0), (9, .v (nv x.held) [])], [(0, ⟨49, [.int .i64 0, .int .i64 0], []⟩), (9, ⟨49, [nv x.b.1, nv x.b.2], []⟩)], 60⟩) (fun x => [(0, fun G => G = ixF m (icells y.l i))]) (fun x => x.held) (fun x => [.alt [(0 < x.held, [(3, .yes), (4, .yes), (5, .yes), (6, .yes), (7, .yes)], [.both [.opt 8 [(2, .ld (.int .i64 ((x.held - 1 : Nat) : Int))), (3, .ld (.int .i64 (((i - (x.held - 1)) : Nat) : Int)))], .both [.both [] []] [.reg [(4, det (.int .i64 (((mlen y.l i (i - (x.held - 1))) : Nat) : Int)))], .both [.opt 7 [(2, .ld (.int .i64 ((x.held - 1 : Nat) : Int))), (5, .ld (.pointer (some ⟨m, 2048, none⟩))), (6, .ld (.pointer (some ⟨m, 2048 + (x.held - 1) % 1024, none⟩))), (7, .rdT 0 Unit () (fun _ => nv (bef y.l ((x.held - 1) % 1024) i)) (fun _ => []))]] [.opt 7 [(2, .ld (.int .i64 ((x.held - 1 : Nat) : Int))), (5, .ld (.pointer (some ⟨m, 2048, none⟩))), (6, .ld (.pointer (some ⟨m, 2048 + (x.held - 1) % 1024, none⟩))), (7, .rdT 0 Unit () (fun _ => nv (bef y.l ((x.held - 1) % 1024) i)) (fun _ => []))]]]] [.both [] []]]), (True, [(3, .no), (4, .no), (5, .no), (6, .no), (7, .no)], [.no, .both [] []])]])]) (.app ((.refl _)) (.app (.nil _) (.app (hy) (.app (.nil _) (.nil _))))) (⟨ld_sub (sub_n9 hi (by omega)) _, ⟨ld_min 131 (y.n - i) _, ⟨(ltn_f (b := 4) (by omega)), ⟨z_hash y i h hn _ (by intro q h; simp [h]), fun _ => ⟨ix_f0 m _, ⟨ix_a0 m (hsh y.l i) rfl (hsh_lt _ _) _, ⟨fun _ g => by subst g; exact rd_ic (ic_head y.l i (hsh_lt _ _)), fun _ => ⟨⟨lm0 y.l i, ⟨rfl, ⟨⟨rfl, nofun⟩, ⟨rfl, fun _ h => h⟩, ⟨rfl, nofun⟩, ⟨rfl, rfl, rfl⟩, ⟨rfl, nofun⟩, ⟨rfl, rfl, rfl⟩, ⟨rfl, nofun⟩, trivial⟩, ⟨⟨rfl, rfl, nofun⟩, ⟨rfl, rfl, nofun⟩, trivial⟩⟩, ⟨fun _ g => g, trivial⟩⟩, fun x => ⟨fun h0 => ⟨gtt (gtn_t (b := 0) h0), ⟨gtt (gtn_t (b := 0) h0), ⟨gtt (gtn_t (b := 0) h0), ⟨gtt (gtn_t (b := 0) h0), ⟨(gtn_t (b := 0) h0), ⟨fun g0 => ⟨ld_sub (sub_n9 (b := 1) h0 (by have := x.hle; omega)) _, ⟨ld_sub (sub_n9 (by have := x.hle; omega) (by omega)) _, ⟨fun g1 => ⟨fun e => ⟨(), lm_y (lt_t (n := 4) e) (srch_far x.s (gtn_of (b := 1024) g1)), nofun, fun _ g => g, trivial⟩, fun e => ⟨(), lm_n (lt_f (n := 4) e) (srch_far x.s (gtn_of (b := 1024) g1)), nofun, fun _ g => g, trivial⟩⟩, fun g1 => ⟨z_ml9 y i (i - (x.held - 1)) (min 131 (y.n - i)) (by omega) (by have := x.hle; omega) rfl hi hn _ (by intro q h; simp [h]), fun _ => ⟨fun g2 => ⟨ld_sub (sub_n9 (b := 1) h0 (by have := x.hle; omega)) _, ⟨⟨by decide, rfl⟩, ⟨ix_f1 m _, ⟨ix_a1 m ((x.held - 1) % 1024) rfl (Nat.mod_lt _ (by decide)) _, ⟨fun _ g => by subst g; exact rd_ic (x.bef_val h0), fun _ => ⟨x.next h0 (gtn_no (b := 1024) g1) ((mlen y.l i (i - (x.held - 1))), (i - (x.held - 1))) (if_pos (gtn_of g2)), x.mu h0 (gtn_no (b := 1024) g1) ((mlen y.l i (i - (x.held - 1))), (i - (x.held - 1))) (if_pos (gtn_of g2)), ⟨rfl, ⟨⟨rfl, nofun⟩, ⟨rfl, fun _ h => h⟩, ⟨rfl, nofun⟩, ⟨rfl, rfl, rfl⟩, ⟨rfl, nofun⟩, ⟨rfl, rfl, rfl⟩, ⟨rfl, nofun⟩, trivial⟩, ⟨⟨rfl, rfl, nofun⟩, ⟨rfl, rfl, nofun⟩, trivial⟩⟩, ⟨fun _ g => g, trivial⟩⟩⟩⟩⟩⟩⟩, fun g2 => ⟨ld_sub (sub_n9 (b := 1) h0 (by have := x.hle; omega)) _, ⟨⟨by decide, rfl⟩, ⟨ix_f1 m _, ⟨ix_a1 m ((x.held - 1) % 1024) rfl (Nat.mod_lt _ (by decide)) _, ⟨fun _ g => by subst g; exact rd_ic (x.bef_val h0), fun _ => ⟨x.next h0 (gtn_no (b := 1024) g1) x.b (if_neg (Nat.not_lt.2 (gtn_no g2))), x.mu h0 (gtn_no (b := 1024) g1) x.b (if_neg (Nat.not_lt.2 (gtn_no g2))), ⟨rfl, ⟨⟨rfl, nofun⟩, ⟨rfl, fun _ h => h⟩, ⟨rfl, nofun⟩, ⟨rfl, rfl, rfl⟩, ⟨rfl, nofun⟩, ⟨rfl, rfl, rfl⟩, ⟨rfl, nofun⟩, trivial⟩, ⟨⟨rfl, rfl, nofun⟩, ⟨rfl, rfl, nofun⟩, trivial⟩⟩, ⟨fun _ g => g, trivial⟩⟩⟩⟩⟩⟩⟩⟩⟩⟩⟩⟩, fun g0 => ⟨fun e => ⟨(), lm_y (lt_t (n := 4) e) (srch_full x.s (by rw [y.hl]; exact lt_f g0)), nofun, fun _ g => g, trivial⟩, fun e => ⟨(), lm_n (lt_f (n := 4) e) (srch_full x.s (by rw [y.hl]; exact lt_f g0)), nofun, fun _ g => g, trivial⟩⟩⟩⟩⟩⟩⟩⟩, fun h0 => ⟨fun h2 => ⟨gtf (gtn_f (b := 0) (Nat.not_lt.1 h0)), ⟨gtf (gtn_f (b := 0) (Nat.not_lt.1 h0)), ⟨gtf (gtn_f (b := 0) (Nat.not_lt.1 h0)), ⟨gtf (gtn_f (b := 0) (Nat.not_lt.1 h0)), ⟨(gtn_f (b := 0) (Nat.not_lt.1 h0)), ⟨rfl, ⟨fun e => ⟨(), lm_y (lt_t (n := 4) e) (srch_none (D := x.D) (by have t := x.s; rwa [show x.held = 0 from Nat.eq_zero_of_not_pos h0] at t)), nofun, fun _ g => g, trivial⟩, fun e => ⟨(), lm_n (lt_f (n := 4) e) (srch_none (D := x.D) (by have t := x.s; rwa [show x.held = 0 from Nat.eq_zero_of_not_pos h0] at t)), nofun, fun _ g => g, trivial⟩⟩⟩⟩⟩⟩⟩⟩, fun h => (h trivial).elim⟩⟩⟩⟩⟩⟩⟩⟩⟩⟩)
end Go.Proofs.Yteepoeljihbpjaa

