/- The law LZDecompressLimit. No conditions. -/
import Derived.Test.YtmgjlfcoikobaaaZ9l
import Derived.Test.YtmgjlfcoikobaaaZ9d
namespace Go.Proofs.Ytmgjlfcoikobaaa
open Go.RowKit Sx
set_option maxRecDepth 100000

section
variable {ρ : Operand → Value} {dst : Option Tmp} {type : TypeId} {pos : String} {after : Array Edge} {guard : Option (Nat × Bool)}
theorem ld_add8 {a b : Int} (c : UInt8) (h : IntKind.u8.wrap (a + b) = (c.toNat : Int)) (A : Facts) {x y : Operand} (hx : ρ x = .int .u8 a := by rfl) (hy : ρ y = .int .u8 b := by rfl) :
    ∀ w, Sx.Holds w A → (execOp ρ ⟨dst, .binOp .add 5 x y 5, type, pos, after, guard⟩).run Try.prog w = .ok (.value (.int .u8 (c.toNat : Int))) w := by
  intro w _
  have e : execOp ρ ⟨dst, .binOp .add 5 x y 5, type, pos, after, guard⟩ = (do let v ← binOp .add 5 (ρ x) (ρ y); pure (.value v)) := rfl
  rw [e, hx, hy, ← h]
  rfl
theorem ld_u8m (m : Nat) (h : m < 256) (A : Facts) {z : Int} (hz : z = (m : Int)) {x : Operand} (hx : ρ x = .int .u8 z := by rfl) :
    ∀ w, Sx.Holds w A → (execOp ρ ⟨dst, .convert 5 3 x, type, pos, after, guard⟩).run Try.prog w = .ok (.value (.int .i64 (m : Int))) w := by
  subst hz
  have := ld_u8 (ρ := ρ) (dst := dst) (type := type) (pos := pos) (after := after) (guard := guard) (UInt8.ofNat m) A (x := x) (by rw [hx, ofNat_lt h])
  rwa [ofNat_lt h] at this
/-- A row that is made, of which nobody else knows. -/
theorem own_build3 (a b c : UInt8) (A : Facts) {x y z : Operand} (hx : ρ x = .int .u8 (a.toNat : Int) := by rfl) (hy : ρ y = .int .u8 (b.toNat : Int) := by rfl) (hz : ρ z = .int .u8 (c.toNat : Int) := by rfl) : OwnOp Try.prog (execOp ρ ⟨dst, .buildSlice 22 3 #[(0, x), (1, y), (2, z)], type, pos, after, guard⟩) A Unit 5 1 (fun _ => bcs [a, b, c]) := by
  obtain ⟨i, hi, hs, _, h0⟩ := info_u8
  intro w _
  have hf : Instr.fill (fun j => some (j * 1, 1)) ((Array.range (3 * 1)).map ((Value.int .u8 0).cells[· % (Value.int .u8 0).cells.size]!)) [(0, .int .u8 (a.toNat : Int)), (1, .int .u8 (b.toNat : Int)), (2, .int .u8 (c.toNat : Int))] = some (bcs [a, b, c]).toArray := by kernel_rfl
  have hb := run_buildSlice w 22 5 3 #[(0, .int .u8 (a.toNat : Int)), (1, .int .u8 (b.toNat : Int)), (2, .int .u8 (c.toNat : Int))] (bcs [a, b, c]).toArray i (.int .u8 0) Try.underlying22 hi h0 (by rw [hs]; decide) (by rw [hs]; decide) (by rw [hs]; exact hf)
  have hrun : (execOp ρ ⟨dst, .buildSlice 22 3 #[(0, x), (1, y), (2, z)], type, pos, after, guard⟩).run Try.prog w = .ok (.value (Byt.row w.heap.size [a, b, c]).v) (w.alloc (.cells (bcs [a, b, c]).toArray 5)) := by
    simp [execOp, hx, hy, hz, hb, Byt.row]
  unfold OpRun
  rw [hrun]
  have hh : (w.alloc (.cells (bcs [a, b, c]).toArray 5)).heap = w.heap.push (.cells (bcs [a, b, c]).toArray 5) := rfl
  refine ⟨(), .inr ⟨w.heap.size, [], 3, 3, Nat.le_refl _, ?_, rfl, rfl, rfl⟩, ⟨rfl, rfl, rfl, by rw [hh, Array.size_push]; omega, fun k hk => by rw [hh, Array.getElem?_push, if_neg (Nat.ne_of_lt hk)]⟩⟩
  rw [hh, Array.getElem?_push, if_pos rfl, List.append_nil]
end
/-- The token of a match of the chain. -/
def limA (t : UInt8) : UInt8 := UInt8.ofNat (128 + t.toNat % 128)
def limB (d : UInt8) : UInt8 := UInt8.ofNat (d.toNat % 2)
def limX (x : UInt8) : UInt8 := UInt8.ofNat (x.toNat + 1)
theorem limA_n (t : UInt8) : (limA t).toNat = 128 + t.toNat % 128 := ofNat_lt (by omega)
theorem limB_n (d : UInt8) : (limB d).toNat = d.toNat % 2 := ofNat_lt (by omega)
theorem limX_w (x : UInt8) : IntKind.u8.wrap ((x.toNat : Int) + 1) = ((limX x).toNat : Int) := by
  rw [show ((x.toNat : Int) + 1) = ((x.toNat + 1 : Nat) : Int) by omega]; exact wrap8 _
theorem limA_w (t : UInt8) : IntKind.u8.wrap (128 + ((t.toNat : Int)).tmod 128) = ((limA t).toNat : Int) := by
  rw [show ((t.toNat : Int)).tmod 128 = ((t.toNat % 128 : Nat) : Int) from rfl, show (128 + ((t.toNat % 128 : Nat) : Int)) = ((128 + t.toNat % 128 : Nat) : Int) by omega]; exact wrap8 _
theorem limB_w (d : UInt8) : Value.int .u8 (((d.toNat : Int)).tmod 2) = .int .u8 ((limB d).toNat : Int) := by
  rw [limB_n]; rfl
/-- The whole input. -/
def limL (x t d : UInt8) (k : Nat) : Bs := [2, x, limX x] ++ mchain (limA t) (limB d) k
theorem limL_len (x t d : UInt8) (k : Nat) : (limL x t d k).length = 3 + 3 * k := by
  unfold limL; rw [List.length_append, mchain_len]; rfl
theorem limL_next (x t d : UInt8) (k : Nat) : bcs (limL x t d k) ++ bcs [limA t, 0, limB d] = bcs (limL x t d (k + 1)) := by
  unfold limL; rw [bcs_append, mchain_end, List.append_assoc]
theorem lim_dec (x t d : UInt8) (k : Nat) : ((dec (limL x t d k)).1 = 0 ∧ 2 + k * (t.toNat % 128 + 4) ≤ 65536 ∧ (dec (limL x t d k)).2.length = 2 + k * (t.toNat % 128 + 4)) ∨ ((dec (limL x t d k)).1 = 6 ∧ 65536 < 2 + k * (t.toNat % 128 + 4)) := by
  have h := dec_mchain (a := limA t) (b := limB d) (by rw [limA_n]; omega) (by rw [limB_n]; omega) k [x, limX x] (Nat.le_refl _) (by show 2 ≤ 65536; decide)
  rw [limA_n, show 128 + t.toNat % 128 - 124 = t.toNat % 128 + 4 by omega] at h
  have e : dec (limL x t d k) = decS [x, limX x] (mchain (limA t) (limB d) k) := by
    unfold dec limL
    rw [show ([2, x, limX x] ++ mchain (limA t) (limB d) k : Bs) = 2 :: ([x, limX x] ++ mchain (limA t) (limB d) k) from rfl, dec_cons, if_pos (by decide), if_neg (by simp), if_neg (by decide)]
    rfl
  rw [e]
  exact h
abbrev limK (n : Int) : Nat := modI n 700
theorem limK_lt (n : Int) : modI n 700 < 700 := modI_lt n (by decide)
theorem lim_z (t : UInt8) (n : Int) : modI n 700 * (t.toNat % 128 + 4) ≤ 700 * 132 := Nat.mul_le_mul (Nat.le_of_lt (limK_lt n)) (by omega)
section
variable {x t d : UInt8} {n : Int} {j : Nat} (hj : j = modI n 700)
include hj
theorem lim_6 (h : (dec (limL x t d j)).1 = 6) : 65536 < 2 + modI n 700 * (t.toNat % 128 + 4) := by
  rw [← hj]
  rcases lim_dec x t d j with h1 | h1
  · omega
  · exact h1.2
theorem lim_0 (h : ¬ (dec (limL x t d j)).1 = 6) : (dec (limL x t d j)).1 = 0 ∧ 2 + modI n 700 * (t.toNat % 128 + 4) ≤ 65536 ∧ (dec (limL x t d j)).2.length = 2 + modI n 700 * (t.toNat % 128 + 4) := by
  rw [← hj]
  rcases lim_dec x t d j with h1 | h1
  · exact h1
  · exact absurd h1.1 h
theorem lim_t (h : (dec (limL x t d j)).1 = 6) : (((((dec (limL x t d j)).1 : Nat) : Int) == 6) == decide (((2 + modI n 700 * (t.toNat % 128 + 4) : Nat) : Int) > 65536)) = true := by
  have h2 := lim_6 hj h
  rw [h, decide_eq_true (show (((2 + modI n 700 * (t.toNat % 128 + 4) : Nat) : Int) > 65536) by omega)]; rfl
theorem lim_f (h : ¬ (dec (limL x t d j)).1 = 6) : (((((dec (limL x t d j)).1 : Nat) : Int) == 6) == decide (((2 + modI n 700 * (t.toNat % 128 + 4) : Nat) : Int) > 65536)) = true := by
  have h2 := lim_0 hj h
  rw [h2.1, decide_eq_false (show ¬ (((2 + modI n 700 * (t.toNat % 128 + 4) : Nat) : Int) > 65536) by omega)]; rfl
end
theorem mul_n9 {a b : Nat} (h : a * b ≤ 9223372036854775807) : IntKind.i64.wrap ((a : Int) * (b : Int)) = ((a * b : Nat) : Int) := by
  rw [show ((a : Int) * (b : Int)) = ((a * b : Nat) : Int) by simp, wrap_nat (by omega)]
theorem eqn9 {a b : Nat} (h : a = b) : ((a : Int) == (b : Int)) = true := by subst h; simp
theorem good_pontagelaw9_LZDecompressLimit : Good Try.prog 9 Try.f9 4 := ⟨Try.func9, by kernel_rfl, by kernel_rfl⟩
theorem l_lim (n : Int) (x t d : UInt8) (A : Facts) : Gives Try.prog 9 [.int .i64 n, .int .u8 (x.toNat : Int), .int .u8 (t.toNat : Int), .int .u8 (d.toNat : Int)] A (Unit) (fun _ => .bool true) (fun _ => []) :=
  gives_of_vcF Try.mixed good_pontagelaw9_LZDecompressLimit (args := [(.int .i64 n, []), (.int .u8 (x.toNat : Int), []), (.int .u8 (t.toNat : Int), []), (.int .u8 (d.toNat : Int), [])]) (B := A) (O := [.opt 1 [(2, .ld (.int .u8 ((limX x).toNat : Int))), (3, .own Unit () 5 1 (fun _ => bcs [2, x, limX x]))], .reg [(1, det (.int .i64 (((modI n 700) : Nat) : Int)))], .inv (Upto (modI n 700)) (fun j : Upto (modI n 700) => ⟨81, [(2, .v (.int .u8 (t.toNat : Int)) []), (3, .v (.int .u8 (d.toNat : Int)) []), (9, .a 4 1 1), (10, .v (.int .i64 (((modI n 700) : Nat) : Int)) []), (11, .v (.int .i64 ((j.1 : Nat) : Int)) [])], [(4, ⟨bufT 5 1, bcs (limL x t d j.1), []⟩)], 60⟩) (fun j => (modI n 700) - j.1) (fun j => [.both [.opt 6 [(3, .ld (.int .u8 ((limA t).toNat : Int))), (6, .call Nat 0 (fun m => (Byt.row m [limA t, 0, limB d]).v) (fun m => (Byt.row m [limA t, 0, limB d]).L)), (7, .app 3 (bcs [limA t, 0, limB d]))]] [.puba 7 9 (bcs (limL x t d j.1)) (fun xb => [.reg [(1, .call (PV (dec (limL x t d j.1)).2) (pv0 _) (fun p => .tuple #[bV (dec (limL x t d j.1)).2 p, .int .i64 (((dec (limL x t d j.1)).1 : Nat) : Int)]) (fun p => pL (dec (limL x t d j.1)).2 p.1))], .reg [(1, .call (PV (dec (limL x t d j.1)).2) (pv0 _) (fun p => .tuple #[bV (dec (limL x t d j.1)).2 p, .int .i64 (((dec (limL x t d j.1)).1 : Nat) : Int)]) (fun p => pL (dec (limL x t d j.1)).2 p.1))], .opt 9 [(3, .ld (.int .i64 (((t.toNat % 128) : Nat) : Int))), (4, .ld (.int .i64 (((t.toNat % 128) + 4 : Nat) : Int))), (5, .ld (.int .i64 (((modI n 700) * ((t.toNat % 128) + 4) : Nat) : Int))), (6, .ld (.int .i64 (((2 + (modI n 700) * ((t.toNat % 128) + 4)) : Nat) : Int)))], .alt [((dec (limL x t d j.1)).1 = 6, [(2, det (.bool (decide ((dec (limL x t d j.1)).2 = (dec (limL x t d j.1)).2)))), (4, .yes), (5, .yes), (6, .yes), (7, .yes), (9, .yes), (10, .yes), (11, .yes), (12, .yes), (13, .yes), (14, .yes), (16, .yes), (17, .yes), (18, .yes), (19, .no), (20, .no), (21, .no), (22, .no), (23, .yes), (24, .yes), (26, det (.bool true)), (27, .yes)], []), (True, [(2, det (.bool (decide ((dec (limL x t d j.1)).2 = (dec (limL x t d j.1)).2)))), (4, .yes), (5, .yes), (6, .yes), (7, .yes), (9, .yes), (10, .yes), (11, .yes), (12, .yes), (13, .yes), (14, .yes), (16, .yes), (17, .yes), (18, .yes), (19, .yes), (20, .yes), (21, .yes), (22, .yes), (23, .els), (24, .yes), (26, det (.bool true)), (27, .yes)], [])]])]])]) (.app ((.refl _)) (.app (.nil _) (.app (.nil _) (.app (.nil _) (.app (.nil _) (.nil _)))))) (⟨ld_add8 _ (limX_w x) _, ⟨own_build3 2 x (limX x) _, fun _ => ⟨mod_raw n 700 (by decide) (by decide) _, fun _ => ⟨⟨⟨0, Nat.zero_le _⟩, rfl, ⟨⟨rfl, nofun⟩, ⟨rfl, nofun⟩, ⟨rfl, rfl, rfl⟩, ⟨rfl, nofun⟩, ⟨rfl, nofun⟩, trivial⟩, ⟨⟨⟨rfl, rfl⟩, rfl, nofun⟩, trivial⟩⟩, fun j => ⟨fun g => ⟨⟨by decide, rfl⟩, ⟨ld_add8 _ (limA_w t) _, ⟨⟨by decide, rfl⟩, ⟨build_3 (limA t) 0 (limB d) _ rfl rfl (limB_w d), fun r => ⟨⟨(Byt.row r [limA t, 0, limB d]).src (by intro zz h; have h : zz ∈ (Byt.row r [limA t, 0, limB d]).L := h; exact List.mem_append.2 (.inr (by simpa using h))), by show (bcs (limL x t d j.1)).length + 3 ≤ _; rw [bcs_length, limL_len]; have := j.2; have := limK_lt n; omega⟩, fun _ => ⟨⟨j.1 + 1, lt_t g⟩, (by have := lt_t g; show (modI n 700) - (j.1 + 1) < (modI n 700) - j.1; omega), rfl, ⟨⟨rfl, nofun⟩, ⟨rfl, nofun⟩, ⟨rfl, rfl, rfl⟩, ⟨rfl, nofun⟩, ⟨congrArg _ (add1 (by have := j.2; have := limK_lt n; omega)), nofun⟩, trivial⟩, ⟨⟨⟨rfl, rfl⟩, limL_next x t d j.1, nofun⟩, trivial⟩⟩⟩⟩⟩⟩⟩, fun g => ⟨rfl, fun xb => ⟨z_dec (frB (bcs (limL x t d j.1)) (limL x t d j.1) rfl xb) _ (by intro zz h; have h : zz ∈ frL 5 xb := h; simp; first | exact .inr h | exact .inr (.inl h) | exact .inr (.inr h) | exact .inr (.inr (.inl h)) | exact .inr (.inr (.inr h))), fun p => ⟨t_dec (frB (bcs (limL x t d j.1)) (limL x t d j.1) rfl xb) (by show ((frB (bcs (limL x t d j.1)) (limL x t d j.1) rfl xb)).n ≤ 100000000; rw [frB_n, limL_len]; have := j.2; have := limK_lt n; omega) _ (by intro zz h; have h : zz ∈ frL 5 xb := h; simp; first | exact .inr h | exact .inr (.inl h) | exact .inr (.inr h) | exact .inr (.inr (.inl h)) | exact .inr (.inr (.inr h))), fun q => ⟨⟨by decide, rfl⟩, ⟨ld_u8m (t.toNat % 128) (by omega) _ rfl, ⟨ld_add (add_n9 (b := 4) (by omega)) _, ⟨ld_mul9 (mul_n9 (by have := (lim_z t n); omega)) _, ⟨ld_add (add_n9 (a := 2) (by have := (lim_z t n); omega)) _, ⟨fun h6 => ⟨c_eqb (Byt.ofP (dec (limL x t d j.1)).2 p) (Byt.ofP (dec (limL x t d j.1)).2 q) _ (by intro zz h; have h : zz ∈ pL (dec (limL x t d j.1)).2 p.1 := h; simp [h]) (by intro zz h; have h : zz ∈ pL (dec (limL x t d j.1)).2 q.1 := h; simp [h]), fun _ => ⟨gtt (decide_eq_true rfl), ⟨gtt (decide_eq_true rfl), ⟨gtt (decide_eq_true rfl), ⟨(decide_eq_true rfl), ⟨gtt (by simp), ⟨gtt (by simp), ⟨gtt (by simp), ⟨gtt (by simp), ⟨gtt (by simp), ⟨(by simp), ⟨gtt (lim_t (show j.1 = modI n 700 by have := j.2; have := lt_f g; omega) h6), ⟨gtt (lim_t (show j.1 = modI n 700 by have := j.2; have := lt_f g; omega) h6), ⟨gtt (lim_t (show j.1 = modI n 700 by have := j.2; have := lt_f g; omega) h6), ⟨gft (by rw [h6]; rfl), ⟨gft (by rw [h6]; rfl), ⟨gft (by rw [h6]; rfl), ⟨gft (by rw [h6]; rfl), ⟨⟨gtt (lim_t (show j.1 = modI n 700 by have := j.2; have := lt_f g; omega) h6), (by rw [h6]; rfl)⟩, ⟨(lim_t (show j.1 = modI n 700 by have := j.2; have := lt_f g; omega) h6), ⟨⟨gtt rfl, z_aw0 _⟩, fun _ => ⟨rfl, ⟨(), rfl, nofun⟩⟩⟩⟩⟩⟩⟩⟩⟩⟩⟩⟩⟩⟩⟩⟩⟩⟩⟩⟩⟩⟩⟩, fun h6 => ⟨fun h7 => ⟨c_eqb (Byt.ofP (dec (limL x t d j.1)).2 p) (Byt.ofP (dec (limL x t d j.1)).2 q) _ (by intro zz h; have h : zz ∈ pL (dec (limL x t d j.1)).2 p.1 := h; simp [h]) (by intro zz h; have h : zz ∈ pL (dec (limL x t d j.1)).2 q.1 := h; simp [h]), fun _ => ⟨gtt (decide_eq_true rfl), ⟨gtt (decide_eq_true rfl), ⟨gtt (decide_eq_true rfl), ⟨(decide_eq_true rfl), ⟨gtt (by simp), ⟨gtt (by simp), ⟨gtt (by simp), ⟨gtt (by simp), ⟨gtt (by simp), ⟨(by simp), ⟨gtt (lim_f (show j.1 = modI n 700 by have := j.2; have := lt_f g; omega) h6), ⟨gtt (lim_f (show j.1 = modI n 700 by have := j.2; have := lt_f g; omega) h6), ⟨gtt (lim_f (show j.1 = modI n 700 by have := j.2; have := lt_f g; omega) h6), ⟨gff (by rw [(lim_0 (show j.1 = modI n 700 by have := j.2; have := lt_f g; omega) h6).1]; rfl), ⟨gff (by rw [(lim_0 (show j.1 = modI n 700 by have := j.2; have := lt_f g; omega) h6).1]; rfl), ⟨gff (by rw [(lim_0 (show j.1 = modI n 700 by have := j.2; have := lt_f g; omega) h6).1]; rfl), ⟨gff (by rw [(lim_0 (show j.1 = modI n 700 by have := j.2; have := lt_f g; omega) h6).1]; rfl), ⟨⟨gtt (lim_f (show j.1 = modI n 700 by have := j.2; have := lt_f g; omega) h6), (by rw [(lim_0 (show j.1 = modI n 700 by have := j.2; have := lt_f g; omega) h6).1]; rfl)⟩, ⟨(lim_f (show j.1 = modI n 700 by have := j.2; have := lt_f g; omega) h6), ⟨⟨gtt (eqn9 (lim_0 (show j.1 = modI n 700 by have := j.2; have := lt_f g; omega) h6).2.2), z_aw0 _⟩, fun _ => ⟨(eqn9 (lim_0 (show j.1 = modI n 700 by have := j.2; have := lt_f g; omega) h6).2.2), ⟨(), rfl, nofun⟩⟩⟩⟩⟩⟩⟩⟩⟩⟩⟩⟩⟩⟩⟩⟩⟩⟩⟩⟩⟩⟩⟩, fun h => (h trivial).elim⟩⟩⟩⟩⟩⟩⟩⟩⟩⟩⟩⟩⟩⟩⟩)
theorem l_lim9 (n x t d : Int) (hx : 0 ≤ x ∧ x < 256) (ht : 0 ≤ t ∧ t < 256) (hd : 0 ≤ d ∧ d < 256) : Gives Try.prog 9 [.int .i64 n, .int .u8 x, .int .u8 t, .int .u8 d] [] Unit (fun _ => .bool true) (fun _ => []) := by
  obtain ⟨a, rfl⟩ := Int.eq_ofNat_of_zero_le hx.1
  obtain ⟨b, rfl⟩ := Int.eq_ofNat_of_zero_le ht.1
  obtain ⟨c, rfl⟩ := Int.eq_ofNat_of_zero_le hd.1
  have := l_lim n (UInt8.ofNat a) (UInt8.ofNat b) (UInt8.ofNat c) []
  rwa [ofNat_lt (by omega), ofNat_lt (by omega), ofNat_lt (by omega)] at this
end Go.Proofs.Ytmgjlfcoikobaaa

