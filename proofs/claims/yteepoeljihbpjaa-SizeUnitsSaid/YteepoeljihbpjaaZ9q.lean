/- Package lz over this translation: matches appended, tokens carried out, Decompress. No conditions. -/
import Derived.Test.YteepoeljihbpjaaZ9p
namespace Go.Proofs.Yteepoeljihbpjaa
open Go.RowKit Sx
set_option maxRecDepth 100000

theorem shl8_add {a b : UInt8} : IntKind.i64.wrap (IntKind.i64.wrap ((a.toNat : Int) * 2 ^ (min (8 : Int).toNat IntKind.i64.bits)) + (b.toNat : Int)) = ((a.toNat * 256 + b.toNat : Nat) : Int) := by
  have ha := a.toNat_lt
  have hb := b.toNat_lt
  have e : (2 : Int) ^ (min (8 : Int).toNat IntKind.i64.bits) = 256 := by decide
  rw [e, show ((a.toNat : Int) * 256) = ((a.toNat * 256 : Nat) : Int) by omega, wrap_nat (by omega), show (((a.toNat * 256 : Nat) : Int) + (b.toNat : Int)) = ((a.toNat * 256 + b.toNat : Nat) : Int) by omega, wrap_nat (by omega)]
theorem mul_add8 {a b : UInt8} : IntKind.i64.wrap (IntKind.i64.wrap ((a.toNat : Int) * 256) + (b.toNat : Int)) = ((a.toNat * 256 + b.toNat : Nat) : Int) := by
  have ha := a.toNat_lt
  have hb := b.toNat_lt
  rw [show ((a.toNat : Int) * 256) = ((a.toNat * 256 : Nat) : Int) by omega, wrap_nat (by omega), show (((a.toNat * 256 : Nat) : Int) + (b.toNat : Int)) = ((a.toNat * 256 + b.toNat : Nat) : Int) by omega, wrap_nat (by omega)]
theorem one_add8 {a b : UInt8} : IntKind.i64.wrap (((a.toNat * 256 + b.toNat : Nat) : Int) + 1) = ((a.toNat * 256 + b.toNat + 1 : Nat) : Int) := by
  have ha := a.toNat_lt
  have hb := b.toNat_lt
  rw [show (((a.toNat * 256 + b.toNat : Nat) : Int) + 1) = ((a.toNat * 256 + b.toNat + 1 : Nat) : Int) by omega, wrap_nat (by omega)]
theorem eq0_t {n : Nat} (h : n = 0) : ((n : Int) == 0) = true := by subst h; rfl
theorem eq0_f {n : Nat} (h : n ≠ 0) : ((n : Int) == 0) = false := by simp; omega
theorem gtn_t {a b : Nat} (h : b < a) : decide ((a : Int) > (b : Int)) = true := by apply decide_eq_true; omega
theorem gtn_f {a b : Nat} (h : a ≤ b) : decide ((a : Int) > (b : Int)) = false := by apply decide_eq_false; omega
theorem ltn_t {a b : Nat} (h : a < b) : decide ((a : Int) < (b : Int)) = true := by apply decide_eq_true; omega
theorem ltn_f {a b : Nat} (h : b ≤ a) : decide ((a : Int) < (b : Int)) = false := by apply decide_eq_false; omega
theorem sub_lit {k n : Nat} (h : n ≤ k) (hk : k ≤ 4611686018427387904) : IntKind.i64.wrap ((k : Int) - (n : Int)) = ((k - n : Nat) : Int) := sub_n9 h (by omega)
theorem u8_lt (b : UInt8) : b.toNat < 256 := b.toNat_lt
section
variable {ρ : Operand → Value} {dst : Option Tmp} {type : TypeId} {pos : String} {after : Array Edge} {guard : Option (Nat × Bool)}
/-- A nil slice, as a thing made of nothing. -/
theorem thg_nil (A : Facts) (hρ : ρ (.const (.slice none 0 0)) = .slice none 0 0 := by rfl) : GivesT Try.prog (execOp ρ ⟨dst, .assign (.const (.slice none 0 0)), type, pos, after, guard⟩) A (fun F => F = []) Unit (fun _ => bV [] pvnil) (fun _ => []) (fun _ => bT [] pvnil) := by
  intro w F hT _ _ _
  have hrun : (execOp ρ ⟨dst, .assign (.const (.slice none 0 0)), type, pos, after, guard⟩).run Try.prog w = .ok (.value (.slice none 0 0)) w := by simp [execOp, hρ]
  unfold OpRunT
  rw [hrun]
  exact ⟨(), [], rfl, rfl, fun _ h => (by cases h), fun _ h => (by cases h), fun _ h => (by cases h), fun _ h => (by cases h), fun _ h => (by cases h), .refl _ _⟩
end
theorem cutA (y : Byt) {c : Nat} (h : c ≤ y.n) : (0 : Int) ≤ 0 ∧ (0 : Int) ≤ (c : Int) ∧ (c : Int) ≤ (y.cap : Int) := by have := y.hc; omega
theorem cutB (y : Byt) {c : Nat} (h : c ≤ y.n) : (0 : Int) ≤ (c : Int) ∧ (c : Int) ≤ (y.n : Int) ∧ (y.n : Int) ≤ (y.cap : Int) := by have := y.hc; omega
theorem cutC (y : Byt) {a b : Nat} (hab : a ≤ b) (h : b ≤ y.n) : (0 : Int) ≤ (a : Int) ∧ (a : Int) ≤ (b : Int) ∧ (b : Int) ≤ (y.cap : Int) := by have := y.hc; omega
/-- What follows the first byte. -/
abbrev Byt.tl (y : Byt) (h : 0 < y.n) : Byt := y.sub 1 y.n h (Nat.le_refl _)
theorem tl_len (y : Byt) (h : 0 < y.n) : (y.tl h).n = y.n - 1 := rfl
def dq0 {r : Nat × Bs} {c : Nat} (e : r = (c, [])) : PV r.2 := ⟨.inl none, by rw [e]; rfl⟩
theorem dq0_v {r : Nat × Bs} {c : Nat} (e : r = (c, [])) : Value.tuple #[.slice none 0 0, .int .i64 (c : Int)] = .tuple #[bV r.2 (dq0 e), .int .i64 (r.1 : Int)] := by subst e; rfl
theorem dq0_m {r : Nat × Bs} {c : Nat} (e : r = (c, [])) {L : Facts} : ∀ q ∈ pL r.2 (dq0 e).1, q ∈ L := fun _ h => (by cases h)
def dq1 {r : Nat × Bs} {o : Bs} (e : r = (0, o)) (w : PV o) : PV r.2 := w.cast (by rw [e])
theorem dq1_v {r : Nat × Bs} {o : Bs} (e : r = (0, o)) (w : PV o) : Value.tuple #[bV o w, .int .i64 0] = .tuple #[bV r.2 (dq1 e w), .int .i64 (r.1 : Int)] := by subst e; rfl
theorem dq1_m {r : Nat × Bs} {o : Bs} (e : r = (0, o)) (w : PV o) : ∀ z, z ∈ pL r.2 (dq1 e w).1 → z ∈ pL o w.1 := by subst e; exact fun _ h => h

/-- Where Decompress stands. -/
structure DecS (y : Byt) where
  z : Byt
  hz : z.L = y.L
  hk : z.n ≤ y.n
  o : Bs
  w : PV o
  ho : o.length ≤ 65536
  e : decS o z.l = dec y.l
def dec0 (y : Byt) : DecS y := ⟨y, rfl, Nat.le_refl _, [], pvnil, by decide, rfl⟩
section
variable {y : Byt} (x : DecS y)
theorem DecS.fin (h : x.z.n = 0) : dec y.l = (0, x.o) := by
  have : x.z.l = [] := List.length_eq_zero_iff.1 (by rw [x.z.hl, h])
  rw [← x.e, this]; rfl
theorem DecS.sub {A : Facts} (hy : Sub y.L A) : Sub x.z.L A := by rw [x.hz]; exact hy
theorem DecS.lit_bad (h : 0 < x.z.n) (ht : (x.z.l.getD 0 0).toNat < 128) (h1 : (x.z.l.getD 0 0).toNat = 0 ∨ x.z.n - 1 < (x.z.l.getD 0 0).toNat) : dec y.l = (3, []) := by
  rw [← x.e]
  exact dec_lit_bad (k := 0) (l := x.z.l) (by rw [x.z.hl]; exact h) ht (by rw [x.z.hl]; exact h1)
theorem DecS.lit_big (h : 0 < x.z.n) (ht : (x.z.l.getD 0 0).toNat < 128) (h1 : ¬ ((x.z.l.getD 0 0).toNat = 0 ∨ x.z.n - 1 < (x.z.l.getD 0 0).toNat)) (h2 : 65536 < x.o.length + (x.z.l.getD 0 0).toNat) : dec y.l = (6, []) := by
  rw [← x.e]
  exact dec_lit_big (k := 0) (l := x.z.l) (by rw [x.z.hl]; exact h) ht (by rw [x.z.hl]; exact h1) h2
theorem DecS.lit_c (h : 0 < x.z.n) (h1 : ¬ ((x.z.l.getD 0 0).toNat = 0 ∨ x.z.n - 1 < (x.z.l.getD 0 0).toNat)) : (x.z.l.getD 0 0).toNat ≤ (x.z.tl h).n := by show (x.z.l.getD 0 0).toNat ≤ x.z.n - 1; omega
def DecS.lit (h : 0 < x.z.n) (ht : (x.z.l.getD 0 0).toNat < 128) (h1 : ¬ ((x.z.l.getD 0 0).toNat = 0 ∨ x.z.n - 1 < (x.z.l.getD 0 0).toNat)) (h2 : ¬ 65536 < x.o.length + (x.z.l.getD 0 0).toNat) (w : PV (x.o ++ ((x.z.tl h).sub 0 ((x.z.l.getD 0 0).toNat) (Nat.zero_le _) (x.lit_c h h1)).l)) : DecS y :=
  ⟨(x.z.tl h).sub ((x.z.l.getD 0 0).toNat) (x.z.tl h).n (x.lit_c h h1) (Nat.le_refl _), x.hz, by have := x.hk; show x.z.n - 1 - (x.z.l.getD 0 0).toNat ≤ y.n; omega, _, w, by
    have e : ((x.z.tl h).sub 0 ((x.z.l.getD 0 0).toNat) (Nat.zero_le _) (x.lit_c h h1)).l.length = (x.z.l.getD 0 0).toNat - 0 := ((x.z.tl h).sub 0 ((x.z.l.getD 0 0).toNat) (Nat.zero_le _) (x.lit_c h h1)).hl
    rw [List.length_append, e]; omega, by
    rw [← x.e]
    have hl := x.z.hl
    refine Eq.trans ?_ (dec_lit (k := 0) (l := x.z.l) (o := x.o) (by omega) ht (by rw [hl]; exact h1) h2).symm
    show decS (x.o ++ ((((x.z.l.drop 1).take (x.z.n - 1)).drop 0).take ((x.z.l.getD 0 0).toNat - 0))) ((((x.z.l.drop 1).take (x.z.n - 1)).drop ((x.z.l.getD 0 0).toNat)).take (x.z.n - 1 - (x.z.l.getD 0 0).toNat)) = _
    have e1 : (x.z.l.drop 1).take (x.z.n - 1) = x.z.l.drop 1 := List.take_of_length_le (by rw [List.length_drop]; omega)
    rw [e1, List.drop_zero, Nat.sub_zero, List.drop_drop, List.take_of_length_le (l := x.z.l.drop (1 + (x.z.l.getD 0 0).toNat)) (by rw [List.length_drop]; omega)]⟩
theorem DecS.m_short (h : 0 < x.z.n) (ht : ¬ (x.z.l.getD 0 0).toNat < 128) (h1 : x.z.n < 3) : dec y.l = (3, []) := by
  rw [← x.e]
  exact dec_m_short (k := 0) (l := x.z.l) (by rw [x.z.hl]; exact h) ht (by rw [x.z.hl]; exact h1)
theorem DecS.m_far (h : 0 < x.z.n) (ht : ¬ (x.z.l.getD 0 0).toNat < 128) (h1 : ¬ x.z.n < 3) (h2 : x.o.length < tokD x.z.l 0) : dec y.l = (3, []) := by
  rw [← x.e]
  exact dec_m_far (k := 0) (l := x.z.l) (by rw [x.z.hl]; exact h) ht (by rw [x.z.hl]; exact h1) h2
theorem DecS.m_big (h : 0 < x.z.n) (ht : ¬ (x.z.l.getD 0 0).toNat < 128) (h1 : ¬ x.z.n < 3) (h2 : ¬ x.o.length < tokD x.z.l 0) (h3 : 65536 < x.o.length + ((x.z.l.getD 0 0).toNat - 124)) : dec y.l = (6, []) := by
  rw [← x.e]
  exact dec_m_big (k := 0) (l := x.z.l) (by rw [x.z.hl]; exact h) ht (by rw [x.z.hl]; exact h1) h2 h3
def DecS.m (ht : ¬ (x.z.l.getD 0 0).toNat < 128) (h1 : ¬ x.z.n < 3) (h2 : ¬ x.o.length < tokD x.z.l 0) (h3 : ¬ 65536 < x.o.length + ((x.z.l.getD 0 0).toNat - 124)) (w : PV (copyB x.o (tokD x.z.l 0) ((x.z.l.getD 0 0).toNat - 124))) : DecS y :=
  ⟨x.z.sub 3 x.z.n (by omega) (Nat.le_refl _), x.hz, by have := x.hk; show x.z.n - 3 ≤ y.n; omega, _, w, by rw [copy_len]; omega, by
    rw [← x.e]
    have hl := x.z.hl
    refine Eq.trans ?_ (dec_m (k := 0) (l := x.z.l) (o := x.o) (by omega) ht (by rw [hl]; exact h1) h2 h3).symm
    show decS _ ((x.z.l.drop 3).take (x.z.n - 3)) = _
    rw [List.take_of_length_le (by rw [List.length_drop]; omega)]⟩
end
/-- How far a copy is. -/
abbrev CpS (l : Bs) (d n : Nat) : Type := Σ j : Upto n, PV (copyB l d j.1)
theorem cp_fin {l : Bs} {d n j : Nat} (h : n ≤ j) (hj : j ≤ n) : copyB l d j = copyB l d n := by rw [show j = n by omega]
theorem cp_val {l m : Bs} (e : l = m) (q : PV l) {u v : Value} : Value.tuple #[bV l q, u, v] = .tuple #[bV m (q.cast e), u, v] := by subst e; rfl
theorem lz_lit {a b : Nat} (h1 : ¬ a = 0) (h2 : ¬ b < a) : ¬ (a = 0 ∨ b < a) := fun h => h.elim h1 h2
theorem good_lz_appendMatch : Good Try.prog 23 Try.f23 2 := ⟨Try.func23, by kernel_rfl, by kernel_rfl⟩
theorem z_match {l : Bs} (q : PV l) (n dd : Nat) (hn : n ≤ 131) (h1 : 1 ≤ dd) (h2 : dd ≤ 1024) (A : Facts) (hl : l.length ≤ 1000000000) : CallT Try.prog 23 [bV l q, .agg #[.int .i64 ((n : Nat) : Int), .int .i64 ((dd : Nat) : Int)]] A (bT l q) (PV (l ++ tok n dd)) (fun p => bV (l ++ tok n dd) p) (fun _ => []) (fun p => bT (l ++ tok n dd) p) :=
  givesT_of_vcF Try.mixed good_lz_appendMatch (args := [(bV l q, []), (.agg #[.int .i64 ((n : Nat) : Int), .int .i64 ((dd : Nat) : Int)], [])]) (B := A) (O := [.opt 1 [(2, .ld (.int .i64 ((dd - 1 : Nat) : Int)))], .opt 2 [(3, .ld (.int .i64 ((n + 124 : Nat) : Int))), (4, .ld (.int .u8 ((UInt8.ofNat (n + 124)).toNat : Int))), (7, .ld (.int .u8 ((UInt8.ofNat ((dd - 1) / 256)).toNat : Int))), (9, .ld (.int .u8 ((UInt8.ofNat ((dd - 1) % 256)).toNat : Int))), (10, .call Nat 0 (fun m => (Byt.row m [UInt8.ofNat (n + 124), UInt8.ofNat ((dd - 1) / 256), UInt8.ofNat ((dd - 1) % 256)]).v) (fun m => (Byt.row m [UInt8.ofNat (n + 124), UInt8.ofNat ((dd - 1) / 256), UInt8.ofNat ((dd - 1) % 256)]).L)), (11, .thg 0 (PV (l ++ [UInt8.ofNat (n + 124), UInt8.ofNat ((dd - 1) / 256), UInt8.ofNat ((dd - 1) % 256)])) (pv0 _) (fun q => bV (l ++ [UInt8.ofNat (n + 124), UInt8.ofNat ((dd - 1) / 256), UInt8.ofNat ((dd - 1) % 256)]) q) (fun _ => []) (fun q => bT (l ++ [UInt8.ofNat (n + 124), UInt8.ofNat ((dd - 1) / 256), UInt8.ofNat ((dd - 1) % 256)]) q))]]) (.app ((.refl _)) (.app (.nil _) (.app (.nil _) (.nil _)))) (⟨ld_sub (sub_n9 (b := 1) h1 (by omega)) _, ⟨ld_add (add_n9 (b := 124) (by omega)) _, ⟨ld_conv8 (n + 124) _, ⟨by decide, ⟨ld_cv8 _ (wrap8' ((dd - 1) / 256) (fdiv_pow (dd - 1) 8 (by decide))) _, ⟨ld_cv8 _ (wrap8m (dd - 1) rfl) _, ⟨build_3 _ _ _ _, fun r => ⟨app_p (Byt.row r [UInt8.ofNat (n + 124), UInt8.ofNat ((dd - 1) / 256), UInt8.ofNat ((dd - 1) % 256)]) (by intro zz h; have h : zz ∈ (Byt.row r [UInt8.ofNat (n + 124), UInt8.ofNat ((dd - 1) / 256), UInt8.ofNat ((dd - 1) % 256)]).L := h; exact List.mem_append.2 (.inr (by simpa using h))) (by show l.length + 3 ≤ _; omega), fun w1 => ⟨w1, rfl, nofun, fun _ g => g, trivial⟩⟩⟩⟩⟩⟩⟩⟩⟩)
end Go.Proofs.Yteepoeljihbpjaa

