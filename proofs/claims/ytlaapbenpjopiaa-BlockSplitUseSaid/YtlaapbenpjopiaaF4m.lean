/- A number of two words by a word, over natural numbers: the divisor with its highest bit set, the dividend as far to the left, two half words of the quotient. No Go function in this text; no conditions. -/
import Derived.Test.YtlaapbenpjopiaaSxs
import Derived.Test.YtlaapbenpjopiaaMd
namespace Go.Proofs.Ytlaapbenpjopiaa
open Go.RowKit Sx
set_option maxRecDepth 100000

/-- What the division of two words works with. -/
structure DV (hi lo y s Y v1 v0 U L d1 d0 : Nat) : Prop where
  hi0 : 0 < hi
  hiy : hi < y
  hy : y < 18446744073709551616
  hlo : lo < 18446744073709551616
  hs : s ≤ 63
  sy : blen y + s = 64
  eY : y * 2 ^ s = Y
  bY : Y < 18446744073709551616
  yv : Y = v1 * 4294967296 + v0
  b0 : v0 < 4294967296
  b1 : 2147483648 ≤ v1
  b2 : v1 < 4294967296
  hsh : hi * 2 ^ s < 18446744073709551616
  lsh : lo / 2 ^ (64 - s) < 18446744073709551616
  eU : hi * 2 ^ s ||| lo / 2 ^ (64 - s) = U
  eL : lo * 2 ^ s % 18446744073709551616 = L
  lv : L = d1 * 4294967296 + d0
  c1 : d1 < 4294967296
  c0 : d0 < 4294967296
  uY : U < Y
  q : (U * 18446744073709551616 + L) / Y = (hi * 18446744073709551616 + lo) / y
  r : (U * 18446744073709551616 + L) % Y / 2 ^ s = (hi * 18446744073709551616 + lo) % y
theorem dv_of {hi lo y : Nat} (h0 : 0 < hi) (h1 : hi < y) (h2 : y < 18446744073709551616) (h3 : lo < 18446744073709551616) : ∃ s Y v1 v0 U L d1 d0, DV hi lo y s Y v1 v0 U L d1 d0 := by
  have hy0 : y ≠ 0 := by omega
  have hb1 := blen_lt y
  have hb2 := blen_le hy0
  have hbp := blen_pos hy0
  have hb64 : blen y ≤ 64 := blen_le_of (by omega)
  obtain ⟨s, hs⟩ : ∃ s, s = 64 - blen y := ⟨_, rfl⟩
  have hsy : blen y + s = 64 := by omega
  have hs63 : s ≤ 63 := by omega
  have hp : 0 < 2 ^ s := Nat.two_pow_pos s
  have p64 : 2 ^ (64 - s) * 2 ^ s = 18446744073709551616 := by rw [← Nat.pow_add, show 64 - s + s = 64 by omega]
  have pb : 2 ^ blen y * 2 ^ s = 18446744073709551616 := by rw [← Nat.pow_add, hsy]
  have pb1 : 2 ^ (blen y - 1) * 2 ^ s = 9223372036854775808 := by rw [← Nat.pow_add, show blen y - 1 + s = 63 by omega]
  have hY1 : y * 2 ^ s < 18446744073709551616 := by rw [← pb]; exact Nat.mul_lt_mul_of_pos_right hb1 hp
  have hY2 : 9223372036854775808 ≤ y * 2 ^ s := by rw [← pb1]; exact Nat.mul_le_mul_right _ hb2
  have hH : hi * 2 ^ s < y * 2 ^ s := Nat.mul_lt_mul_of_pos_right h1 hp
  have hl1 : lo / 2 ^ (64 - s) < 2 ^ s := by
    rw [Nat.div_lt_iff_lt_mul (Nat.two_pow_pos _), Nat.mul_comm, p64]; exact h3
  have hps : 2 ^ s ≤ 2 ^ 63 := Nat.pow_le_pow_right (by decide) hs63
  have hor : hi * 2 ^ s ||| lo / 2 ^ (64 - s) = hi * 2 ^ s + lo / 2 ^ (64 - s) := by
    rw [Nat.mul_comm, Nat.two_pow_add_eq_or_of_lt hl1]
  have hlq : lo * 2 ^ s / 18446744073709551616 = lo / 2 ^ (64 - s) := by
    rw [← p64]; exact Nat.mul_div_mul_right _ _ hp
  have hlm := Nat.div_add_mod (lo * 2 ^ s) 18446744073709551616
  rw [hlq] at hlm
  obtain ⟨U, hU⟩ : ∃ U, U = hi * 2 ^ s + lo / 2 ^ (64 - s) := ⟨_, rfl⟩
  obtain ⟨L, hL⟩ : ∃ L, L = lo * 2 ^ s % 18446744073709551616 := ⟨_, rfl⟩
  have hLb : L < 18446744073709551616 := by rw [hL]; exact Nat.mod_lt _ (by decide)
  have hN : (hi * 18446744073709551616 + lo) * 2 ^ s = U * 18446744073709551616 + L := by
    rw [hU, hL, Nat.add_mul, Nat.mul_right_comm]
    generalize hi * 2 ^ s = a at *
    generalize lo * 2 ^ s % 18446744073709551616 = b at *
    generalize lo / 2 ^ (64 - s) = c at *
    omega
  have hlt : hi * 18446744073709551616 + lo < y * 18446744073709551616 := by omega
  have hlt2 : (hi * 18446744073709551616 + lo) * 2 ^ s < y * 18446744073709551616 * 2 ^ s := Nat.mul_lt_mul_of_pos_right hlt hp
  rw [hN, Nat.mul_right_comm] at hlt2
  have hUY : U < y * 2 ^ s := by generalize y * 2 ^ s = Y at *; omega
  refine ⟨s, y * 2 ^ s, y * 2 ^ s / 4294967296, y * 2 ^ s % 4294967296, U, L, L / 4294967296, L % 4294967296, ⟨h0, h1, h2, h3, hs63, hsy, rfl, hY1, by omega, by omega, by omega, by omega, by omega, ?_, by rw [hor, hU], hL.symm, by omega, by omega, by omega, hUY, ?_, ?_⟩⟩
  · exact Nat.lt_of_le_of_lt (Nat.div_le_self _ _) h3
  · rw [← hN]; exact Nat.mul_div_mul_right _ _ hp
  · rw [← hN, Nat.mul_mod_mul_right, Nat.mul_div_cancel _ hp]

/-- One half word of the quotient: an estimate that is no smaller. -/
structure HX (u d Y v1 : Nat) where
  q : Nat
  r : Nat
  h1 : q * v1 + r = u
  h2 : (u * 4294967296 + d) / Y ≤ q
  h3 : r < 4294967296
structure HC (u d Y v1 v0 : Nat) : Prop where
  yv : Y = v1 * 4294967296 + v0
  b0 : v0 < 4294967296
  b1 : 2147483648 ≤ v1
  b2 : v1 < 4294967296
  uY : u < Y
  bd : d < 4294967296
theorem HC.bY {u d Y v1 v0 : Nat} (c : HC u d Y v1 v0) : Y < 18446744073709551616 := by have := c.yv; have := c.b0; have := c.b2; omega
theorem HC.bu {u d Y v1 v0 : Nat} (c : HC u d Y v1 v0) : u < 18446744073709551616 := Nat.lt_trans c.uY c.bY
section
variable {u d Y v1 v0 : Nat}
def HX.first (c : HC u d Y v1 v0) : HX u d Y v1 where
  q := u / v1
  r := u % v1
  h1 := by rw [Nat.mul_comm]; exact Nat.div_add_mod _ _
  h2 := start_le c.yv ⟨by have := c.b1; omega, Nat.mod_lt _ (by have := c.b1; omega), c.bd⟩ (by rw [Nat.mul_comm]; exact Nat.div_add_mod _ _)
  h3 := Nat.lt_trans (Nat.mod_lt _ (by have := c.b1; omega)) c.b2
theorem HX.qb (x : HX u d Y v1) (c : HC u d Y v1 v0) : x.q ≤ 8589934592 := q_bound c.yv c.b0 c.b1 c.uY x.h1
theorem HX.gtA (x : HX u d Y v1) (c : HC u d Y v1 v0) (h : 4294967296 ≤ x.q) : (u * 4294967296 + d) / Y < x.q := Nat.lt_of_lt_of_le (half_lt c.uY c.bd) h
theorem HX.gtB (x : HX u d Y v1) (c : HC u d Y v1 v0) (h : 4294967296 * x.r + d < x.q * v0) : (u * 4294967296 + d) / Y < x.q := half_gt c.yv (by have := c.uY; omega) x.h1 h
theorem HX.eq (x : HX u d Y v1) (c : HC u d Y v1 v0) (h : ¬ 4294967296 * x.r + d < x.q * v0) : x.q = (u * 4294967296 + d) / Y := Nat.le_antisymm (half_le c.yv (by have := c.uY; omega) x.h1 (Nat.not_lt.1 h)) x.h2
theorem HX.pos (x : HX u d Y v1) (g : (u * 4294967296 + d) / Y < x.q) : 0 < x.q := Nat.lt_of_le_of_lt (Nat.zero_le _) g
theorem HX.brk (x : HX u d Y v1) (c : HC u d Y v1 v0) (g : (u * 4294967296 + d) / Y < x.q) (h : 4294967296 ≤ x.r + v1) : x.q - 1 = (u * 4294967296 + d) / Y :=
  Nat.le_antisymm (half_break c.yv c.b0 c.uY (half_step x.h1 (x.pos g)) h) (Nat.le_sub_one_of_lt g)
def HX.next (x : HX u d Y v1) (g : (u * 4294967296 + d) / Y < x.q) (h : ¬ 4294967296 ≤ x.r + v1) : HX u d Y v1 := ⟨x.q - 1, x.r + v1, half_step x.h1 (x.pos g), Nat.le_sub_one_of_lt g, Nat.not_le.1 h⟩
theorem HX.mu (x : HX u d Y v1) (g : (u * 4294967296 + d) / Y < x.q) : x.q - 1 < x.q := Nat.sub_lt (x.pos g) Nat.one_pos
theorem HX.w1 (x : HX u d Y v1) (c : HC u d Y v1 v0) (g : (u * 4294967296 + d) / Y < x.q) : IntKind.u64.wrap ((x.q : Int) - 1) = ((x.q - 1 : Nat) : Int) := wn_sub (b := 1) (x.pos g) (Nat.lt_of_le_of_lt (x.qb c) (by decide))
theorem HX.w2 (x : HX u d Y v1) (c : HC u d Y v1 v0) : IntKind.u64.wrap ((x.r : Int) + (v1 : Int)) = ((x.r + v1 : Nat) : Int) := wn_add (by have := x.h3; have := c.b2; omega)
theorem HX.w3 (x : HX u d Y v1) (c : HC u d Y v1 v0) (h : ¬ 4294967296 ≤ x.q) : IntKind.u64.wrap ((x.q : Int) * (v0 : Int)) = ((x.q * v0 : Nat) : Int) :=
  wn_mul (Nat.lt_of_le_of_lt (Nat.mul_le_mul (Nat.le_of_lt (Nat.not_le.1 h)) (Nat.le_of_lt_succ (show v0 < 4294967295 + 1 from c.b0))) (by decide))
theorem HX.w4 (x : HX u d Y v1) : IntKind.u64.wrap (4294967296 * (x.r : Int)) = ((4294967296 * x.r : Nat) : Int) := wn_mul (a := 4294967296) (by have := x.h3; omega)
theorem HX.w5 (x : HX u d Y v1) (c : HC u d Y v1 v0) : IntKind.u64.wrap (((4294967296 * x.r : Nat) : Int) + (d : Int)) = ((4294967296 * x.r + d : Nat) : Int) := wn_add (by have := x.h3; have := c.bd; omega)
end
theorem ge_t {m n : Nat} (h : n ≤ m) : decide ((m : Int) ≥ (n : Int)) = true := by apply decide_eq_true; omega
theorem ge_f {m n : Nat} (h : ¬ n ≤ m) : decide ((m : Int) ≥ (n : Int)) = false := by apply decide_eq_false; omega
theorem gt_t {m n : Nat} (h : n < m) : decide ((m : Int) > (n : Int)) = true := by apply decide_eq_true; omega
theorem gt_f {m n : Nat} (h : ¬ n < m) : decide ((m : Int) > (n : Int)) = false := by apply decide_eq_false; omega
theorem ge_i {m n : Nat} (h : decide ((m : Int) ≥ (n : Int)) = true) : n ≤ m := by have := of_decide_eq_true h; omega
theorem nge_i {m n : Nat} (h : decide ((m : Int) ≥ (n : Int)) = false) : ¬ n ≤ m := by have := of_decide_eq_false h; omega
/-- The rest behind a half word, in words that wrap. -/
theorem half_sub {u d Q Y z : Nat} (h : Q * Y + z = u * 4294967296 + d) (hz : z < 18446744073709551616) : IntKind.u64.wrap (IntKind.u64.wrap (IntKind.u64.wrap ((u : Int) * 4294967296) + (d : Int)) - IntKind.u64.wrap ((Q : Int) * (Y : Int))) = (z : Int) := by
  rw [← Int.natCast_mul Q Y]
  simp only [IntKind.wrap, IntKind.bits, IntKind.signed]
  generalize Q * Y = m at *
  simp
  omega
theorem half_rest (u d Y : Nat) (_ : 0 < Y) : (u * 4294967296 + d) / Y * Y + (u * 4294967296 + d) % Y = u * 4294967296 + d := by rw [Nat.mul_comm]; exact Nat.div_add_mod _ _
theorem half_mod0 {n m Y k d : Nat} (h : n = m * k + d) : n % Y = (m % Y * k + d) % Y := by
  rw [h, Nat.add_mod, Nat.mul_mod m k, Nat.add_mod (m % Y * k), Nat.mul_mod (m % Y) k, Nat.mod_mod]
theorem half_mod (u d1 d0 Y : Nat) : (u * 18446744073709551616 + (d1 * 4294967296 + d0)) % Y = ((u * 4294967296 + d1) % Y * 4294967296 + d0) % Y := half_mod0 (by omega)
section
variable {hi lo y s Y v1 v0 U L d1 d0 : Nat}
theorem DV.hc (h : DV hi lo y s Y v1 v0 U L d1 d0) : HC U d1 Y v1 v0 := ⟨h.yv, h.b0, h.b1, h.b2, h.uY, h.c1⟩
theorem DV.hc2 (h : DV hi lo y s Y v1 v0 U L d1 d0) : HC ((U * 4294967296 + d1) % Y) d0 Y v1 v0 := ⟨h.yv, h.b0, h.b1, h.b2, Nat.mod_lt _ (by have := h.uY; omega), h.c0⟩
theorem DV.pY (h : DV hi lo y s Y v1 v0 U L d1 d0) : 0 < Y := by have := h.uY; omega
theorem DV.quo (h : DV hi lo y s Y v1 v0 U L d1 d0) : (U * 4294967296 + d1) / Y * 4294967296 + ((U * 4294967296 + d1) % Y * 4294967296 + d0) / Y = (hi * 18446744073709551616 + lo) / y := by
  rw [← half_join U d1 d0 Y h.pY, ← h.lv, h.q]
theorem DV.rem (h : DV hi lo y s Y v1 v0 U L d1 d0) : ((U * 4294967296 + d1) % Y * 4294967296 + d0) % Y / 2 ^ s = (hi * 18446744073709551616 + lo) % y := by
  rw [← half_mod, ← h.lv, h.r]
theorem DV.quo_lt (h : DV hi lo y s Y v1 v0 U L d1 d0) : (hi * 18446744073709551616 + lo) / y < 18446744073709551616 := by
  have h1 := half_lt h.uY h.c1
  have h2 := half_lt h.hc2.uY h.c0
  rw [← h.quo]
  omega
end
theorem ge_32 {m : Nat} (h : 4294967296 ≤ m) : decide ((m : Int) ≥ 4294967296) = true := by apply decide_eq_true; omega
theorem nge_32 {m : Nat} (h : ¬ 4294967296 ≤ m) : decide ((m : Int) ≥ 4294967296) = false := by apply decide_eq_false; omega
theorem of_32 {m : Nat} (h : decide ((m : Int) ≥ 4294967296) = true) : 4294967296 ≤ m := by have := of_decide_eq_true h; omega
theorem nof_32 {m : Nat} (h : decide ((m : Int) ≥ 4294967296) = false) : ¬ 4294967296 ≤ m := by have := of_decide_eq_false h; omega
theorem dz_f {b : Nat} (h : 0 < b) : ((b : Int) == 0) = false := by simp; omega
theorem dle_f {m n : Nat} (h : n < m) : decide ((m : Int) ≤ (n : Int)) = false := by apply decide_eq_false; omega
theorem s_64 {y s : Nat} (h : blen y + s = 64) : Value.int .i64 (IntKind.i64.wrap (64 - ((blen y : Nat) : Int))) = .int .i64 ((s : Nat) : Int) := by
  have e : IntKind.i64.wrap (64 - ((blen y : Nat) : Int)) = (s : Int) := by
    simp [IntKind.wrap, IntKind.bits, IntKind.signed]
    omega
  rw [e]
/-- Both half words and their rests. -/
structure D2 (hi lo y s Y v1 v0 U d1 d0 u2 Q1 r2 : Nat) : Prop where
  c1 : HC U d1 Y v1 v0
  c2 : HC u2 d0 Y v1 v0
  e1 : (U * 4294967296 + d1) / Y = Q1
  e2 : Q1 * Y + u2 = U * 4294967296 + d1
  e3 : (u2 * 4294967296 + d0) / Y * Y + r2 = u2 * 4294967296 + d0
  ql : Q1 < 4294967296
  q2 : (u2 * 4294967296 + d0) / Y < 4294967296
  q : Q1 * 4294967296 + (u2 * 4294967296 + d0) / Y = (hi * 18446744073709551616 + lo) / y
  r : r2 / 2 ^ s = (hi * 18446744073709551616 + lo) % y
  rY : r2 < Y
section
variable {hi lo y s Y v1 v0 U L d1 d0 u2 Q1 r2 : Nat}
theorem d2_of (h : DV hi lo y s Y v1 v0 U L d1 d0) : ∃ u2 Q1 r2, D2 hi lo y s Y v1 v0 U d1 d0 u2 Q1 r2 :=
  ⟨(U * 4294967296 + d1) % Y, (U * 4294967296 + d1) / Y, ((U * 4294967296 + d1) % Y * 4294967296 + d0) % Y, h.hc, h.hc2, rfl, half_rest _ _ _ h.pY, half_rest _ _ _ h.pY, half_lt h.uY h.c1, half_lt h.hc2.uY h.c0, h.quo, h.rem, Nat.mod_lt _ h.pY⟩
theorem DV.y0 (h : DV hi lo y s Y v1 v0 U L d1 d0) : 0 < y := by have := h.hiy; omega
theorem DV.s64 (h : DV hi lo y s Y v1 v0 U L d1 d0) : s ≤ 64 := Nat.le_succ_of_le h.hs
theorem DV.t64 (_ : DV hi lo y s Y v1 v0 U L d1 d0) : 64 - s ≤ 64 := Nat.sub_le _ _
theorem DV.mY (h : DV hi lo y s Y v1 v0 U L d1 d0) : y * 2 ^ s % 18446744073709551616 = Y := by rw [h.eY]; exact Nat.mod_eq_of_lt h.bY
theorem DV.mH (h : DV hi lo y s Y v1 v0 U L d1 d0) : hi * 2 ^ s % 18446744073709551616 = hi * 2 ^ s := Nat.mod_eq_of_lt h.hsh
theorem DV.v32 (h : DV hi lo y s Y v1 v0 U L d1 d0) : Y / 2 ^ 32 = v1 := by have := h.yv; have := h.b0; omega
theorem DV.vm (h : DV hi lo y s Y v1 v0 U L d1 d0) : Y % 4294967296 = v0 := by have := h.yv; have := h.b0; omega
theorem DV.d32 (h : DV hi lo y s Y v1 v0 U L d1 d0) : L / 2 ^ 32 = d1 := by have := h.lv; have := h.c0; omega
theorem DV.dm (h : DV hi lo y s Y v1 v0 U L d1 d0) : L % 4294967296 = d0 := by have := h.lv; have := h.c0; omega
theorem DV.bL (h : DV hi lo y s Y v1 v0 U L d1 d0) : L < 18446744073709551616 := by have := h.lv; have := h.c0; have := h.c1; omega
theorem DV.ls (h : DV hi lo y s Y v1 v0 U L d1 d0) : s < 18446744073709551616 := by have := h.hs; omega
theorem DV.sub64 (h : DV hi lo y s Y v1 v0 U L d1 d0) : IntKind.u64.wrap (64 - (s : Int)) = ((64 - s : Nat) : Int) := wn_sub (a := 64) h.s64 (by decide)
theorem HC.v1p {d : Nat} (c : HC U d Y v1 v0) : 0 < v1 := by have := c.b1; omega
theorem HC.qw {d : Nat} (c : HC U d Y v1 v0) : IntKind.u64.wrap (((U / v1 : Nat) : Int) * (v1 : Int)) = ((U / v1 * v1 : Nat) : Int) := wn_mul (Nat.lt_of_le_of_lt (Nat.div_mul_le_self _ _) c.bu)
theorem HC.rw {d : Nat} (c : HC U d Y v1 v0) : IntKind.u64.wrap ((U : Int) - ((U / v1 * v1 : Nat) : Int)) = ((U % v1 : Nat) : Int) := by
  have e : U - U / v1 * v1 = U % v1 := by have := Nat.div_add_mod U v1; rw [Nat.mul_comm] at this; omega
  rw [wn_sub (Nat.div_mul_le_self _ _) c.bu, e]
theorem HC.Y0 {d : Nat} (c : HC U d Y v1 v0) : 0 < Y := by have := c.uY; omega
theorem D2.u2w (k : D2 hi lo y s Y v1 v0 U d1 d0 u2 Q1 r2) {E : Nat} (e : E = (U * 4294967296 + d1) / Y) : IntKind.u64.wrap (IntKind.u64.wrap (IntKind.u64.wrap ((U : Int) * 4294967296) + (d1 : Int)) - IntKind.u64.wrap ((E : Int) * (Y : Int))) = (u2 : Int) :=
  half_sub (by rw [e, k.e1]; exact k.e2) k.c2.bu
theorem D2.r2w (k : D2 hi lo y s Y v1 v0 U d1 d0 u2 Q1 r2) {E : Nat} (e : E = (u2 * 4294967296 + d0) / Y) : IntKind.u64.wrap (IntKind.u64.wrap (IntKind.u64.wrap ((u2 : Int) * 4294967296) + (d0 : Int)) - IntKind.u64.wrap ((E : Int) * (Y : Int))) = (r2 : Int) :=
  half_sub (by rw [e]; exact k.e3) (Nat.lt_trans k.rY k.c1.bY)
theorem D2.q1w (k : D2 hi lo y s Y v1 v0 U d1 d0 u2 Q1 r2) {E : Nat} (e : E = (U * 4294967296 + d1) / Y) : IntKind.u64.wrap ((E : Int) * 4294967296) = ((Q1 * 4294967296 : Nat) : Int) := by
  rw [e, k.e1]
  exact wn_mul (b := 4294967296) (by have := k.ql; omega)
theorem D2.qw (k : D2 hi lo y s Y v1 v0 U d1 d0 u2 Q1 r2) {E : Nat} (e : E = (u2 * 4294967296 + d0) / Y) : IntKind.u64.wrap (((Q1 * 4294967296 : Nat) : Int) + (E : Int)) = (((hi * 18446744073709551616 + lo) / y : Nat) : Int) := by
  rw [wn_add (by rw [e]; have := k.ql; have := k.q2; omega), e, k.q]
end
theorem rw_mul {a a' b b' c : Int} (e1 : a = a') (e2 : b = b') (h : IntKind.u64.wrap (a' * b') = c) : IntKind.u64.wrap (a * b) = c := by subst e1 e2; exact h
theorem rw_and {a a' b c : Int} (e1 : a = a') (h : bits .and .u64 a' b = c) : bits .and .u64 a b = c := by subst e1; exact h
theorem rw_or {a a' b b' c : Int} (e1 : a = a') (e2 : b = b') (h : bits .or .u64 a' b' = c) : bits .or .u64 a b = c := by subst e1 e2; exact h
theorem rw_shr {a a' c d : Int} (e : a = a') (h : a'.fdiv d = c) : a.fdiv d = c := by subst e; exact h
theorem rw_quo {a b b' c : Int} (e : b = b') (h : IntKind.u64.wrap (a.tdiv b') = c) : IntKind.u64.wrap (a.tdiv b) = c := by subst e; exact h
theorem rw_ne {a a' : Int} (e : a = a') (h : a' ≠ 0) : a ≠ 0 := by subst e; exact h
theorem iv {a b : Int} (e : a = b) : Value.int .u64 a = .int .u64 b := congrArg _ e
theorem dv_fin {q a b : Int} (e : a = b) : Value.tuple #[.int .u64 q, .int .u64 a] = .tuple #[.int .u64 q, .int .u64 b] := by subst e; rfl
theorem dv_fin2 {q p a b : Int} (e1 : q = p) (e : a = b) : Value.tuple #[.int .u64 q, .int .u64 a] = .tuple #[.int .u64 p, .int .u64 b] := by subst e1 e; rfl
end Go.Proofs.Ytlaapbenpjopiaa

