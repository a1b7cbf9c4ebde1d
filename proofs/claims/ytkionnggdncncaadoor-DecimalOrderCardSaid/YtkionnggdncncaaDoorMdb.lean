/- Contracts of math/bits.Div64 (by a divisor whose highest bit is set) and of muldiv.estimateDigit over this translation: the quotient of two words by one; an estimate that is never less than the digit. Memory that was there is as it was. -/
import Derived.Test.YtkionnggdncncaaDoorMdn
import Derived.Test.YtkionnggdncncaaDoorSh
namespace Go.Proofs.YtkionnggdncncaaDoor
open Go.RowKit

/-! ### Half a step: two half words by a word -/
theorem half_eq {v1 v0 u Q R y : Nat} (hy : y = v1 * 4294967296 + v0) (hQ : Q * v1 + R = u) : Q * y + R * 4294967296 = u * 4294967296 + Q * v0 := by
  subst hy; subst hQ
  rw [Nat.mul_add, ← Nat.mul_assoc, Nat.add_mul]
  omega
theorem half_le {v1 v0 u d Q R y : Nat} (hy : y = v1 * 4294967296 + v0) (hy0 : 0 < y) (hQ : Q * v1 + R = u) (h : Q * v0 ≤ 4294967296 * R + d) : Q ≤ (u * 4294967296 + d) / y := by
  have E := half_eq hy hQ
  rw [Nat.le_div_iff_mul_le hy0]
  omega
theorem half_gt {v1 v0 u d Q R y : Nat} (hy : y = v1 * 4294967296 + v0) (hy0 : 0 < y) (hQ : Q * v1 + R = u) (h : 4294967296 * R + d < Q * v0) : (u * 4294967296 + d) / y < Q := by
  have E := half_eq hy hQ
  rw [Nat.div_lt_iff_lt_mul hy0]
  omega
theorem half_lt {u d y : Nat} (hu : u < y) (hd : d < 4294967296) : (u * 4294967296 + d) / y < 4294967296 := by
  rw [Nat.div_lt_iff_lt_mul (by omega), Nat.mul_comm 4294967296 y]
  have h : (u + 1) * 4294967296 ≤ y * 4294967296 := Nat.mul_le_mul_right _ hu
  omega
/-- Where the rest has grown past half a word the estimate is the digit. -/
theorem half_break {v1 v0 u d Q R y : Nat} (hy : y = v1 * 4294967296 + v0) (hv0 : v0 < 4294967296) (hu : u < y) (hQ : Q * v1 + R = u) (hR : 4294967296 ≤ R) : Q ≤ (u * 4294967296 + d) / y := by
  have hq : Q < 4294967296 := by
    rcases Nat.lt_or_ge Q 4294967296 with h | h
    · exact h
    · have h1 : 4294967296 * v1 ≤ Q * v1 := Nat.mul_le_mul_right _ h
      omega
  have h2 : Q * v0 ≤ 4294967296 * 4294967296 := Nat.mul_le_mul (by omega) (by omega)
  refine half_le hy (by omega) hQ ?_
  omega
theorem half_step {v1 u Q R : Nat} (hQ : Q * v1 + R = u) (h : 0 < Q) : (Q - 1) * v1 + (R + v1) = u := by
  obtain ⟨q, rfl⟩ : ∃ q, Q = q + 1 := ⟨Q - 1, by omega⟩
  rw [Nat.add_mul] at hQ
  simp only [Nat.add_sub_cancel]
  omega
theorem start_le {v1 v0 u d Q R y : Nat} (hy : y = v1 * 4294967296 + v0) (h : 0 < v1 ∧ R < v1 ∧ d < 4294967296) (hQ : Q * v1 + R = u) : (u * 4294967296 + d) / y ≤ Q := by
  have E := half_eq hy hQ
  have h2 : u * 4294967296 + d < (Q + 1) * y := by
    have e : (Q + 1) * y = Q * y + y := by rw [Nat.add_mul, Nat.one_mul]
    have e2 : (R + 1) * 4294967296 ≤ v1 * 4294967296 := Nat.mul_le_mul_right _ h.2.1
    omega
  have h3 := (Nat.div_lt_iff_lt_mul (by omega : 0 < y)).2 h2
  omega
theorem q_bound {v1 v0 u Q R y : Nat} (hy : y = v1 * 4294967296 + v0) (hv0 : v0 < 4294967296) (hv1 : 2147483648 ≤ v1) (hu : u < y) (hQ : Q * v1 + R = u) : Q ≤ 8589934592 := by
  rcases Nat.lt_or_ge 8589934592 Q with h | h
  · have h1 : 8589934593 * v1 ≤ Q * v1 := Nat.mul_le_mul_right _ h
    omega
  · exact h
/-- The two halves together. -/
theorem half_join (u d1 d0 y : Nat) (hy : 0 < y) :
    (u * 18446744073709551616 + (d1 * 4294967296 + d0)) / y = (u * 4294967296 + d1) / y * 4294967296 + ((u * 4294967296 + d1) % y * 4294967296 + d0) / y := by
  obtain ⟨q, hq⟩ : ∃ q, q = (u * 4294967296 + d1) / y := ⟨_, rfl⟩
  obtain ⟨r, hr⟩ : ∃ r, r = (u * 4294967296 + d1) % y := ⟨_, rfl⟩
  have h : y * q + r = u * 4294967296 + d1 := by rw [hq, hr]; exact Nat.div_add_mod _ y
  rw [← hq, ← hr]
  have e : u * 18446744073709551616 + (d1 * 4294967296 + d0) = r * 4294967296 + d0 + y * (q * 4294967296) := by
    rw [← Nat.mul_assoc]
    omega
  rw [e, Nat.add_mul_div_left _ _ hy]
  omega

theorem lz_any (y : Nat) (h0 : 9223372036854775808 ≤ y) (h1 : y < 18446744073709551616) (w : World) :
    Calls Tryd.prog 89 #[.int .u64 (y : Int)] w fun e w' => e = .returned (.int .i64 0) ∧ w = w' := by
  have hb : blen y = 64 := blen_eq (k := 63) h0 h1
  have C := Lib.hid (len64_any (y : Int) (by omega) (by omega))
  rw [Int.toNat_natCast, hb] at C
  go_enter Tryd.func89, Tryd.ntmps89
  go_wp2_with (go_at_call 38; refine (C.out _).mono ?_; rintro e w2 ⟨rfl, rfl⟩)
  go_ret
  exact ⟨rfl, rfl⟩

theorem div64_zero (lo y : Nat) (h0 : 9223372036854775808 ≤ y) (h1 : y < 18446744073709551616) (hl : lo < 18446744073709551616) (w : World) :
    Calls Tryd.prog 87 #[.int .u64 0, .int .u64 (lo : Int), .int .u64 (y : Int)] w fun e w' => (∃ r : Int, e = .returned (.tuple #[.int .u64 ((lo / y : Nat) : Int), .int .u64 r])) ∧ Below w.heap.size w w' := by
  have hy0 : ((y : Int) == 0) = false := by simp; omega
  have hy1 : ¬ (y : Int) ≤ 0 := by omega
  have hy2 : (0 : Int) < (y : Int) := by omega
  have hq : IntKind.u64.wrap ((lo : Int) / (y : Int)) = ((lo / y : Nat) : Int) := by
    have h := Nat.div_le_self lo y
    rw [← Int.natCast_ediv, IntKind.wrap_u64]; generalize lo / y = z at *; omega
  go_enter Tryd.func87, Tryd.ntmps87
  go_wp2
  go_region
  go_wp2
  go_ret2
  refine ⟨⟨(lo : Int) % (y : Int), by first | rfl | (simp only [hq]; rfl)⟩, ?_⟩
  go_grown

theorem and32 (x a b : Nat) (h : x = a * 4294967296 + b) (hb : b < 4294967296) (hx : x < 18446744073709551616) : bits BinOp.and IntKind.u64 (x : Int) 4294967295 = (b : Int) := by
  have e := bits_and_u64_nat x 4294967295 hx (by omega)
  have e2 : x &&& 4294967295 = x % 4294967296 := Nat.and_two_pow_sub_one_eq_mod x 32
  rw [e2] at e
  rw [show bits BinOp.and IntKind.u64 (x : Int) 4294967295 = ((x % 4294967296 : Nat) : Int) from e]
  omega
theorem or0 (x : Nat) (hx : x < 18446744073709551616) : bits BinOp.or IntKind.u64 (x : Int) 0 = (x : Int) := by
  have e := bits_or_u64_nat x 0 hx (by omega)
  rw [Nat.or_zero] at e
  exact e

set_option maxRecDepth 100000 in
set_option maxHeartbeats 4000000 in
theorem div64_pos (hi lo y v1 v0 d1 d0 quo : Nat) (hquo : quo = (hi * 18446744073709551616 + lo) / y) (hy : y = v1 * 4294967296 + v0) (hv0 : v0 < 4294967296) (hv1 : 2147483648 ≤ v1) (hv1' : v1 < 4294967296) (hl : lo = d1 * 4294967296 + d0) (hd0 : d0 < 4294967296) (hd1 : d1 < 4294967296)
    (hu : hi < y) (hp : 0 < hi) (w : World) :
    Calls Tryd.prog 87 #[.int .u64 (hi : Int), .int .u64 (lo : Int), .int .u64 (y : Int)] w fun e w' => (∃ r : Int, e = .returned (.tuple #[.int .u64 (quo : Int), .int .u64 r])) ∧ Below w.heap.size w w' := by
  have hy1 : y < 18446744073709551616 := by omega
  have hl1 : lo < 18446744073709551616 := by omega
  have HL := Lib.hid (lz_any y (by omega) hy1)
  have y0 : ((y : Int) == 0) = false := by simp; omega
  have y1 : ¬ (y : Int) ≤ (hi : Int) := by omega
  have y2 : ((hi : Int) == 0) = false := by simp; omega
  have a1 : bits BinOp.and IntKind.u64 (y : Int) 4294967295 = (v0 : Int) := and32 y v1 v0 hy hv0 hy1
  have a2 : bits BinOp.and IntKind.u64 (lo : Int) 4294967295 = (d0 : Int) := and32 lo d1 d0 hl hd0 hl1
  have a3 : (y : Int) / 4294967296 = (v1 : Int) := by omega
  have a4 : (lo : Int) / 4294967296 = (d1 : Int) := by omega
  have a5 : bits BinOp.or IntKind.u64 (hi : Int) 0 = (hi : Int) := or0 hi (by omega)
  have a6 : (lo : Int) / 18446744073709551616 = 0 := by omega
  have a7 : IntKind.u64.wrap (y : Int) = y := by rw [IntKind.wrap_u64]; omega
  have a8 : IntKind.u64.wrap (lo : Int) = lo := by rw [IntKind.wrap_u64]; omega
  have a9 : IntKind.u64.wrap (hi : Int) = hi := by rw [IntKind.wrap_u64]; omega
  have HY := Lib.hid hy
  have HLO := Lib.hid hl
  have HQ := Lib.hid hquo
  clear hy hl hquo
  obtain ⟨q0, hq0⟩ : ∃ q, q = hi / v1 := ⟨_, rfl⟩
  obtain ⟨r0, hr0⟩ : ∃ r, r = hi % v1 := ⟨_, rfl⟩
  have i1 : q0 * v1 + r0 = hi := by rw [hq0, hr0, Nat.mul_comm]; exact Nat.div_add_mod _ _
  have i2 : r0 < v1 := by rw [hr0]; exact Nat.mod_lt _ (by omega)
  have i3 : q0 ≤ hi := by rw [hq0]; exact Nat.div_le_self _ _
  have b1 : IntKind.u64.wrap ((hi : Int) / (v1 : Int)) = (q0 : Int) := by rw [← Int.natCast_ediv, ← hq0, IntKind.wrap_u64]; omega
  have b2 : IntKind.u64.wrap ((hi : Int) - IntKind.u64.wrap ((q0 : Int) * (v1 : Int))) = (r0 : Int) := by
    rw [← Int.natCast_mul]; simp only [IntKind.wrap_u64]; generalize q0 * v1 = z at *; omega
  have J := Lib.hid i1
  have K := Lib.hid (start_le HY.out (by omega) i1 : (hi * 4294967296 + d1) / y ≤ q0)
  clear hq0 hr0 i1 i3
  go_enter Tryd.func87, Tryd.ntmps87
  go_wp2_with (go_at_call 89; refine (HL.out _).mono ?_; rintro e w2 ⟨rfl, rfl⟩)
  go_loopw [15, 16] (fun q r wr => ∃ Q R : Nat, q = .int .u64 (Q : Int) ∧ r = .int .u64 (R : Int) ∧ Hid (Q * v1 + R = hi) ∧ Hid ((hi * 4294967296 + d1) / y ≤ Q) ∧ R < 4294967296 ∧ w = wr) (fun q r _ => (intOf q).toNat)
  case atStart => exact ⟨q0, r0, rfl, rfl, J, K, by omega, by first | rfl | trivial⟩
  case round =>
    obtain ⟨Q, R, rfl, rfl, hQ, hle, hR, rfl⟩ := hrel
    have qb : Hid (Q ≤ 8589934592) := q_bound HY.out hv0 hv1 hu hQ.out
    by_cases t1 : 4294967296 ≤ Q
    · have t1' : (4294967296 : Int) ≤ (Q : Int) := by omega
      have T1 := Lib.hid t1
      clear t1
      have hgt : (hi * 4294967296 + d1) / y < Q := Nat.lt_of_lt_of_le (half_lt hu (by omega)) T1.out
      have hq0 : 0 < Q := Nat.lt_of_le_of_lt (Nat.zero_le _) hgt
      obtain ⟨Z, hZ⟩ : ∃ q, q = Q - 1 := ⟨_, rfl⟩
      have hs := half_step hQ.out hq0
      have hgz : (hi * 4294967296 + d1) / y ≤ Z := by rw [hZ]; exact Nat.le_sub_one_of_lt hgt
      have c1 : IntKind.u64.wrap ((Q : Int) - 1) = (Z : Int) := by
        have := qb.out
        rw [IntKind.wrap_u64]; omega
      have c3 : Z < Q := by omega
      obtain ⟨S, hS⟩ : ∃ s, s = R + v1 := ⟨_, rfl⟩
      have c2 : IntKind.u64.wrap ((R : Int) + (v1 : Int)) = (S : Int) := by rw [IntKind.wrap_u64]; omega
      rw [← hS, ← hZ] at hs
      have HS := Lib.hid hs
      have HG := Lib.hid hgz
      have C3 := Lib.hid c3
      clear hs hgt hgz hQ hle hS hZ c3 hq0
      by_cases t3 : 4294967296 ≤ S
      · have t3' : (4294967296 : Int) ≤ (S : Int) := by omega
        have HE : Hid (Z = (hi * 4294967296 + d1) / y) := Nat.le_antisymm (half_break HY.out hv0 (by omega) HS.out t3) HG.out
        clear t3
        obtain ⟨u2, hu2⟩ : ∃ u, u = (hi * 4294967296 + d1) % y := ⟨_, rfl⟩
        have hub : u2 < y := by rw [hu2]; exact Nat.mod_lt _ (by omega)
        have hdm : Z * y + u2 = hi * 4294967296 + d1 := by rw [HE.out, hu2, Nat.mul_comm]; exact Nat.div_add_mod _ _
        have m1 : IntKind.u64.wrap (IntKind.u64.wrap (IntKind.u64.wrap ((hi : Int) * 4294967296) + (d1 : Int)) - IntKind.u64.wrap ((Z : Int) * (y : Int))) = (u2 : Int) := by
          rw [← Int.natCast_mul]; simp only [IntKind.wrap_u64]; generalize Z * y = z at *; omega
        have HU := Lib.hid hu2
        clear hu2 hdm
        obtain ⟨q0b, hq0b⟩ : ∃ q, q = u2 / v1 := ⟨_, rfl⟩
        obtain ⟨r0b, hr0b⟩ : ∃ r, r = u2 % v1 := ⟨_, rfl⟩
        have i1b : q0b * v1 + r0b = u2 := by rw [hq0b, hr0b, Nat.mul_comm]; exact Nat.div_add_mod _ _
        have i2b : r0b < v1 := by rw [hr0b]; exact Nat.mod_lt _ (by omega)
        have i3b : q0b ≤ u2 := by rw [hq0b]; exact Nat.div_le_self _ _
        have b1b : IntKind.u64.wrap ((u2 : Int) / (v1 : Int)) = (q0b : Int) := by rw [← Int.natCast_ediv, ← hq0b, IntKind.wrap_u64]; omega
        have b2b : IntKind.u64.wrap ((u2 : Int) - IntKind.u64.wrap ((q0b : Int) * (v1 : Int))) = (r0b : Int) := by
          rw [← Int.natCast_mul]; simp only [IntKind.wrap_u64]; generalize q0b * v1 = z at *; omega
        have Jb := Lib.hid i1b
        have Kb := Lib.hid (start_le HY.out (by omega) i1b : (u2 * 4294967296 + d0) / y ≤ q0b)
        clear hq0b hr0b i1b i3b
        go_wp2
        go_loopw [16, 18] (fun r q wr => ∃ Q R : Nat, q = .int .u64 (Q : Int) ∧ r = .int .u64 (R : Int) ∧ Hid (Q * v1 + R = u2) ∧ Hid ((u2 * 4294967296 + d0) / y ≤ Q) ∧ R < 4294967296 ∧ w = wr) (fun r q _ => (intOf q).toNat)
        case atStart => exact ⟨q0b, r0b, rfl, rfl, Jb, Kb, by omega, by first | rfl | trivial⟩
        case round =>
          obtain ⟨Qb, Rb, rfl, rfl, hQb, hleb, hRb, rfl⟩ := hrel
          have qbb : Hid (Qb ≤ 8589934592) := q_bound HY.out hv0 hv1 hub hQb.out
          by_cases t1 : 4294967296 ≤ Qb
          · have t1' : (4294967296 : Int) ≤ (Qb : Int) := by omega
            have T1 := Lib.hid t1
            clear t1
            have hgt : (u2 * 4294967296 + d0) / y < Qb := Nat.lt_of_lt_of_le (half_lt hub (by omega)) T1.out
            have hq0 : 0 < Qb := Nat.lt_of_le_of_lt (Nat.zero_le _) hgt
            obtain ⟨Zb, hZb⟩ : ∃ q, q = Qb - 1 := ⟨_, rfl⟩
            have hs := half_step hQb.out hq0
            have hgz : (u2 * 4294967296 + d0) / y ≤ Zb := by rw [hZb]; exact Nat.le_sub_one_of_lt hgt
            have c1 : IntKind.u64.wrap ((Qb : Int) - 1) = (Zb : Int) := by
              have := qbb.out
              rw [IntKind.wrap_u64]; omega
            have c3 : Zb < Qb := by omega
            obtain ⟨Sb, hSb⟩ : ∃ s, s = Rb + v1 := ⟨_, rfl⟩
            have c2 : IntKind.u64.wrap ((Rb : Int) + (v1 : Int)) = (Sb : Int) := by rw [IntKind.wrap_u64]; omega
            rw [← hSb, ← hZb] at hs
            have HSb := Lib.hid hs
            have HGb := Lib.hid hgz
            have C3b := Lib.hid c3
            clear hs hgt hgz hQb hleb hSb hZb c3 hq0
            by_cases t3 : 4294967296 ≤ Sb
            · have t3' : (4294967296 : Int) ≤ (Sb : Int) := by omega
              have HEb : Hid (Zb = (u2 * 4294967296 + d0) / y) := Nat.le_antisymm (half_break HY.out hv0 (by omega) HSb.out t3) HGb.out
              clear t3
              obtain ⟨rr, hrr⟩ : ∃ r, r = (u2 * 4294967296 + d0) % y := ⟨_, rfl⟩
              have hrb : rr < y := by rw [hrr]; exact Nat.mod_lt _ (by omega)
              have hdn : Zb * y + rr = u2 * 4294967296 + d0 := by rw [HEb.out, hrr, Nat.mul_comm]; exact Nat.div_add_mod _ _
              have f2 : IntKind.u64.wrap (IntKind.u64.wrap (IntKind.u64.wrap ((u2 : Int) * 4294967296) + (d0 : Int)) - IntKind.u64.wrap ((Zb : Int) * (y : Int))) = (rr : Int) := by
                rw [← Int.natCast_mul]; simp only [IntKind.wrap_u64]; generalize Zb * y = z at *; omega
              have f3 : (hi * 18446744073709551616 + lo) / y = Z * 4294967296 + Zb := by rw [HLO.out, half_join hi d1 d0 y (by omega), ← HU.out, ← HE.out, ← HEb.out]
              have f4 : Z < 4294967296 := by rw [HE.out]; exact half_lt hu hd1
              have f5 : Zb < 4294967296 := by rw [HEb.out]; exact half_lt hub hd0
              have f6 : IntKind.u64.wrap ((Z : Int) * 4294967296) = (Z : Int) * 4294967296 := by rw [IntKind.wrap_u64]; omega
              have f7 : IntKind.u64.wrap ((Z : Int) * 4294967296 + (Zb : Int)) = (quo : Int) := by rw [HQ.out, f3, IntKind.wrap_u64]; omega
              clear f3 f4 f5 hdn hrr HLO
              go_wp2
              go_ret2
              exact ⟨⟨(rr : Int), rfl⟩, Below.refl _ _⟩
            · have t3' : decide ((4294967296 : Int) ≤ (Sb : Int)) = false := decide_eq_false (by omega)
              have t4 : Sb < 4294967296 := by omega
              clear t3
              go_wp2
              go_roundw
              case rel => exact ⟨Zb, Sb, rfl, rfl, HSb, HGb, by omega, by first | rfl | trivial⟩
              case measure => simp [intOf]; exact C3b.out
          · have t1' : decide ((4294967296 : Int) ≤ (Qb : Int)) = false := decide_eq_false (by omega)
            have hqv : Qb * v0 ≤ 4294967295 * 4294967295 := Nat.mul_le_mul (by omega) (by omega)
            obtain ⟨Pb, hPb⟩ : ∃ p, p = Qb * v0 := ⟨_, rfl⟩
            obtain ⟨Tb, hTb⟩ : ∃ t, t = 4294967296 * Rb + d0 := ⟨_, rfl⟩
            rw [← hPb] at hqv
            have e1 : IntKind.u64.wrap ((Qb : Int) * (v0 : Int)) = (Pb : Int) := by rw [← Int.natCast_mul, ← hPb, IntKind.wrap_u64]; omega
            have e2 : IntKind.u64.wrap (4294967296 * (Rb : Int)) = 4294967296 * (Rb : Int) := by rw [IntKind.wrap_u64]; omega
            have e3 : IntKind.u64.wrap (4294967296 * (Rb : Int) + (d0 : Int)) = (Tb : Int) := by rw [IntKind.wrap_u64]; omega
            have HPb := Lib.hid hPb
            have HTb := Lib.hid hTb
            clear hPb hTb hqv t1
            by_cases t2 : Tb < Pb
            · have t2' : (Tb : Int) < (Pb : Int) := by omega
              have hgt : (u2 * 4294967296 + d0) / y < Qb := half_gt HY.out (by omega) hQb.out (by rw [← HPb.out, ← HTb.out]; exact t2)
              have hq0 : 0 < Qb := Nat.lt_of_le_of_lt (Nat.zero_le _) hgt
              obtain ⟨Zb, hZb⟩ : ∃ q, q = Qb - 1 := ⟨_, rfl⟩
              have hs := half_step hQb.out hq0
              have hgz : (u2 * 4294967296 + d0) / y ≤ Zb := by rw [hZb]; exact Nat.le_sub_one_of_lt hgt
              have c1 : IntKind.u64.wrap ((Qb : Int) - 1) = (Zb : Int) := by
                have := qbb.out
                rw [IntKind.wrap_u64]; omega
              have c3 : Zb < Qb := by omega
              obtain ⟨Sb, hSb⟩ : ∃ s, s = Rb + v1 := ⟨_, rfl⟩
              have c2 : IntKind.u64.wrap ((Rb : Int) + (v1 : Int)) = (Sb : Int) := by rw [IntKind.wrap_u64]; omega
              rw [← hSb, ← hZb] at hs
              have HSb := Lib.hid hs
              have HGb := Lib.hid hgz
              have C3b := Lib.hid c3
              clear hs hgt hgz hQb hleb hSb hZb c3 hq0
              by_cases t3 : 4294967296 ≤ Sb
              · have t3' : (4294967296 : Int) ≤ (Sb : Int) := by omega
                have HEb : Hid (Zb = (u2 * 4294967296 + d0) / y) := Nat.le_antisymm (half_break HY.out hv0 (by omega) HSb.out t3) HGb.out
                clear t3
                obtain ⟨rr, hrr⟩ : ∃ r, r = (u2 * 4294967296 + d0) % y := ⟨_, rfl⟩
                have hrb : rr < y := by rw [hrr]; exact Nat.mod_lt _ (by omega)
                have hdn : Zb * y + rr = u2 * 4294967296 + d0 := by rw [HEb.out, hrr, Nat.mul_comm]; exact Nat.div_add_mod _ _
                have f2 : IntKind.u64.wrap (IntKind.u64.wrap (IntKind.u64.wrap ((u2 : Int) * 4294967296) + (d0 : Int)) - IntKind.u64.wrap ((Zb : Int) * (y : Int))) = (rr : Int) := by
                  rw [← Int.natCast_mul]; simp only [IntKind.wrap_u64]; generalize Zb * y = z at *; omega
                have f3 : (hi * 18446744073709551616 + lo) / y = Z * 4294967296 + Zb := by rw [HLO.out, half_join hi d1 d0 y (by omega), ← HU.out, ← HE.out, ← HEb.out]
                have f4 : Z < 4294967296 := by rw [HE.out]; exact half_lt hu hd1
                have f5 : Zb < 4294967296 := by rw [HEb.out]; exact half_lt hub hd0
                have f6 : IntKind.u64.wrap ((Z : Int) * 4294967296) = (Z : Int) * 4294967296 := by rw [IntKind.wrap_u64]; omega
                have f7 : IntKind.u64.wrap ((Z : Int) * 4294967296 + (Zb : Int)) = (quo : Int) := by rw [HQ.out, f3, IntKind.wrap_u64]; omega
                clear f3 f4 f5 hdn hrr HLO
                go_wp2
                go_ret2
                exact ⟨⟨(rr : Int), rfl⟩, Below.refl _ _⟩
              · have t3' : decide ((4294967296 : Int) ≤ (Sb : Int)) = false := decide_eq_false (by omega)
                have t4 : Sb < 4294967296 := by omega
                clear t3
                go_wp2
                go_roundw
                case rel => exact ⟨Zb, Sb, rfl, rfl, HSb, HGb, by omega, by first | rfl | trivial⟩
                case measure => simp [intOf]; exact C3b.out
            · have t2' : decide ((Tb : Int) < (Pb : Int)) = false := decide_eq_false (by omega)
              have HEb : Hid (Qb = (u2 * 4294967296 + d0) / y) := Nat.le_antisymm (half_le HY.out (by omega) hQb.out (by rw [← HPb.out, ← HTb.out]; omega)) hleb.out
              obtain ⟨rr, hrr⟩ : ∃ r, r = (u2 * 4294967296 + d0) % y := ⟨_, rfl⟩
              have hrb : rr < y := by rw [hrr]; exact Nat.mod_lt _ (by omega)
              have hdn : Qb * y + rr = u2 * 4294967296 + d0 := by rw [HEb.out, hrr, Nat.mul_comm]; exact Nat.div_add_mod _ _
              have f2 : IntKind.u64.wrap (IntKind.u64.wrap (IntKind.u64.wrap ((u2 : Int) * 4294967296) + (d0 : Int)) - IntKind.u64.wrap ((Qb : Int) * (y : Int))) = (rr : Int) := by
                rw [← Int.natCast_mul]; simp only [IntKind.wrap_u64]; generalize Qb * y = z at *; omega
              have f3 : (hi * 18446744073709551616 + lo) / y = Z * 4294967296 + Qb := by rw [HLO.out, half_join hi d1 d0 y (by omega), ← HU.out, ← HE.out, ← HEb.out]
              have f4 : Z < 4294967296 := by rw [HE.out]; exact half_lt hu hd1
              have f5 : Qb < 4294967296 := by rw [HEb.out]; exact half_lt hub hd0
              have f6 : IntKind.u64.wrap ((Z : Int) * 4294967296) = (Z : Int) * 4294967296 := by rw [IntKind.wrap_u64]; omega
              have f7 : IntKind.u64.wrap ((Z : Int) * 4294967296 + (Qb : Int)) = (quo : Int) := by rw [HQ.out, f3, IntKind.wrap_u64]; omega
              clear f3 f4 f5 hdn hrr HLO
              go_wp2
              go_ret2
              exact ⟨⟨(rr : Int), rfl⟩, Below.refl _ _⟩
      · have t3' : decide ((4294967296 : Int) ≤ (S : Int)) = false := decide_eq_false (by omega)
        have t4 : S < 4294967296 := by omega
        clear t3
        go_wp2
        go_roundw
        case rel => exact ⟨Z, S, rfl, rfl, HS, HG, by omega, by first | rfl | trivial⟩
        case measure => simp [intOf]; exact C3.out
    · have t1' : decide ((4294967296 : Int) ≤ (Q : Int)) = false := decide_eq_false (by omega)
      have hqv : Q * v0 ≤ 4294967295 * 4294967295 := Nat.mul_le_mul (by omega) (by omega)
      obtain ⟨P, hP⟩ : ∃ p, p = Q * v0 := ⟨_, rfl⟩
      obtain ⟨T, hT⟩ : ∃ t, t = 4294967296 * R + d1 := ⟨_, rfl⟩
      rw [← hP] at hqv
      have e1 : IntKind.u64.wrap ((Q : Int) * (v0 : Int)) = (P : Int) := by rw [← Int.natCast_mul, ← hP, IntKind.wrap_u64]; omega
      have e2 : IntKind.u64.wrap (4294967296 * (R : Int)) = 4294967296 * (R : Int) := by rw [IntKind.wrap_u64]; omega
      have e3 : IntKind.u64.wrap (4294967296 * (R : Int) + (d1 : Int)) = (T : Int) := by rw [IntKind.wrap_u64]; omega
      have HP := Lib.hid hP
      have HT := Lib.hid hT
      clear hP hT hqv t1
      by_cases t2 : T < P
      · have t2' : (T : Int) < (P : Int) := by omega
        have hgt : (hi * 4294967296 + d1) / y < Q := half_gt HY.out (by omega) hQ.out (by rw [← HP.out, ← HT.out]; exact t2)
        have hq0 : 0 < Q := Nat.lt_of_le_of_lt (Nat.zero_le _) hgt
        obtain ⟨Z, hZ⟩ : ∃ q, q = Q - 1 := ⟨_, rfl⟩
        have hs := half_step hQ.out hq0
        have hgz : (hi * 4294967296 + d1) / y ≤ Z := by rw [hZ]; exact Nat.le_sub_one_of_lt hgt
        have c1 : IntKind.u64.wrap ((Q : Int) - 1) = (Z : Int) := by
          have := qb.out
          rw [IntKind.wrap_u64]; omega
        have c3 : Z < Q := by omega
        obtain ⟨S, hS⟩ : ∃ s, s = R + v1 := ⟨_, rfl⟩
        have c2 : IntKind.u64.wrap ((R : Int) + (v1 : Int)) = (S : Int) := by rw [IntKind.wrap_u64]; omega
        rw [← hS, ← hZ] at hs
        have HS := Lib.hid hs
        have HG := Lib.hid hgz
        have C3 := Lib.hid c3
        clear hs hgt hgz hQ hle hS hZ c3 hq0
        by_cases t3 : 4294967296 ≤ S
        · have t3' : (4294967296 : Int) ≤ (S : Int) := by omega
          have HE : Hid (Z = (hi * 4294967296 + d1) / y) := Nat.le_antisymm (half_break HY.out hv0 (by omega) HS.out t3) HG.out
          clear t3
          obtain ⟨u2, hu2⟩ : ∃ u, u = (hi * 4294967296 + d1) % y := ⟨_, rfl⟩
          have hub : u2 < y := by rw [hu2]; exact Nat.mod_lt _ (by omega)
          have hdm : Z * y + u2 = hi * 4294967296 + d1 := by rw [HE.out, hu2, Nat.mul_comm]; exact Nat.div_add_mod _ _
          have m1 : IntKind.u64.wrap (IntKind.u64.wrap (IntKind.u64.wrap ((hi : Int) * 4294967296) + (d1 : Int)) - IntKind.u64.wrap ((Z : Int) * (y : Int))) = (u2 : Int) := by
            rw [← Int.natCast_mul]; simp only [IntKind.wrap_u64]; generalize Z * y = z at *; omega
          have HU := Lib.hid hu2
          clear hu2 hdm
          obtain ⟨q0b, hq0b⟩ : ∃ q, q = u2 / v1 := ⟨_, rfl⟩
          obtain ⟨r0b, hr0b⟩ : ∃ r, r = u2 % v1 := ⟨_, rfl⟩
          have i1b : q0b * v1 + r0b = u2 := by rw [hq0b, hr0b, Nat.mul_comm]; exact Nat.div_add_mod _ _
          have i2b : r0b < v1 := by rw [hr0b]; exact Nat.mod_lt _ (by omega)
          have i3b : q0b ≤ u2 := by rw [hq0b]; exact Nat.div_le_self _ _
          have b1b : IntKind.u64.wrap ((u2 : Int) / (v1 : Int)) = (q0b : Int) := by rw [← Int.natCast_ediv, ← hq0b, IntKind.wrap_u64]; omega
          have b2b : IntKind.u64.wrap ((u2 : Int) - IntKind.u64.wrap ((q0b : Int) * (v1 : Int))) = (r0b : Int) := by
            rw [← Int.natCast_mul]; simp only [IntKind.wrap_u64]; generalize q0b * v1 = z at *; omega
          have Jb := Lib.hid i1b
          have Kb := Lib.hid (start_le HY.out (by omega) i1b : (u2 * 4294967296 + d0) / y ≤ q0b)
          clear hq0b hr0b i1b i3b
          go_wp2
          go_loopw [16, 18] (fun r q wr => ∃ Q R : Nat, q = .int .u64 (Q : Int) ∧ r = .int .u64 (R : Int) ∧ Hid (Q * v1 + R = u2) ∧ Hid ((u2 * 4294967296 + d0) / y ≤ Q) ∧ R < 4294967296 ∧ w = wr) (fun r q _ => (intOf q).toNat)
          case atStart => exact ⟨q0b, r0b, rfl, rfl, Jb, Kb, by omega, by first | rfl | trivial⟩
          case round =>
            obtain ⟨Qb, Rb, rfl, rfl, hQb, hleb, hRb, rfl⟩ := hrel
            have qbb : Hid (Qb ≤ 8589934592) := q_bound HY.out hv0 hv1 hub hQb.out
            by_cases t1 : 4294967296 ≤ Qb
            · have t1' : (4294967296 : Int) ≤ (Qb : Int) := by omega
              have T1 := Lib.hid t1
              clear t1
              have hgt : (u2 * 4294967296 + d0) / y < Qb := Nat.lt_of_lt_of_le (half_lt hub (by omega)) T1.out
              have hq0 : 0 < Qb := Nat.lt_of_le_of_lt (Nat.zero_le _) hgt
              obtain ⟨Zb, hZb⟩ : ∃ q, q = Qb - 1 := ⟨_, rfl⟩
              have hs := half_step hQb.out hq0
              have hgz : (u2 * 4294967296 + d0) / y ≤ Zb := by rw [hZb]; exact Nat.le_sub_one_of_lt hgt
              have c1 : IntKind.u64.wrap ((Qb : Int) - 1) = (Zb : Int) := by
                have := qbb.out
                rw [IntKind.wrap_u64]; omega
              have c3 : Zb < Qb := by omega
              obtain ⟨Sb, hSb⟩ : ∃ s, s = Rb + v1 := ⟨_, rfl⟩
              have c2 : IntKind.u64.wrap ((Rb : Int) + (v1 : Int)) = (Sb : Int) := by rw [IntKind.wrap_u64]; omega
              rw [← hSb, ← hZb] at hs
              have HSb := Lib.hid hs
              have HGb := Lib.hid hgz
              have C3b := Lib.hid c3
              clear hs hgt hgz hQb hleb hSb hZb c3 hq0
              by_cases t3 : 4294967296 ≤ Sb
              · have t3' : (4294967296 : Int) ≤ (Sb : Int) := by omega
                have HEb : Hid (Zb = (u2 * 4294967296 + d0) / y) := Nat.le_antisymm (half_break HY.out hv0 (by omega) HSb.out t3) HGb.out
                clear t3
                obtain ⟨rr, hrr⟩ : ∃ r, r = (u2 * 4294967296 + d0) % y := ⟨_, rfl⟩
                have hrb : rr < y := by rw [hrr]; exact Nat.mod_lt _ (by omega)
                have hdn : Zb * y + rr = u2 * 4294967296 + d0 := by rw [HEb.out, hrr, Nat.mul_comm]; exact Nat.div_add_mod _ _
                have f2 : IntKind.u64.wrap (IntKind.u64.wrap (IntKind.u64.wrap ((u2 : Int) * 4294967296) + (d0 : Int)) - IntKind.u64.wrap ((Zb : Int) * (y : Int))) = (rr : Int) := by
                  rw [← Int.natCast_mul]; simp only [IntKind.wrap_u64]; generalize Zb * y = z at *; omega
                have f3 : (hi * 18446744073709551616 + lo) / y = Z * 4294967296 + Zb := by rw [HLO.out, half_join hi d1 d0 y (by omega), ← HU.out, ← HE.out, ← HEb.out]
                have f4 : Z < 4294967296 := by rw [HE.out]; exact half_lt hu hd1
                have f5 : Zb < 4294967296 := by rw [HEb.out]; exact half_lt hub hd0
                have f6 : IntKind.u64.wrap ((Z : Int) * 4294967296) = (Z : Int) * 4294967296 := by rw [IntKind.wrap_u64]; omega
                have f7 : IntKind.u64.wrap ((Z : Int) * 4294967296 + (Zb : Int)) = (quo : Int) := by rw [HQ.out, f3, IntKind.wrap_u64]; omega
                clear f3 f4 f5 hdn hrr HLO
                go_wp2
                go_ret2
                exact ⟨⟨(rr : Int), rfl⟩, Below.refl _ _⟩
              · have t3' : decide ((4294967296 : Int) ≤ (Sb : Int)) = false := decide_eq_false (by omega)
                have t4 : Sb < 4294967296 := by omega
                clear t3
                go_wp2
                go_roundw
                case rel => exact ⟨Zb, Sb, rfl, rfl, HSb, HGb, by omega, by first | rfl | trivial⟩
                case measure => simp [intOf]; exact C3b.out
            · have t1' : decide ((4294967296 : Int) ≤ (Qb : Int)) = false := decide_eq_false (by omega)
              have hqv : Qb * v0 ≤ 4294967295 * 4294967295 := Nat.mul_le_mul (by omega) (by omega)
              obtain ⟨Pb, hPb⟩ : ∃ p, p = Qb * v0 := ⟨_, rfl⟩
              obtain ⟨Tb, hTb⟩ : ∃ t, t = 4294967296 * Rb + d0 := ⟨_, rfl⟩
              rw [← hPb] at hqv
              have e1 : IntKind.u64.wrap ((Qb : Int) * (v0 : Int)) = (Pb : Int) := by rw [← Int.natCast_mul, ← hPb, IntKind.wrap_u64]; omega
              have e2 : IntKind.u64.wrap (4294967296 * (Rb : Int)) = 4294967296 * (Rb : Int) := by rw [IntKind.wrap_u64]; omega
              have e3 : IntKind.u64.wrap (4294967296 * (Rb : Int) + (d0 : Int)) = (Tb : Int) := by rw [IntKind.wrap_u64]; omega
              have HPb := Lib.hid hPb
              have HTb := Lib.hid hTb
              clear hPb hTb hqv t1
              by_cases t2 : Tb < Pb
              · have t2' : (Tb : Int) < (Pb : Int) := by omega
                have hgt : (u2 * 4294967296 + d0) / y < Qb := half_gt HY.out (by omega) hQb.out (by rw [← HPb.out, ← HTb.out]; exact t2)
                have hq0 : 0 < Qb := Nat.lt_of_le_of_lt (Nat.zero_le _) hgt
                obtain ⟨Zb, hZb⟩ : ∃ q, q = Qb - 1 := ⟨_, rfl⟩
                have hs := half_step hQb.out hq0
                have hgz : (u2 * 4294967296 + d0) / y ≤ Zb := by rw [hZb]; exact Nat.le_sub_one_of_lt hgt
                have c1 : IntKind.u64.wrap ((Qb : Int) - 1) = (Zb : Int) := by
                  have := qbb.out
                  rw [IntKind.wrap_u64]; omega
                have c3 : Zb < Qb := by omega
                obtain ⟨Sb, hSb⟩ : ∃ s, s = Rb + v1 := ⟨_, rfl⟩
                have c2 : IntKind.u64.wrap ((Rb : Int) + (v1 : Int)) = (Sb : Int) := by rw [IntKind.wrap_u64]; omega
                rw [← hSb, ← hZb] at hs
                have HSb := Lib.hid hs
                have HGb := Lib.hid hgz
                have C3b := Lib.hid c3
                clear hs hgt hgz hQb hleb hSb hZb c3 hq0
                by_cases t3 : 4294967296 ≤ Sb
                · have t3' : (4294967296 : Int) ≤ (Sb : Int) := by omega
                  have HEb : Hid (Zb = (u2 * 4294967296 + d0) / y) := Nat.le_antisymm (half_break HY.out hv0 (by omega) HSb.out t3) HGb.out
                  clear t3
                  obtain ⟨rr, hrr⟩ : ∃ r, r = (u2 * 4294967296 + d0) % y := ⟨_, rfl⟩
                  have hrb : rr < y := by rw [hrr]; exact Nat.mod_lt _ (by omega)
                  have hdn : Zb * y + rr = u2 * 4294967296 + d0 := by rw [HEb.out, hrr, Nat.mul_comm]; exact Nat.div_add_mod _ _
                  have f2 : IntKind.u64.wrap (IntKind.u64.wrap (IntKind.u64.wrap ((u2 : Int) * 4294967296) + (d0 : Int)) - IntKind.u64.wrap ((Zb : Int) * (y : Int))) = (rr : Int) := by
                    rw [← Int.natCast_mul]; simp only [IntKind.wrap_u64]; generalize Zb * y = z at *; omega
                  have f3 : (hi * 18446744073709551616 + lo) / y = Z * 4294967296 + Zb := by rw [HLO.out, half_join hi d1 d0 y (by omega), ← HU.out, ← HE.out, ← HEb.out]
                  have f4 : Z < 4294967296 := by rw [HE.out]; exact half_lt hu hd1
                  have f5 : Zb < 4294967296 := by rw [HEb.out]; exact half_lt hub hd0
                  have f6 : IntKind.u64.wrap ((Z : Int) * 4294967296) = (Z : Int) * 4294967296 := by rw [IntKind.wrap_u64]; omega
                  have f7 : IntKind.u64.wrap ((Z : Int) * 4294967296 + (Zb : Int)) = (quo : Int) := by rw [HQ.out, f3, IntKind.wrap_u64]; omega
                  clear f3 f4 f5 hdn hrr HLO
                  go_wp2
                  go_ret2
                  exact ⟨⟨(rr : Int), rfl⟩, Below.refl _ _⟩
                · have t3' : decide ((4294967296 : Int) ≤ (Sb : Int)) = false := decide_eq_false (by omega)
                  have t4 : Sb < 4294967296 := by omega
                  clear t3
                  go_wp2
                  go_roundw
                  case rel => exact ⟨Zb, Sb, rfl, rfl, HSb, HGb, by omega, by first | rfl | trivial⟩
                  case measure => simp [intOf]; exact C3b.out
              · have t2' : decide ((Tb : Int) < (Pb : Int)) = false := decide_eq_false (by omega)
                have HEb : Hid (Qb = (u2 * 4294967296 + d0) / y) := Nat.le_antisymm (half_le HY.out (by omega) hQb.out (by rw [← HPb.out, ← HTb.out]; omega)) hleb.out
                obtain ⟨rr, hrr⟩ : ∃ r, r = (u2 * 4294967296 + d0) % y := ⟨_, rfl⟩
                have hrb : rr < y := by rw [hrr]; exact Nat.mod_lt _ (by omega)
                have hdn : Qb * y + rr = u2 * 4294967296 + d0 := by rw [HEb.out, hrr, Nat.mul_comm]; exact Nat.div_add_mod _ _
                have f2 : IntKind.u64.wrap (IntKind.u64.wrap (IntKind.u64.wrap ((u2 : Int) * 4294967296) + (d0 : Int)) - IntKind.u64.wrap ((Qb : Int) * (y : Int))) = (rr : Int) := by
                  rw [← Int.natCast_mul]; simp only [IntKind.wrap_u64]; generalize Qb * y = z at *; omega
                have f3 : (hi * 18446744073709551616 + lo) / y = Z * 4294967296 + Qb := by rw [HLO.out, half_join hi d1 d0 y (by omega), ← HU.out, ← HE.out, ← HEb.out]
                have f4 : Z < 4294967296 := by rw [HE.out]; exact half_lt hu hd1
                have f5 : Qb < 4294967296 := by rw [HEb.out]; exact half_lt hub hd0
                have f6 : IntKind.u64.wrap ((Z : Int) * 4294967296) = (Z : Int) * 4294967296 := by rw [IntKind.wrap_u64]; omega
                have f7 : IntKind.u64.wrap ((Z : Int) * 4294967296 + (Qb : Int)) = (quo : Int) := by rw [HQ.out, f3, IntKind.wrap_u64]; omega
                clear f3 f4 f5 hdn hrr HLO
                go_wp2
                go_ret2
                exact ⟨⟨(rr : Int), rfl⟩, Below.refl _ _⟩
        · have t3' : decide ((4294967296 : Int) ≤ (S : Int)) = false := decide_eq_false (by omega)
          have t4 : S < 4294967296 := by omega
          clear t3
          go_wp2
          go_roundw
          case rel => exact ⟨Z, S, rfl, rfl, HS, HG, by omega, by first | rfl | trivial⟩
          case measure => simp [intOf]; exact C3.out
      · have t2' : decide ((T : Int) < (P : Int)) = false := decide_eq_false (by omega)
        have HE : Hid (Q = (hi * 4294967296 + d1) / y) := Nat.le_antisymm (half_le HY.out (by omega) hQ.out (by rw [← HP.out, ← HT.out]; omega)) hle.out
        obtain ⟨u2, hu2⟩ : ∃ u, u = (hi * 4294967296 + d1) % y := ⟨_, rfl⟩
        have hub : u2 < y := by rw [hu2]; exact Nat.mod_lt _ (by omega)
        have hdm : Q * y + u2 = hi * 4294967296 + d1 := by rw [HE.out, hu2, Nat.mul_comm]; exact Nat.div_add_mod _ _
        have m1 : IntKind.u64.wrap (IntKind.u64.wrap (IntKind.u64.wrap ((hi : Int) * 4294967296) + (d1 : Int)) - IntKind.u64.wrap ((Q : Int) * (y : Int))) = (u2 : Int) := by
          rw [← Int.natCast_mul]; simp only [IntKind.wrap_u64]; generalize Q * y = z at *; omega
        have HU := Lib.hid hu2
        clear hu2 hdm
        obtain ⟨q0b, hq0b⟩ : ∃ q, q = u2 / v1 := ⟨_, rfl⟩
        obtain ⟨r0b, hr0b⟩ : ∃ r, r = u2 % v1 := ⟨_, rfl⟩
        have i1b : q0b * v1 + r0b = u2 := by rw [hq0b, hr0b, Nat.mul_comm]; exact Nat.div_add_mod _ _
        have i2b : r0b < v1 := by rw [hr0b]; exact Nat.mod_lt _ (by omega)
        have i3b : q0b ≤ u2 := by rw [hq0b]; exact Nat.div_le_self _ _
        have b1b : IntKind.u64.wrap ((u2 : Int) / (v1 : Int)) = (q0b : Int) := by rw [← Int.natCast_ediv, ← hq0b, IntKind.wrap_u64]; omega
        have b2b : IntKind.u64.wrap ((u2 : Int) - IntKind.u64.wrap ((q0b : Int) * (v1 : Int))) = (r0b : Int) := by
          rw [← Int.natCast_mul]; simp only [IntKind.wrap_u64]; generalize q0b * v1 = z at *; omega
        have Jb := Lib.hid i1b
        have Kb := Lib.hid (start_le HY.out (by omega) i1b : (u2 * 4294967296 + d0) / y ≤ q0b)
        clear hq0b hr0b i1b i3b
        go_wp2
        go_loopw [16, 18] (fun r q wr => ∃ Q R : Nat, q = .int .u64 (Q : Int) ∧ r = .int .u64 (R : Int) ∧ Hid (Q * v1 + R = u2) ∧ Hid ((u2 * 4294967296 + d0) / y ≤ Q) ∧ R < 4294967296 ∧ w = wr) (fun r q _ => (intOf q).toNat)
        case atStart => exact ⟨q0b, r0b, rfl, rfl, Jb, Kb, by omega, by first | rfl | trivial⟩
        case round =>
          obtain ⟨Qb, Rb, rfl, rfl, hQb, hleb, hRb, rfl⟩ := hrel
          have qbb : Hid (Qb ≤ 8589934592) := q_bound HY.out hv0 hv1 hub hQb.out
          by_cases t1 : 4294967296 ≤ Qb
          · have t1' : (4294967296 : Int) ≤ (Qb : Int) := by omega
            have T1 := Lib.hid t1
            clear t1
            have hgt : (u2 * 4294967296 + d0) / y < Qb := Nat.lt_of_lt_of_le (half_lt hub (by omega)) T1.out
            have hq0 : 0 < Qb := Nat.lt_of_le_of_lt (Nat.zero_le _) hgt
            obtain ⟨Zb, hZb⟩ : ∃ q, q = Qb - 1 := ⟨_, rfl⟩
            have hs := half_step hQb.out hq0
            have hgz : (u2 * 4294967296 + d0) / y ≤ Zb := by rw [hZb]; exact Nat.le_sub_one_of_lt hgt
            have c1 : IntKind.u64.wrap ((Qb : Int) - 1) = (Zb : Int) := by
              have := qbb.out
              rw [IntKind.wrap_u64]; omega
            have c3 : Zb < Qb := by omega
            obtain ⟨Sb, hSb⟩ : ∃ s, s = Rb + v1 := ⟨_, rfl⟩
            have c2 : IntKind.u64.wrap ((Rb : Int) + (v1 : Int)) = (Sb : Int) := by rw [IntKind.wrap_u64]; omega
            rw [← hSb, ← hZb] at hs
            have HSb := Lib.hid hs
            have HGb := Lib.hid hgz
            have C3b := Lib.hid c3
            clear hs hgt hgz hQb hleb hSb hZb c3 hq0
            by_cases t3 : 4294967296 ≤ Sb
            · have t3' : (4294967296 : Int) ≤ (Sb : Int) := by omega
              have HEb : Hid (Zb = (u2 * 4294967296 + d0) / y) := Nat.le_antisymm (half_break HY.out hv0 (by omega) HSb.out t3) HGb.out
              clear t3
              obtain ⟨rr, hrr⟩ : ∃ r, r = (u2 * 4294967296 + d0) % y := ⟨_, rfl⟩
              have hrb : rr < y := by rw [hrr]; exact Nat.mod_lt _ (by omega)
              have hdn : Zb * y + rr = u2 * 4294967296 + d0 := by rw [HEb.out, hrr, Nat.mul_comm]; exact Nat.div_add_mod _ _
              have f2 : IntKind.u64.wrap (IntKind.u64.wrap (IntKind.u64.wrap ((u2 : Int) * 4294967296) + (d0 : Int)) - IntKind.u64.wrap ((Zb : Int) * (y : Int))) = (rr : Int) := by
                rw [← Int.natCast_mul]; simp only [IntKind.wrap_u64]; generalize Zb * y = z at *; omega
              have f3 : (hi * 18446744073709551616 + lo) / y = Q * 4294967296 + Zb := by rw [HLO.out, half_join hi d1 d0 y (by omega), ← HU.out, ← HE.out, ← HEb.out]
              have f4 : Q < 4294967296 := by rw [HE.out]; exact half_lt hu hd1
              have f5 : Zb < 4294967296 := by rw [HEb.out]; exact half_lt hub hd0
              have f6 : IntKind.u64.wrap ((Q : Int) * 4294967296) = (Q : Int) * 4294967296 := by rw [IntKind.wrap_u64]; omega
              have f7 : IntKind.u64.wrap ((Q : Int) * 4294967296 + (Zb : Int)) = (quo : Int) := by rw [HQ.out, f3, IntKind.wrap_u64]; omega
              clear f3 f4 f5 hdn hrr HLO
              go_wp2
              go_ret2
              exact ⟨⟨(rr : Int), rfl⟩, Below.refl _ _⟩
            · have t3' : decide ((4294967296 : Int) ≤ (Sb : Int)) = false := decide_eq_false (by omega)
              have t4 : Sb < 4294967296 := by omega
              clear t3
              go_wp2
              go_roundw
              case rel => exact ⟨Zb, Sb, rfl, rfl, HSb, HGb, by omega, by first | rfl | trivial⟩
              case measure => simp [intOf]; exact C3b.out
          · have t1' : decide ((4294967296 : Int) ≤ (Qb : Int)) = false := decide_eq_false (by omega)
            have hqv : Qb * v0 ≤ 4294967295 * 4294967295 := Nat.mul_le_mul (by omega) (by omega)
            obtain ⟨Pb, hPb⟩ : ∃ p, p = Qb * v0 := ⟨_, rfl⟩
            obtain ⟨Tb, hTb⟩ : ∃ t, t = 4294967296 * Rb + d0 := ⟨_, rfl⟩
            rw [← hPb] at hqv
            have e1 : IntKind.u64.wrap ((Qb : Int) * (v0 : Int)) = (Pb : Int) := by rw [← Int.natCast_mul, ← hPb, IntKind.wrap_u64]; omega
            have e2 : IntKind.u64.wrap (4294967296 * (Rb : Int)) = 4294967296 * (Rb : Int) := by rw [IntKind.wrap_u64]; omega
            have e3 : IntKind.u64.wrap (4294967296 * (Rb : Int) + (d0 : Int)) = (Tb : Int) := by rw [IntKind.wrap_u64]; omega
            have HPb := Lib.hid hPb
            have HTb := Lib.hid hTb
            clear hPb hTb hqv t1
            by_cases t2 : Tb < Pb
            · have t2' : (Tb : Int) < (Pb : Int) := by omega
              have hgt : (u2 * 4294967296 + d0) / y < Qb := half_gt HY.out (by omega) hQb.out (by rw [← HPb.out, ← HTb.out]; exact t2)
              have hq0 : 0 < Qb := Nat.lt_of_le_of_lt (Nat.zero_le _) hgt
              obtain ⟨Zb, hZb⟩ : ∃ q, q = Qb - 1 := ⟨_, rfl⟩
              have hs := half_step hQb.out hq0
              have hgz : (u2 * 4294967296 + d0) / y ≤ Zb := by rw [hZb]; exact Nat.le_sub_one_of_lt hgt
              have c1 : IntKind.u64.wrap ((Qb : Int) - 1) = (Zb : Int) := by
                have := qbb.out
                rw [IntKind.wrap_u64]; omega
              have c3 : Zb < Qb := by omega
              obtain ⟨Sb, hSb⟩ : ∃ s, s = Rb + v1 := ⟨_, rfl⟩
              have c2 : IntKind.u64.wrap ((Rb : Int) + (v1 : Int)) = (Sb : Int) := by rw [IntKind.wrap_u64]; omega
              rw [← hSb, ← hZb] at hs
              have HSb := Lib.hid hs
              have HGb := Lib.hid hgz
              have C3b := Lib.hid c3
              clear hs hgt hgz hQb hleb hSb hZb c3 hq0
              by_cases t3 : 4294967296 ≤ Sb
              · have t3' : (4294967296 : Int) ≤ (Sb : Int) := by omega
                have HEb : Hid (Zb = (u2 * 4294967296 + d0) / y) := Nat.le_antisymm (half_break HY.out hv0 (by omega) HSb.out t3) HGb.out
                clear t3
                obtain ⟨rr, hrr⟩ : ∃ r, r = (u2 * 4294967296 + d0) % y := ⟨_, rfl⟩
                have hrb : rr < y := by rw [hrr]; exact Nat.mod_lt _ (by omega)
                have hdn : Zb * y + rr = u2 * 4294967296 + d0 := by rw [HEb.out, hrr, Nat.mul_comm]; exact Nat.div_add_mod _ _
                have f2 : IntKind.u64.wrap (IntKind.u64.wrap (IntKind.u64.wrap ((u2 : Int) * 4294967296) + (d0 : Int)) - IntKind.u64.wrap ((Zb : Int) * (y : Int))) = (rr : Int) := by
                  rw [← Int.natCast_mul]; simp only [IntKind.wrap_u64]; generalize Zb * y = z at *; omega
                have f3 : (hi * 18446744073709551616 + lo) / y = Q * 4294967296 + Zb := by rw [HLO.out, half_join hi d1 d0 y (by omega), ← HU.out, ← HE.out, ← HEb.out]
                have f4 : Q < 4294967296 := by rw [HE.out]; exact half_lt hu hd1
                have f5 : Zb < 4294967296 := by rw [HEb.out]; exact half_lt hub hd0
                have f6 : IntKind.u64.wrap ((Q : Int) * 4294967296) = (Q : Int) * 4294967296 := by rw [IntKind.wrap_u64]; omega
                have f7 : IntKind.u64.wrap ((Q : Int) * 4294967296 + (Zb : Int)) = (quo : Int) := by rw [HQ.out, f3, IntKind.wrap_u64]; omega
                clear f3 f4 f5 hdn hrr HLO
                go_wp2
                go_ret2
                exact ⟨⟨(rr : Int), rfl⟩, Below.refl _ _⟩
              · have t3' : decide ((4294967296 : Int) ≤ (Sb : Int)) = false := decide_eq_false (by omega)
                have t4 : Sb < 4294967296 := by omega
                clear t3
                go_wp2
                go_roundw
                case rel => exact ⟨Zb, Sb, rfl, rfl, HSb, HGb, by omega, by first | rfl | trivial⟩
                case measure => simp [intOf]; exact C3b.out
            · have t2' : decide ((Tb : Int) < (Pb : Int)) = false := decide_eq_false (by omega)
              have HEb : Hid (Qb = (u2 * 4294967296 + d0) / y) := Nat.le_antisymm (half_le HY.out (by omega) hQb.out (by rw [← HPb.out, ← HTb.out]; omega)) hleb.out
              obtain ⟨rr, hrr⟩ : ∃ r, r = (u2 * 4294967296 + d0) % y := ⟨_, rfl⟩
              have hrb : rr < y := by rw [hrr]; exact Nat.mod_lt _ (by omega)
              have hdn : Qb * y + rr = u2 * 4294967296 + d0 := by rw [HEb.out, hrr, Nat.mul_comm]; exact Nat.div_add_mod _ _
              have f2 : IntKind.u64.wrap (IntKind.u64.wrap (IntKind.u64.wrap ((u2 : Int) * 4294967296) + (d0 : Int)) - IntKind.u64.wrap ((Qb : Int) * (y : Int))) = (rr : Int) := by
                rw [← Int.natCast_mul]; simp only [IntKind.wrap_u64]; generalize Qb * y = z at *; omega
              have f3 : (hi * 18446744073709551616 + lo) / y = Q * 4294967296 + Qb := by rw [HLO.out, half_join hi d1 d0 y (by omega), ← HU.out, ← HE.out, ← HEb.out]
              have f4 : Q < 4294967296 := by rw [HE.out]; exact half_lt hu hd1
              have f5 : Qb < 4294967296 := by rw [HEb.out]; exact half_lt hub hd0
              have f6 : IntKind.u64.wrap ((Q : Int) * 4294967296) = (Q : Int) * 4294967296 := by rw [IntKind.wrap_u64]; omega
              have f7 : IntKind.u64.wrap ((Q : Int) * 4294967296 + (Qb : Int)) = (quo : Int) := by rw [HQ.out, f3, IntKind.wrap_u64]; omega
              clear f3 f4 f5 hdn hrr HLO
              go_wp2
              go_ret2
              exact ⟨⟨(rr : Int), rfl⟩, Below.refl _ _⟩

theorem div64_any (hi lo y : Nat) (h0 : 9223372036854775808 ≤ y) (h1 : y < 18446744073709551616) (hl : lo < 18446744073709551616) (hu : hi < y) (w : World) :
    Calls Tryd.prog 87 #[.int .u64 (hi : Int), .int .u64 (lo : Int), .int .u64 (y : Int)] w fun e w' => (∃ r : Int, e = .returned (.tuple #[.int .u64 (((hi * 18446744073709551616 + lo) / y : Nat) : Int), .int .u64 r])) ∧ Below w.heap.size w w' := by
  rcases Nat.eq_zero_or_pos hi with rfl | hp
  · rw [Nat.zero_mul, Nat.zero_add]
    exact div64_zero lo y h0 h1 hl w
  · exact div64_pos hi lo y (y / 4294967296) (y % 4294967296) (lo / 4294967296) (lo % 4294967296) _ rfl (by omega) (by omega) (by omega) (by omega) (by omega) (by omega) (by omega) hu hp w

end Go.Proofs.YtkionnggdncncaaDoor

