/- The library's contracts of math/bits.Len64 and math/bits.Mul64 laid at this translation, and the contract of uint256.MultiplyAdd, which returns both halves of x*y + m + n. -/
import Derived.Test.YtkionnggdncncaaDoorUa
import Derived.Shelf.Bits.Mul64
import Derived.Shelf.Strconv.Itoa0
import Derived.Lib.ItoaNum
namespace Go.Proofs.YtkionnggdncncaaDoor
open Go.RowKit Go.Shelf

def ren : Ren := ⟨fun x => if x = 264 then 71 else 38, fun x => if x = 46 then 58 else if x = 53 then 22 else if x = 3 then 3 else if x = 4 then 4 else if x = 5 then 5 else if x = 9 then 9 else x, fun x => x⟩
theorem lays264 : Lays.n264 Tryd.prog ren where
  mixed := by kernel_rfl
  f264 := by kernel_rfl
  t46 := Tryd.underlying58
  a46 := Tryd.isAgg58
  z46 := Tryd.sizeOf58
  v46 := Tryd.zeroValue58
  t53 := Tryd.underlying22
  a53 := Tryd.isAgg22
  z53 := Tryd.sizeOf22
  v53 := Tryd.zeroValue22
theorem lays129 : Lays.n129 Tryd.prog ren where
  mixed := by kernel_rfl
  f129 := by kernel_rfl
  t3 := Tryd.underlying3
  a3 := Tryd.isAgg3
  z3 := Tryd.sizeOf3
  v3 := Tryd.zeroValue3
  t4 := Tryd.underlying4
  a4 := Tryd.isAgg4
  z4 := Tryd.sizeOf4
  v4 := Tryd.zeroValue4
  t5 := Tryd.underlying5
  a5 := Tryd.isAgg5
  z5 := Tryd.sizeOf5
  v5 := Tryd.zeroValue5
  t9 := Tryd.underlying9
  a9 := Tryd.isAgg9
  z9 := Tryd.sizeOf9
  v9 := Tryd.zeroValue9
  t46 := Tryd.underlying58
  a46 := Tryd.isAgg58
  z46 := Tryd.sizeOf58
  v46 := Tryd.zeroValue58
  t53 := Tryd.underlying22
  a53 := Tryd.isAgg22
  z53 := Tryd.sizeOf22
  v53 := Tryd.zeroValue22

theorem bitLen_blen (x : Nat) (hx : x < 18446744073709551616) : Lib.bitLen x = blen x := by
  by_cases h : x = 0
  · subst h; rfl
  · obtain ⟨h1, h2, h3⟩ := Lib.bitLenAux_bounds 64 x hx h
    have e : blen x = (Lib.bitLenAux 64 x - 1) + 1 := blen_eq h2 (by rw [Nat.sub_add_cancel h1]; exact h3)
    show Lib.bitLenAux 64 x = blen x
    omega

theorem len64_any (x : Int) (h0 : 0 ≤ x) (h1 : x < 18446744073709551616) (w : World) :
    Calls Tryd.prog 38 #[.int .u64 x] w fun e w' => e = .returned (.int .i64 (blen x.toNat)) ∧ w = w' := by
  refine (Any.bits_Len64 lays129 x w h0 (by omega)).mono fun e w' h => ?_
  rw [← bitLen_blen x.toNat (by omega)]
  exact ⟨h.1, h.2.symm⟩

theorem mul64_any (x y : Nat) (hx : x < 18446744073709551616) (hy : y < 18446744073709551616) (w : World) :
    Calls Tryd.prog 71 #[.int .u64 x, .int .u64 y] w fun e w' => e = .returned (.tuple #[.int .u64 ((x * y / 18446744073709551616 : Nat) : Int), .int .u64 ((x * y % 18446744073709551616 : Nat) : Int)]) ∧ w = w' :=
  (Any.bits_Mul64 lays264 x y hx hy w).mono fun _ _ h => ⟨h.1, h.2.symm⟩

theorem mad_core (x y m n h l s c t d : Int) (w : World) (hh : 0 ≤ h) (hc : 0 ≤ c) (hd : 0 ≤ d) (hs : h + c + d < 18446744073709551616)
    (hm : ∀ w, Calls Tryd.prog 71 #[.int .u64 x, .int .u64 y] w fun e w' => e = .returned (.tuple #[.int .u64 h, .int .u64 l]) ∧ w = w')
    (h0 : ∀ w, (callFunc 65 #[.int .u64 l, .int .u64 m, .int .u64 0]).run Tryd.prog w = .ok (.value (.tuple #[.int .u64 s, .int .u64 c])) w)
    (h1 : ∀ w, (callFunc 65 #[.int .u64 s, .int .u64 n, .int .u64 0]).run Tryd.prog w = .ok (.value (.tuple #[.int .u64 t, .int .u64 d])) w) :
    Calls Tryd.prog 78 #[.int .u64 x, .int .u64 y, .int .u64 m, .int .u64 n] w fun e w' => e = .returned (.tuple #[.int .u64 (h + c + d), .int .u64 t]) ∧ w = w' := by
  have e1 : IntKind.u64.wrap (h + c) = h + c := by rw [IntKind.wrap_u64]; omega
  have e2 : IntKind.u64.wrap (h + c + d) = h + c + d := by rw [IntKind.wrap_u64]; omega
  have HM : Hid (∀ w, Calls Tryd.prog 71 #[.int .u64 x, .int .u64 y] w fun e w' => e = .returned (.tuple #[.int .u64 h, .int .u64 l]) ∧ w = w') := hm
  clear hm hs
  go_enter Tryd.func78, Tryd.ntmps78
  go_wp2_with (go_at_call 71; refine (HM.out _).mono ?_; rintro e w2 ⟨rfl, rfl⟩)
  go_ret2
  exact ⟨rfl, rfl⟩

theorem mad_any (x y m n : Nat) (hx : x < 18446744073709551616) (hy : y < 18446744073709551616) (hm : m < 18446744073709551616) (hn : n < 18446744073709551616) (w : World) :
    Calls Tryd.prog 78 #[.int .u64 x, .int .u64 y, .int .u64 m, .int .u64 n] w fun e w' =>
      e = .returned (.tuple #[.int .u64 (((x * y + m + n) / 18446744073709551616 : Nat) : Int), .int .u64 (((x * y + m + n) % 18446744073709551616 : Nat) : Int)]) ∧ w = w' := by
  have hxy : x * y ≤ 18446744073709551615 * 18446744073709551615 := Nat.mul_le_mul (by omega) (by omega)
  obtain ⟨s, c, p0, q0, r0, t0, e0⟩ := split_add ((x * y % 18446744073709551616 : Nat) : Int) m 0 (by omega) (by omega) (by omega) (by omega) (by omega) (by omega)
  obtain ⟨t, d, p1, q1, r1, t1, e1⟩ := split_add s n 0 (by omega) (by omega) (by omega) (by omega) (by omega) (by omega)
  have k0 := add64_run (by omega) (by omega) (by omega) (by omega) p0 q0 e0
  have k1 := add64_run p0 (by omega) (by omega) (by omega) p1 q1 e1
  have g1 : (((x * y + m + n) / 18446744073709551616 : Nat) : Int) = ((x * y / 18446744073709551616 : Nat) : Int) + c + d := by generalize x * y = z at *; omega
  have g2 : (((x * y + m + n) % 18446744073709551616 : Nat) : Int) = t := by generalize x * y = z at *; omega
  have g3 : ((x * y / 18446744073709551616 : Nat) : Int) + c + d < 18446744073709551616 := by generalize x * y = z at *; omega
  rw [g1, g2]
  exact mad_core _ _ _ _ _ _ _ _ _ _ w (by omega) r0 r1 g3 (fun w => mul64_any x y hx hy w) k0 k1

end Go.Proofs.YtkionnggdncncaaDoor

