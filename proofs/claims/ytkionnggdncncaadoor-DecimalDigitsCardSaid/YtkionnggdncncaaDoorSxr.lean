/- Contracts of the reference's numbers of arbitrary size, as the writer of conditions takes them: results are slices of digits in new memory. -/
import Derived.Test.YtkionnggdncncaaDoorMx
import Derived.Test.YtkionnggdncncaaDoorMr
namespace Go.Proofs.YtkionnggdncncaaDoor
open Go.RowKit Sx

theorem BigX.at {n : Nat} (x : BigX n) {A : Facts} (hx : Sub x.L A) {w : World} (hw : Holds w A) : Big w x.v n := x.h w (hx.holds hw)

theorem ent_from : Enters Tryd.prog 25 := ⟨_, Tryd.func25, by kernel_rfl, rfl⟩
theorem c_from (n : Nat) (hn : n < B256) (A : Facts) : Gives Tryd.prog 25 [U n] A (BigX n) BigX.v BigX.L := gives_big ent_from fun w _ => from_new n hn w
theorem ent_from64 : Enters Tryd.prog 33 := ⟨_, Tryd.func33, by kernel_rfl, rfl⟩
theorem c_from64 (n : Nat) (hn : n < 18446744073709551616) (A : Facts) : Gives Tryd.prog 33 [.int .u64 n] A (BigX n) BigX.v BigX.L := gives_big ent_from64 fun w _ => rfrom64_new n hn w
theorem ent_add : Enters Tryd.prog 31 := ⟨_, Tryd.func31, by kernel_rfl, rfl⟩
theorem c_add {n m : Nat} (x : BigX n) (y : BigX m) (hn : nd n ≤ 1048576) (hm : nd m ≤ 1048576) (A : Facts) (hx : Sub x.L A) (hy : Sub y.L A) : Gives Tryd.prog 31 [x.v, y.v] A (BigX (n + m)) BigX.v BigX.L :=
  gives_big ent_add fun w hw => radd_new _ _ n m w (x.at hx hw) (y.at hy hw) hn hm
theorem ent_sub : Enters Tryd.prog 63 := ⟨_, Tryd.func63, by kernel_rfl, rfl⟩
theorem c_sub {n m : Nat} (x : BigX n) (y : BigX m) (hn : nd n ≤ 1048576) (hm : m ≤ n) (A : Facts) (hx : Sub x.L A) (hy : Sub y.L A) : Gives Tryd.prog 63 [x.v, y.v] A (BigX (n - m)) BigX.v BigX.L :=
  gives_big ent_sub fun w hw => (rsub_new _ _ n m w (x.at hx hw) (y.at hy hw) hn hm).mono fun _ _ ⟨v, h1, h2, h3, h4⟩ => ⟨v, h1, h2, fun b hb => by rw [h3] at hb; cases hb; exact Nat.le_refl _, h4⟩
theorem ent_mul : Enters Tryd.prog 32 := ⟨_, Tryd.func32, by kernel_rfl, rfl⟩
theorem c_mul {n m : Nat} (x : BigX n) (y : BigX m) (hn : nd n ≤ 1048576) (hm : nd m ≤ 1048576) (A : Facts) (hx : Sub x.L A) (hy : Sub y.L A) : Gives Tryd.prog 32 [x.v, y.v] A (BigX (n * m)) BigX.v BigX.L :=
  gives_big ent_mul fun w hw => rmul_new _ _ n m w (x.at hx hw) (y.at hy hw) hn hm
theorem ent_div : Enters Tryd.prog 42 := ⟨_, Tryd.func42, by kernel_rfl, rfl⟩
theorem c_div {n m : Nat} (x : BigX n) (y : BigX m) (hn : nd n ≤ 1048576) (hm : nd m ≤ 1048575) (h0 : 0 < m) (A : Facts) (hx : Sub x.L A) (hy : Sub y.L A) :
    Gives Tryd.prog 42 [x.v, y.v] A (BigX (n / m) × BigX (n % m)) (fun x => .tuple #[x.1.v, x.2.v]) (fun x => x.1.L ++ x.2.L) :=
  gives_big2 ent_div fun w hw => div_new _ _ n m w (x.at hx hw) (y.at hy hw) hn hm h0
theorem ent_cmp : Enters Tryd.prog 62 := ⟨_, Tryd.func62, by kernel_rfl, rfl⟩
theorem c_cmp {n m : Nat} (x : BigX n) (y : BigX m) (A : Facts) (hx : Sub x.L A) (hy : Sub y.L A) : Gives Tryd.prog 62 [x.v, y.v] A Unit (fun _ => .int .i64 (cmpI n m)) (fun _ => []) :=
  gives_none ent_cmp fun w hw => rcmp_any _ _ n m w (x.at hx hw) (y.at hy hw)
theorem ent_checked : Enters Tryd.prog 34 := ⟨_, Tryd.func34, by kernel_rfl, rfl⟩
theorem c_checked {n : Nat} (x : BigX n) (A : Facts) (hx : Sub x.L A) : Gives Tryd.prog 34 [x.v] A Unit (fun _ => .tuple #[U (chkR n), .int .i64 (chkE n)]) (fun _ => []) :=
  gives_none ent_checked fun w hw => checked_any _ n w (x.at hx hw)
theorem ent_zero : Enters Tryd.prog 27 := ⟨_, Tryd.func27, by kernel_rfl, rfl⟩
theorem d_zero (n : Nat) (hn : n < B256) : Det Tryd.prog 27 [U n] (.bool (decide (n = 0))) := .of_calls ent_zero fun w => rzero_any n hn w
/-- Numbers of 512 bits are short enough. -/
theorem nd_512 {n : Nat} (h : n < B256 * B256) : nd n ≤ 1048575 := Nat.le_trans ((nd_le (k := 32)).2 h) (by omega)
end Go.Proofs.YtkionnggdncncaaDoor

