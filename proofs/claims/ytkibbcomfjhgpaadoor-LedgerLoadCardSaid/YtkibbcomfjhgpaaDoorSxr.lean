/- Contracts of the reference's numbers of arbitrary size, as the writer of conditions takes them: results are slices of digits in new memory. -/
import Derived.Test.YtkibbcomfjhgpaaDoorMx
import Derived.Test.YtkibbcomfjhgpaaDoorMr
namespace Go.Proofs.YtkibbcomfjhgpaaDoor
open Go.RowKit Sx
set_option maxRecDepth 100000

theorem BigX.at {n : Nat} (x : BigX n) {A : Facts} (hx : Sub x.L A) {w : World} (hw : Holds w A) : Big w x.v n := x.h w (hx.holds hw)

theorem ent_from : Enters Tryd.prog 49 := ⟨_, Tryd.func49, by kernel_rfl, rfl⟩
theorem c_from (n : Nat) (hn : n < B256) (A : Facts) : Gives Tryd.prog 49 [U n] A (BigX n) BigX.v BigX.L := gives_big ent_from fun w _ => from_new n hn w
theorem ent_add : Enters Tryd.prog 48 := ⟨_, Tryd.func48, by kernel_rfl, rfl⟩
theorem c_add {n m : Nat} (x : BigX n) (y : BigX m) (hn : nd n ≤ 1048576) (hm : nd m ≤ 1048576) (A : Facts) (hx : Sub x.L A) (hy : Sub y.L A) : Gives Tryd.prog 48 [x.v, y.v] A (BigX (n + m)) BigX.v BigX.L :=
  gives_big ent_add fun w hw => radd_new _ _ n m w (x.at hx hw) (y.at hy hw) hn hm
theorem ent_sub : Enters Tryd.prog 75 := ⟨_, Tryd.func75, by kernel_rfl, rfl⟩
theorem c_sub {n m : Nat} (x : BigX n) (y : BigX m) (hn : nd n ≤ 1048576) (hm : m ≤ n) (A : Facts) (hx : Sub x.L A) (hy : Sub y.L A) : Gives Tryd.prog 75 [x.v, y.v] A (BigX (n - m)) BigX.v BigX.L :=
  gives_big ent_sub fun w hw => (rsub_new _ _ n m w (x.at hx hw) (y.at hy hw) hn hm).mono fun _ _ ⟨v, h1, h2, h3, h4⟩ => ⟨v, h1, h2, fun b hb => by rw [h3] at hb; cases hb; exact Nat.le_refl _, h4⟩
theorem ent_cmp : Enters Tryd.prog 74 := ⟨_, Tryd.func74, by kernel_rfl, rfl⟩
theorem c_cmp {n m : Nat} (x : BigX n) (y : BigX m) (A : Facts) (hx : Sub x.L A) (hy : Sub y.L A) : Gives Tryd.prog 74 [x.v, y.v] A Unit (fun _ => .int .i64 (cmpI n m)) (fun _ => []) :=
  gives_none ent_cmp fun w hw => rcmp_any _ _ n m w (x.at hx hw) (y.at hy hw)
theorem ent_zero : Enters Tryd.prog 47 := ⟨_, Tryd.func47, by kernel_rfl, rfl⟩
theorem d_zero (n : Nat) (hn : n < B256) : Det Tryd.prog 47 [U n] (.bool (decide (n = 0))) := .of_calls ent_zero fun w => rzero_any n hn w
/-- Numbers of 512 bits are short enough. -/
theorem nd_512 {n : Nat} (h : n < B256 * B256) : nd n ≤ 1048575 := Nat.le_trans ((nd_le (k := 32)).2 h) (by omega)
theorem nd_256 {n : Nat} (h : n < B256) : nd n ≤ 1048575 := Nat.le_trans (nd_16.2 h) (by omega)
theorem ent_to : Enters Tryd.prog 19 := ⟨_, Tryd.func19, by kernel_rfl, rfl⟩
theorem c_to {n : Nat} (x : BigX n) (hn : n < B256) (A : Facts) (hx : Sub x.L A) : Gives Tryd.prog 19 [x.v] A Unit (fun _ => U n) (fun _ => []) :=
  gives_none ent_to fun w hw => to_any _ n w (x.at hx hw) hn
end Go.Proofs.YtkibbcomfjhgpaaDoor

