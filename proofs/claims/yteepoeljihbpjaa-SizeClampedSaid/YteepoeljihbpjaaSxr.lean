/- Contracts of the reference's numbers of arbitrary size, as the writer of conditions takes them: results are slices of digits in new memory. -/
import Derived.Test.YteepoeljihbpjaaMx
import Derived.Test.YteepoeljihbpjaaMr
namespace Go.Proofs.Yteepoeljihbpjaa
open Go.RowKit Sx

theorem BigX.at {n : Nat} (x : BigX n) {A : Facts} (hx : Sub x.L A) {w : World} (hw : Holds w A) : Big w x.v n := x.h w (hx.holds hw)

theorem ent_from : Enters Try.prog 31 := ⟨_, Try.func31, by kernel_rfl, rfl⟩
theorem c_from (n : Nat) (hn : n < B256) (A : Facts) : Gives Try.prog 31 [U n] A (BigX n) BigX.v BigX.L := gives_big ent_from fun w _ => from_new n hn w
theorem ent_mul : Enters Try.prog 30 := ⟨_, Try.func30, by kernel_rfl, rfl⟩
theorem c_mul {n m : Nat} (x : BigX n) (y : BigX m) (hn : nd n ≤ 1048576) (hm : nd m ≤ 1048576) (A : Facts) (hx : Sub x.L A) (hy : Sub y.L A) : Gives Try.prog 30 [x.v, y.v] A (BigX (n * m)) BigX.v BigX.L :=
  gives_big ent_mul fun w hw => rmul_new _ _ n m w (x.at hx hw) (y.at hy hw) hn hm
theorem ent_checked : Enters Try.prog 29 := ⟨_, Try.func29, by kernel_rfl, rfl⟩
theorem c_checked {n : Nat} (x : BigX n) (A : Facts) (hx : Sub x.L A) : Gives Try.prog 29 [x.v] A Unit (fun _ => .tuple #[U (chkR n), .int .i64 (chkE n)]) (fun _ => []) :=
  gives_none ent_checked fun w hw => checked_any _ n w (x.at hx hw)
/-- Numbers of 512 bits are short enough. -/
theorem nd_512 {n : Nat} (h : n < B256 * B256) : nd n ≤ 1048575 := Nat.le_trans ((nd_le (k := 32)).2 h) (by omega)
theorem nd_256 {n : Nat} (h : n < B256) : nd n ≤ 1048575 := Nat.le_trans (nd_16.2 h) (by omega)
theorem ent_to : Enters Try.prog 37 := ⟨_, Try.func37, by kernel_rfl, rfl⟩
theorem c_to {n : Nat} (x : BigX n) (hn : n < B256) (A : Facts) (hx : Sub x.L A) : Gives Try.prog 37 [x.v] A Unit (fun _ => U n) (fun _ => []) :=
  gives_none ent_to fun w hw => to_any _ n w (x.at hx hw) hn
end Go.Proofs.Yteepoeljihbpjaa

