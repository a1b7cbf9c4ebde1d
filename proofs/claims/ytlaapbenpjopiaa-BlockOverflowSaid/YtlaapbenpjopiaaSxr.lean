/- Contracts of the reference's numbers of arbitrary size, as the writer of conditions takes them: results are slices of digits in new memory. -/
import Derived.Test.YtlaapbenpjopiaaMx
import Derived.Test.YtlaapbenpjopiaaMr
namespace Go.Proofs.Ytlaapbenpjopiaa
open Go.RowKit Sx
set_option maxRecDepth 100000

theorem BigX.at {n : Nat} (x : BigX n) {A : Facts} (hx : Sub x.L A) {w : World} (hw : Holds w A) : Big w x.v n := x.h w (hx.holds hw)

theorem ent_from : Enters Try.prog 47 := ⟨_, Try.func47, by kernel_rfl, rfl⟩
theorem c_from (n : Nat) (hn : n < B256) (A : Facts) : Gives Try.prog 47 [U n] A (BigX n) BigX.v BigX.L := gives_big ent_from fun w _ => from_new n hn w
theorem ent_from64 : Enters Try.prog 31 := ⟨_, Try.func31, by kernel_rfl, rfl⟩
theorem c_from64 (n : Nat) (hn : n < 18446744073709551616) (A : Facts) : Gives Try.prog 31 [.int .u64 n] A (BigX n) BigX.v BigX.L := gives_big ent_from64 fun w _ => rfrom64_new n hn w
theorem ent_add : Enters Try.prog 48 := ⟨_, Try.func48, by kernel_rfl, rfl⟩
theorem c_add {n m : Nat} (x : BigX n) (y : BigX m) (hn : nd n ≤ 1048576) (hm : nd m ≤ 1048576) (A : Facts) (hx : Sub x.L A) (hy : Sub y.L A) : Gives Try.prog 48 [x.v, y.v] A (BigX (n + m)) BigX.v BigX.L :=
  gives_big ent_add fun w hw => radd_new _ _ n m w (x.at hx hw) (y.at hy hw) hn hm
theorem ent_sub : Enters Try.prog 46 := ⟨_, Try.func46, by kernel_rfl, rfl⟩
theorem c_sub {n m : Nat} (x : BigX n) (y : BigX m) (hn : nd n ≤ 1048576) (hm : m ≤ n) (A : Facts) (hx : Sub x.L A) (hy : Sub y.L A) : Gives Try.prog 46 [x.v, y.v] A (BigX (n - m)) BigX.v BigX.L :=
  gives_big ent_sub fun w hw => (rsub_new _ _ n m w (x.at hx hw) (y.at hy hw) hn hm).mono fun _ _ ⟨v, h1, h2, h3, h4⟩ => ⟨v, h1, h2, fun b hb => by rw [h3] at hb; cases hb; exact Nat.le_refl _, h4⟩
theorem ent_mul : Enters Try.prog 30 := ⟨_, Try.func30, by kernel_rfl, rfl⟩
theorem c_mul {n m : Nat} (x : BigX n) (y : BigX m) (hn : nd n ≤ 1048576) (hm : nd m ≤ 1048576) (A : Facts) (hx : Sub x.L A) (hy : Sub y.L A) : Gives Try.prog 30 [x.v, y.v] A (BigX (n * m)) BigX.v BigX.L :=
  gives_big ent_mul fun w hw => rmul_new _ _ n m w (x.at hx hw) (y.at hy hw) hn hm
theorem ent_div : Enters Try.prog 29 := ⟨_, Try.func29, by kernel_rfl, rfl⟩
theorem c_div {n m : Nat} (x : BigX n) (y : BigX m) (hn : nd n ≤ 1048576) (hm : nd m ≤ 1048575) (h0 : 0 < m) (A : Facts) (hx : Sub x.L A) (hy : Sub y.L A) :
    Gives Try.prog 29 [x.v, y.v] A (BigX (n / m) × BigX (n % m)) (fun x => .tuple #[x.1.v, x.2.v]) (fun x => x.1.L ++ x.2.L) :=
  gives_big2 ent_div fun w hw => div_new _ _ n m w (x.at hx hw) (y.at hy hw) hn hm h0
theorem ent_cmp : Enters Try.prog 44 := ⟨_, Try.func44, by kernel_rfl, rfl⟩
theorem c_cmp {n m : Nat} (x : BigX n) (y : BigX m) (A : Facts) (hx : Sub x.L A) (hy : Sub y.L A) : Gives Try.prog 44 [x.v, y.v] A Unit (fun _ => .int .i64 (cmpI n m)) (fun _ => []) :=
  gives_none ent_cmp fun w hw => rcmp_any _ _ n m w (x.at hx hw) (y.at hy hw)
theorem ent_checked : Enters Try.prog 49 := ⟨_, Try.func49, by kernel_rfl, rfl⟩
theorem c_checked {n : Nat} (x : BigX n) (A : Facts) (hx : Sub x.L A) : Gives Try.prog 49 [x.v] A Unit (fun _ => .tuple #[U (chkR n), .int .i64 (chkE n)]) (fun _ => []) :=
  gives_none ent_checked fun w hw => checked_any _ n w (x.at hx hw)
/-- Numbers of 512 bits are short enough. -/
theorem nd_512 {n : Nat} (h : n < B256 * B256) : nd n ≤ 1048575 := Nat.le_trans ((nd_le (k := 32)).2 h) (by omega)
theorem nd_256 {n : Nat} (h : n < B256) : nd n ≤ 1048575 := Nat.le_trans (nd_16.2 h) (by omega)
theorem ent_to : Enters Try.prog 32 := ⟨_, Try.func32, by kernel_rfl, rfl⟩
theorem c_to {n : Nat} (x : BigX n) (hn : n < B256) (A : Facts) (hx : Sub x.L A) : Gives Try.prog 32 [x.v] A Unit (fun _ => U n) (fun _ => []) :=
  gives_none ent_to fun w hw => to_any _ n w (x.at hx hw) hn
theorem c_from64_at {v : Int} (n : Nat) (e : v = n) (hn : n < 18446744073709551616) (A : Facts) : Gives Try.prog 31 [.int .u64 v] A (BigX n) BigX.v BigX.L := by
  subst e; exact c_from64 n hn A
end Go.Proofs.Ytlaapbenpjopiaa

