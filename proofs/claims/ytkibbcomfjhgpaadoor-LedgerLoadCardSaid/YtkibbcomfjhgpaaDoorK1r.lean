/- LedgerReload. No conditions. -/
import Derived.Test.YtkibbcomfjhgpaaDoorK1w
namespace Go.Proofs.YtkibbcomfjhgpaaDoor
open Go.RowKit Sx
set_option maxRecDepth 100000

structure RS (y : Cds) (c : Nat) where
  k : Nat
  hk : k ≤ y.n
  L : Led
  ok : LOk L
  len : L.acc.length ≤ c + 2 * k
section
variable {y : Cds} {c : Nat}
def rs0 (y : Cds) : RS y 0 := ⟨0, Nat.zero_le _, led0, ok_0, Nat.zero_le _⟩
def rsL (y : Cds) {c : Nat} (L : Led) (h : LOk L) (hl : L.acc.length ≤ c) : RS y c := ⟨0, Nat.zero_le _, L, h, hl⟩
abbrev RS.d (x : RS y c) : Cd := nrm (y.l.getD x.k default) x.k
theorem RS.dk (x : RS y c) : CdOk x.d := nrm_ok (y.hb x.k) x.k
def RS.next (x : RS y c) (g : x.k < y.n) : RS y c := ⟨x.k + 1, g, (app x.L x.d).2, app_ok x.ok x.dk, by have := app_len x.L x.d; have := x.len; omega⟩
theorem RS.mu (x : RS y c) (g : x.k < y.n) : y.n - (x.next g).k < y.n - x.k := by show y.n - (x.k + 1) < _; omega
theorem RS.a1 (x : RS y c) (g : x.k < y.n) (hy : y.n ≤ 40) : IntKind.i64.wrap ((x.k : Int) + 1) = (((x.next g).k : Nat) : Int) := add1 (by omega)
theorem RS.l80 (x : RS y c) (hy : y.n ≤ 40) : x.L.acc.length ≤ c + 80 := by have := x.len; have := x.hk; omega
theorem RS.l9 (x : RS y c) (hy : y.n ≤ 40) (hc : c ≤ 1000) : x.L.acc.length ≤ 1000000000 := by have := x.l80 hy; omega
end
theorem frN (l : List Ac) (z : FrX (acws l)) (h : l.length ≤ 1000000000) : (Ass.fr l z).n ≤ 1000000000 := by rw [← (Ass.fr l z).hl]; exact h
theorem n40 {n : Nat} (h : decide ((n : Int) > 40) = false) : n ≤ 40 := by have := of_decide_eq_false h; omega
theorem g40 {n : Nat} (h : 40 < n) : decide ((n : Int) > 40) = true := decide_eq_true (by omega)
theorem l40 {n : Nat} (h : ¬ 40 < n) : decide ((n : Int) > 40) = false := decide_eq_false (by omega)
theorem neI_self (v : Int) : (v != v) = false := by simp
theorem vv_eq (v : Nat → Nat) : cellsEq (cU (v 0) ++ (cU (v 1) ++ (cU (v 2) ++ cU (v 3)))) (cU (v 0) ++ (cU (v 1) ++ (cU (v 2) ++ cU (v 3)))) = true := by have := vv_self v; simpa using this
theorem k_loadL (L : Led) (h : LOk L) (hl : L.acc.length ≤ 100000) (x : FrX (acws L.acc)) (A : Facts) (hy : Sub (frL 58 x) A) :
    CallT Tryd.prog 12 [.slice (frO x) (lenB (acws L.acc) 6) (frC 6 x), VV4 L.v] A (fun G => G = []) Nat (fun m => .tuple #[.pointer (some ⟨m, 0, none⟩), .int .i64 0]) (fun _ => []) (fun m => led m L) := by
  have e := tl_sum h (Ass.fr L.acc x) rfl
  have := k_load (Ass.fr L.acc x) L.v h.v h.getD (by rw [← (Ass.fr L.acc x).hl]; exact hl) h.okA (by rw [e]; exact h.s) A hy
  rw [e, show puts (Ass.fr L.acc x).l = L.acc from puts_self h.asc h.full] at this
  exact this

end Go.Proofs.YtkibbcomfjhgpaaDoor

