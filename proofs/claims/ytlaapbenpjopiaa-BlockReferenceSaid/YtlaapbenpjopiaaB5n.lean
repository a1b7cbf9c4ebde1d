/- What the walks of layer 5 lean on: the Horner scheme over whole numbers, its bounds and its order; shares in basis points. No Go function in this text but the contracts' values; no conditions. -/
import Derived.Test.YtlaapbenpjopiaaSxg
import Derived.Test.YtlaapbenpjopiaaSxr
namespace Go.Proofs.Ytlaapbenpjopiaa
open Go.RowKit Sx
set_option maxRecDepth 100000

/-- The Horner scheme from i down to 1. -/
def horn (x : Nat) : Nat → Nat → Nat
  | 0, h => h
  | i + 1, h => horn x i (10000 + h * x / ((i + 1) * 10000))
def expN (x t : Nat) : Nat := horn x t 10000
def expV (x : Nat) (t : Int) : Prop := x ≤ 200000 ∧ 1 ≤ t ∧ t ≤ 20
instance (x : Nat) (t : Int) : Decidable (expV x t) := by unfold expV; infer_instance
def expR (x : Nat) (t : Int) : Nat := if expV x t then expN x t.toNat else 0
def expE (x : Nat) (t : Int) : Int := if expV x t then 0 else 2
def bdk : Nat → Nat
  | 0 => 10000
  | k + 1 => 10000 + bdk k * 200000 / ((20 - k) * 10000)
/-- The scheme's greatest value behind step i. -/
def bd (i : Nat) : Nat := bdk (20 - i)
theorem bd_max : ∀ i, i < 21 → bd i * 200000 < 18446744073709551616 ∧ 10000 ≤ bd i ∧ bd i < 10000000000000 := by decide
theorem bd_step {x i h : Nat} (hx : x ≤ 200000) (hi : i + 1 ≤ 20) (hh : h ≤ bd (i + 1)) : 10000 + h * x / ((i + 1) * 10000) ≤ bd i := by
  have e : bd i = 10000 + bd (i + 1) * 200000 / ((i + 1) * 10000) := by
    unfold bd
    obtain ⟨k, hk⟩ : ∃ k, k = 20 - (i + 1) := ⟨_, rfl⟩
    rw [show 20 - i = k + 1 by omega, ← hk, bdk, show 20 - k = i + 1 by omega]
  rw [e]
  exact Nat.add_le_add_left (Nat.div_le_div_right (Nat.mul_le_mul hh hx)) _

theorem horn_mono {x y : Nat} (hxy : x ≤ y) : ∀ (i : Nat) {h g : Nat}, h ≤ g → horn x i h ≤ horn y i g
  | 0, _, _, hg => hg
  | i + 1, _, _, hg => horn_mono hxy i (Nat.add_le_add_left (Nat.div_le_div_right (Nat.mul_le_mul hg hxy)) _)
theorem horn_split (x : Nat) : ∀ (m i h : Nat), ∃ g, (10000 ≤ h → 10000 ≤ g) ∧ horn x (i + m) h = horn x i g
  | 0, _, h => ⟨h, id, rfl⟩
  | m + 1, i, h => by
    obtain ⟨g, h1, h2⟩ := horn_split x m i (10000 + h * x / ((i + m + 1) * 10000))
    exact ⟨g, fun _ => h1 (Nat.le_add_right _ _), h2⟩
theorem exp_mono {x y : Nat} (h : x ≤ y) (t : Nat) : expN x t ≤ expN y t := horn_mono h t (Nat.le_refl _)
theorem exp_terms (x : Nat) {m n : Nat} (h : m ≤ n) : expN x m ≤ expN x n := by
  obtain ⟨g, h1, h2⟩ := horn_split x (n - m) m 10000
  rw [show m + (n - m) = n by omega] at h2
  unfold expN
  rw [h2]
  exact horn_mono (Nat.le_refl x) m (h1 (Nat.le_refl _))
theorem exp_one (x : Nat) : expN x 1 = 10000 + x := by
  show 10000 + 10000 * x / ((0 + 1) * 10000) = 10000 + x
  omega
theorem exp_ge (x : Nat) {t : Nat} (h : 1 ≤ t) : 10000 + x ≤ expN x t := by rw [← exp_one]; exact exp_terms x h
theorem exp_zero (t : Nat) : expN 0 t = 10000 := by
  unfold expN
  induction t with
  | zero => rfl
  | succ t ih => show horn 0 t (10000 + 10000 * 0 / ((t + 1) * 10000)) = 10000; simpa using ih

/-- Where a loop of the scheme stands. -/
structure ExX (x t : Nat) where
  i : Nat
  h : Nat
  hi : i ≤ t
  hh : h ≤ bd i
  he : horn x i h = expN x t
section
variable {x t : Nat}
def ExX.first (x : Nat) {t : Nat} (ht : t ≤ 20) : ExX x t := ⟨t, 10000, Nat.le_refl _, (bd_max t (by omega)).2.1, rfl⟩
theorem pos_of {i : Nat} (h : decide ((i : Int) ≥ 1) = true) : 1 ≤ i := by have := of_decide_eq_true h; omega
theorem zero_of {i : Nat} (h : decide ((i : Int) ≥ 1) = false) : i = 0 := by have := of_decide_eq_false h; omega
def ExX.val (e : ExX x t) : Nat := 10000 + e.h * x / (e.i * 10000)
def ExX.next (e : ExX x t) (hx : x ≤ 200000) (ht : t ≤ 20) (hp : 1 ≤ e.i) : ExX x t where
  i := e.i - 1
  h := e.val
  hi := Nat.le_trans (Nat.sub_le _ _) e.hi
  hh := by
    obtain ⟨i, h, hi, hh, he⟩ := e
    obtain ⟨i, rfl⟩ : ∃ k, i = k + 1 := ⟨i - 1, by have : 1 ≤ i := hp; omega⟩
    exact bd_step hx (Nat.le_trans hi ht) hh
  he := by
    obtain ⟨i, h, hi, hh, he⟩ := e
    obtain ⟨i, rfl⟩ : ∃ k, i = k + 1 := ⟨i - 1, by have : 1 ≤ i := hp; omega⟩
    exact he
theorem ExX.next_lt (e : ExX x t) (hx : x ≤ 200000) (ht : t ≤ 20) (hp : 1 ≤ e.i) : (e.next hx ht hp).i < e.i := by show e.i - 1 < e.i; omega
theorem ExX.i_le (e : ExX x t) (ht : t ≤ 20) : e.i ≤ 20 := Nat.le_trans e.hi ht
theorem ExX.prod (e : ExX x t) (hx : x ≤ 200000) (ht : t ≤ 20) : e.h * x < 18446744073709551616 :=
  Nat.lt_of_le_of_lt (Nat.mul_le_mul e.hh hx) (bd_max e.i (by have := e.i_le ht; omega)).1
theorem ExX.h_lt (e : ExX x t) (ht : t ≤ 20) : e.h < 18446744073709551616 := by
  have := (bd_max e.i (by have := e.i_le ht; omega)).2.2
  have := e.hh
  omega
theorem ExX.i10 (e : ExX x t) (ht : t ≤ 20) : IntKind.u64.wrap ((e.i : Int) * 10000) = ((e.i * 10000 : Nat) : Int) := by
  have := e.i_le ht
  rw [show (e.i : Int) * 10000 = ((e.i * 10000 : Nat) : Int) by omega]
  exact u64_wrap_nat (by omega)
theorem ExX.nz (e : ExX x t) (ht : t ≤ 20) (hp : 1 ≤ e.i) : IntKind.u64.wrap ((e.i : Int) * 10000) ≠ 0 := by rw [e.i10 ht]; omega
theorem ExX.next_h (e : ExX x t) (hx : x ≤ 200000) (ht : t ≤ 20) (hp : 1 ≤ e.i) :
    Value.int .u64 (IntKind.u64.wrap (10000 + IntKind.u64.wrap ((IntKind.u64.wrap ((e.h : Int) * (x : Int))).tdiv (IntKind.u64.wrap ((e.i : Int) * 10000))))) = .int .u64 ((e.next hx ht hp).h : Int) := by
  have hv : (e.next hx ht hp).h ≤ bd (e.next hx ht hp).i := (e.next hx ht hp).hh
  have hb := (bd_max (e.next hx ht hp).i (by have := (e.next hx ht hp).i_le ht; omega)).2.2
  have hvv : e.val < 10000000000000 := Nat.lt_of_le_of_lt hv hb
  rw [e.i10 ht, show (e.h : Int) * (x : Int) = ((e.h * x : Nat) : Int) from rfl, u64_wrap_nat (e.prod hx ht)]
  rw [show ((e.h * x : Nat) : Int).tdiv ((e.i * 10000 : Nat) : Int) = ((e.h * x / (e.i * 10000) : Nat) : Int) from rfl]
  have hq : e.val = 10000 + e.h * x / (e.i * 10000) := rfl
  rw [u64_wrap_nat (by omega), show (10000 : Int) + ((e.h * x / (e.i * 10000) : Nat) : Int) = ((e.val : Nat) : Int) by rw [hq]; omega, u64_wrap_nat (by omega)]
  rfl
theorem ExX.next_i (e : ExX x t) (hx : x ≤ 200000) (ht : t ≤ 20) (hp : 1 ≤ e.i) : Value.int .u64 (IntKind.u64.wrap ((e.i : Int) - 1)) = .int .u64 ((e.next hx ht hp).i : Int) := by
  have := e.i_le ht
  rw [show (e.i : Int) - 1 = ((e.i - 1 : Nat) : Int) by omega, u64_wrap_nat (by omega)]
  rfl
theorem ExX.next_j (e : ExX x t) (hx : x ≤ 200000) (ht : t ≤ 20) (hp : 1 ≤ e.i) : Value.int .i64 (IntKind.i64.wrap ((e.i : Int) - 1)) = .int .i64 ((e.next hx ht hp).i : Int) := by
  have := e.i_le ht
  rw [show (e.i : Int) - 1 = ((e.i - 1 : Nat) : Int) by omega, wrap_nat (by omega)]
  rfl
theorem ExX.last (e : ExX x t) (h : e.i = 0) : e.h = expN x t := by
  have := e.he
  rw [h] at this
  exact this
theorem ExX.done (e : ExX x t) (h : e.i = 0) : Value.tuple #[.int .u64 (e.h : Int), .int .i64 0] = .tuple #[.int .u64 (expN x t : Int), .int .i64 0] := by rw [e.last h]
theorem ExX.doneL (e : ExX x t) (ht : t ≤ 20) (h : e.i = 0) : Value.tuple #[.int .u64 (limb e.h 0), .int .i64 0] = .tuple #[.int .u64 (expN x t : Int), .int .i64 0] := by rw [limb_self (e.h_lt ht), e.last h]
theorem u64_val {n : Nat} (h : n ≤ 20) : Value.int .u64 (IntKind.u64.wrap (n : Int)) = .int .u64 (n : Int) := by rw [u64_wrap_nat (by omega)]
/-- The same with a number of the reference. -/
structure ErX (x t : Nat) where
  e : ExX x t
  v : BigX e.h
end
theorem exp_lt {x t : Nat} (hx : x ≤ 200000) (ht : t ≤ 20) : expN x t < 10000000000000 := by
  have key : ∀ (i h : Nat), i ≤ 20 → h ≤ bd i → horn x i h < 10000000000000 := by
    intro i
    induction i with
    | zero => intro h _ hh; exact Nat.lt_of_le_of_lt hh (bd_max 0 (by omega)).2.2
    | succ i ih => intro h hi hh; exact ih _ (by omega) (bd_step hx hi hh)
  exact key t 10000 ht (bd_max t (by omega)).2.1
theorem expR_lt (x : Nat) (t : Int) : expR x t < 18446744073709551616 := by
  unfold expR
  split
  · next h => have := exp_lt h.1 (t := t.toNat) (by have := h.2.2; omega); omega
  · omega
theorem expR_ok {x t : Nat} (hx : x ≤ 200000) (h1 : 1 ≤ t) (ht : t ≤ 20) : expR x (t : Int) = expN x t ∧ expE x (t : Int) = 0 := by
  have hv : expV x (t : Int) := ⟨hx, by omega, by omega⟩
  exact ⟨if_pos hv, if_pos hv⟩
theorem expR_no {x : Nat} {t : Int} (h : ¬ expV x t) : expR x t = 0 ∧ expE x t = 2 := ⟨if_neg h, if_neg h⟩

/-! Shares. -/
def scN (n b : Nat) : Nat := n * b / 10000
def seR (n x : Nat) (t : Int) : Nat := if expV x t then chkR (scN n (expR x t)) else 0
def seE (n x : Nat) (t : Int) : Int := if expV x t then chkE (scN n (expR x t)) else 2
theorem seR_ok {n x : Nat} {t : Int} (h : expV x t) : Value.tuple #[U (chkR (scN n (expR x t))), .int .i64 (chkE (scN n (expR x t)))] = .tuple #[U (seR n x t), .int .i64 (seE n x t)] := by
  rw [show seR n x t = _ from if_pos h, show seE n x t = _ from if_pos h]
theorem seR_no {n x : Nat} {t : Int} (h : ¬ expV x t) : Value.tuple #[.agg #[.int .u64 0, .int .u64 0, .int .u64 0, .int .u64 0], .int .i64 (expE x t)] = .tuple #[U (seR n x t), .int .i64 (seE n x t)] := by
  rw [show seR n x t = _ from if_neg h, show seE n x t = _ from if_neg h, (expR_no h).2, U_zero]
theorem scN_le {n b : Nat} (h : b ≤ 10000) : scN n b ≤ n := by
  unfold scN
  have : n * b ≤ n * 10000 := Nat.mul_le_mul_left n h
  omega
theorem scN_lt {n b : Nat} (hn : n < B256) (h : b ≤ 10000) : scN n b < B256 := Nat.lt_of_le_of_lt (scN_le h) hn
theorem scN_all (n : Nat) : scN n 10000 = n := by unfold scN; omega
theorem scN_mono (n : Nat) {b c : Nat} (h : b ≤ c) : scN n b ≤ scN n c := Nat.div_le_div_right (Nat.mul_le_mul_left n h)
theorem scN_add (n b c : Nat) : scN n b + scN n c ≤ scN n (b + c) ∧ scN n (b + c) ≤ scN n b + scN n c + 1 := by
  unfold scN
  rw [Nat.mul_add]
  omega
theorem chk_lt {k : Nat} (h : k < B256) : chkR k = k ∧ chkE k = 0 := ⟨if_pos h, if_pos h⟩
end Go.Proofs.Ytlaapbenpjopiaa

