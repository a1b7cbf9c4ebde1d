/- Package ledger over this translation: what each call returns, and what it makes of the accounts, the vaults and the supply. No conditions. -/
import Derived.Test.YtkibbcomfjhgpaaDoorK1t
import Derived.Test.YtkibbcomfjhgpaaDoorSxr
import Derived.Test.YtkibbcomfjhgpaaDoorSxl
namespace Go.Proofs.YtkibbcomfjhgpaaDoor
open Go.RowKit Sx
set_option maxRecDepth 100000

theorem cmp0 (a : Int) : (a != 0) = !(a == 0) := rfl
structure LOk (L : Led) : Prop where
  asc : Asc L.acc
  full : ∀ x ∈ L.acc, ¬ x.emp
  ok : ∀ x ∈ L.acc, x.a ≠ 0 ∧ x.a < 18446744073709551616 ∧ x.b < B256 ∧ x.n < 18446744073709551616
  v : ∀ k, L.v k < B256
  sum : L.s = totA L.acc + (L.v 0 + L.v 1 + L.v 2 + L.v 3)
  s : L.s < B256
theorem LOk.b {L : Led} (h : LOk L) (a : Nat) : (getA L.acc a).b < B256 := by
  rcases getA_in (l := L.acc) (a := a) with h1 | ⟨h1, _⟩
  · exact (h.ok _ h1).2.2.1
  · rw [h1]; exact B256_pos
theorem LOk.n {L : Led} (h : LOk L) (a : Nat) : (getA L.acc a).n < 18446744073709551616 := by
  rcases getA_in (l := L.acc) (a := a) with h1 | ⟨h1, _⟩
  · exact (h.ok _ h1).2.2.2
  · rw [h1]; exact Nat.zero_lt_succ _
theorem LOk.bs {L : Led} (h : LOk L) (a : Nat) : (getA L.acc a).b ≤ L.s := by have := get_le_tot L.acc a; have := h.sum; omega
theorem LOk.vs {L : Led} (h : LOk L) {k : Nat} (hk : k < 4) : L.v k ≤ L.s := by
  have := h.sum
  rcases (by omega : k = 0 ∨ k = 1 ∨ k = 2 ∨ k = 3) with rfl | rfl | rfl | rfl <;> omega
theorem LOk.bv {L : Led} (h : LOk L) (a : Nat) {k : Nat} (hk : k < 4) : (getA L.acc a).b + L.v k ≤ L.s := by
  have := h.sum
  have := get_le_tot L.acc a
  rcases (by omega : k = 0 ∨ k = 1 ∨ k = 2 ∨ k = 3) with rfl | rfl | rfl | rfl <;> omega
theorem ok_0 : LOk led0 := ⟨List.Pairwise.nil, fun _ h => (by cases h), fun _ h => (by cases h), fun _ => B256_pos, rfl, B256_pos⟩
theorem updV_sum (v : Nat → Nat) {k : Nat} (hk : k < 4) (x : Nat) : (updV v k x 0 + updV v k x 1 + updV v k x 2 + updV v k x 3) + v k = (v 0 + v 1 + v 2 + v 3) + x := by
  rcases (by omega : k = 0 ∨ k = 1 ∨ k = 2 ∨ k = 3) with rfl | rfl | rfl | rfl <;> simp [updV] <;> omega
/-- An account is written, and what it holds more or less goes to the supply or to a vault. -/
theorem ok_put {L : Led} (h : LOk L) {x : Ac} {v : Nat → Nat} {s : Nat} (h0 : x.a ≠ 0) (h1 : x.a < 18446744073709551616) (h2 : x.b < B256) (h3 : x.n < 18446744073709551616) (hv : ∀ k, v k < B256)
    (hs : s + (getA L.acc x.a).b + (L.v 0 + L.v 1 + L.v 2 + L.v 3) = L.s + x.b + (v 0 + v 1 + v 2 + v 3)) (hb : s < B256) : LOk ⟨putA L.acc x, v, s⟩ := by
  refine ⟨asc_put h.asc x, fun y hy => ?_, fun y hy => ?_, hv, ?_, hb⟩
  · rcases mem_putA hy with ⟨rfl, e⟩ | ⟨e, _⟩
    · exact e
    · exact h.full y e
  · rcases mem_putA hy with ⟨rfl, e⟩ | ⟨e, _⟩
    · exact ⟨h0, h1, h2, h3⟩
    · exact h.ok y e
  · have h4 := tot_put (asc_once h.asc) x
    have h5 := h.sum
    show s = totA (putA L.acc x) + (v 0 + v 1 + v 2 + v 3)
    omega
/-- The account with n more, with n less. -/
abbrev crA (l : List Ac) (a n : Nat) : Ac := ⟨a, (getA l a).b + n, (getA l a).n⟩
abbrev dbA (l : List Ac) (a n : Nat) : Ac := ⟨a, (getA l a).b - n, (getA l a).n⟩
/-- Whether v is a vault. -/
def isv (v : Int) : Bool := decide (1 ≤ v) && decide (v ≤ 4)
def vix (v : Int) : Nat := (v - 1).toNat
theorem isv_ix {v : Int} (h : isv v = true) : v = (vix v : Int) + 1 ∧ vix v < 4 := by
  unfold isv at h
  simp only [Bool.and_eq_true, decide_eq_true_eq] at h
  unfold vix; omega
def mint (L : Led) (a n : Nat) : Int × Led := if a = 0 then (2, L) else if B256 ≤ L.s + n then (4, L) else (0, ⟨putA L.acc (crA L.acc a n), L.v, L.s + n⟩)
def trans (L : Led) (a b n : Nat) : Int × Led := if a = 0 ∨ b = 0 then (2, L) else if (getA L.acc a).b < n then (10, L) else (0, ⟨putA (putA L.acc (dbA L.acc a n)) (crA (putA L.acc (dbA L.acc a n)) b n), L.v, L.s⟩)
def payv (L : Led) (a : Nat) (v : Int) (n : Nat) : Int × Led := if a = 0 ∨ isv v = false then (2, L) else if (getA L.acc a).b < n then (10, L) else (0, ⟨putA L.acc (dbA L.acc a n), updV L.v (vix v) (L.v (vix v) + n), L.s⟩)
def withd (L : Led) (a n : Nat) : Int × Led := if a = 0 then (2, L) else if (getA L.acc a).b < n then (10, L) else (0, ⟨putA L.acc (dbA L.acc a n), L.v, L.s - n⟩)
def withv (L : Led) (v : Int) (n : Nat) : Int × Led := if isv v = false then (2, L) else if L.v (vix v) < n then (10, L) else (0, ⟨L.acc, updV L.v (vix v) (L.v (vix v) - n), L.s - n⟩)
def incn (L : Led) (a : Nat) : Int × Led := if a = 0 then (2, L) else if (getA L.acc a).n = 18446744073709551615 then (4, L) else (0, ⟨putA L.acc ⟨a, (getA L.acc a).b, (getA L.acc a).n + 1⟩, L.v, L.s⟩)
theorem mint_0 {L : Led} {a n : Nat} (h : a = 0) : mint L a n = (2, L) := by unfold mint; rw [if_pos h]
theorem mint_1 {L : Led} {a n : Nat} (h : ¬ a = 0) (h2 : ¬ L.s + n < B256) : mint L a n = (4, L) := by unfold mint; rw [if_neg h, if_pos (by omega)]
theorem mint_2 {L : Led} {a n : Nat} (h : ¬ a = 0) (h2 : L.s + n < B256) : mint L a n = (0, ⟨putA L.acc (crA L.acc a n), L.v, L.s + n⟩) := by unfold mint; rw [if_neg h, if_neg (by omega)]
theorem trans_0 {L : Led} {a b n : Nat} (h : a = 0 ∨ b = 0) : trans L a b n = (2, L) := by unfold trans; rw [if_pos h]
theorem trans_1 {L : Led} {a b n : Nat} (h : ¬ (a = 0 ∨ b = 0)) (h2 : ¬ n ≤ (getA L.acc a).b) : trans L a b n = (10, L) := by unfold trans; rw [if_neg h, if_pos (by omega)]
theorem trans_2 {L : Led} {a b n : Nat} (h : ¬ (a = 0 ∨ b = 0)) (h2 : n ≤ (getA L.acc a).b) : trans L a b n = (0, ⟨putA (putA L.acc (dbA L.acc a n)) (crA (putA L.acc (dbA L.acc a n)) b n), L.v, L.s⟩) := by unfold trans; rw [if_neg h, if_neg (by omega)]
theorem payv_0 {L : Led} {a : Nat} {v : Int} {n : Nat} (h : a = 0 ∨ isv v = false) : payv L a v n = (2, L) := by unfold payv; rw [if_pos h]
theorem payv_1 {L : Led} {a : Nat} {v : Int} {n : Nat} (h : ¬ (a = 0 ∨ isv v = false)) (h2 : ¬ n ≤ (getA L.acc a).b) : payv L a v n = (10, L) := by unfold payv; rw [if_neg h, if_pos (by omega)]
theorem payv_2 {L : Led} {a : Nat} {v : Int} {n : Nat} (h : ¬ (a = 0 ∨ isv v = false)) (h2 : n ≤ (getA L.acc a).b) : payv L a v n = (0, ⟨putA L.acc (dbA L.acc a n), updV L.v (vix v) (L.v (vix v) + n), L.s⟩) := by unfold payv; rw [if_neg h, if_neg (by omega)]
theorem withd_0 {L : Led} {a n : Nat} (h : a = 0) : withd L a n = (2, L) := by unfold withd; rw [if_pos h]
theorem withd_1 {L : Led} {a n : Nat} (h : ¬ a = 0) (h2 : ¬ n ≤ (getA L.acc a).b) : withd L a n = (10, L) := by unfold withd; rw [if_neg h, if_pos (by omega)]
theorem withd_2 {L : Led} {a n : Nat} (h : ¬ a = 0) (h2 : n ≤ (getA L.acc a).b) : withd L a n = (0, ⟨putA L.acc (dbA L.acc a n), L.v, L.s - n⟩) := by unfold withd; rw [if_neg h, if_neg (by omega)]
theorem withv_0 {L : Led} {v : Int} {n : Nat} (h : isv v = false) : withv L v n = (2, L) := by unfold withv; rw [if_pos h]
theorem withv_1 {L : Led} {v : Int} {n : Nat} (h : isv v = true) (h2 : ¬ n ≤ L.v (vix v)) : withv L v n = (10, L) := by unfold withv; rw [if_neg (by rw [h]; decide), if_pos (by omega)]
theorem withv_2 {L : Led} {v : Int} {n : Nat} (h : isv v = true) (h2 : n ≤ L.v (vix v)) : withv L v n = (0, ⟨L.acc, updV L.v (vix v) (L.v (vix v) - n), L.s - n⟩) := by unfold withv; rw [if_neg (by rw [h]; decide), if_neg (by omega)]
theorem incn_0 {L : Led} {a : Nat} (h : a = 0) : incn L a = (2, L) := by unfold incn; rw [if_pos h]
theorem incn_1 {L : Led} {a : Nat} (h : ¬ a = 0) (h2 : (getA L.acc a).n = 18446744073709551615) : incn L a = (4, L) := by unfold incn; rw [if_neg h, if_pos h2]
theorem incn_2 {L : Led} {a : Nat} (h : ¬ a = 0) (h2 : ¬ (getA L.acc a).n = 18446744073709551615) : incn L a = (0, ⟨putA L.acc ⟨a, (getA L.acc a).b, (getA L.acc a).n + 1⟩, L.v, L.s⟩) := by unfold incn; rw [if_neg h, if_neg h2]
theorem ok_mint {L : Led} (h : LOk L) {a : Nat} (ha : a < 18446744073709551616) (n : Nat) : LOk (mint L a n).2 := by
  by_cases h1 : a = 0
  · rw [mint_0 h1]; exact h
  · by_cases h2 : L.s + n < B256
    · rw [mint_2 h1 h2]
      have := h.bs a
      exact ok_put h h1 ha (by show _ + n < _; omega) (h.n a) h.v (by show L.s + n + (getA L.acc a).b + _ = L.s + ((getA L.acc a).b + n) + _; omega) h2
    · rw [mint_1 h1 h2]; exact h
theorem ok_deb {L : Led} (h : LOk L) {a : Nat} (ha : a < 18446744073709551616) (h1 : ¬ a = 0) {n : Nat} (hn : n ≤ (getA L.acc a).b) {v : Nat → Nat} {s : Nat} (hv : ∀ k, v k < B256)
    (hs : s + n + (L.v 0 + L.v 1 + L.v 2 + L.v 3) = L.s + (v 0 + v 1 + v 2 + v 3)) (hb : s < B256) : LOk ⟨putA L.acc (dbA L.acc a n), v, s⟩ := by
  have := h.b a
  exact ok_put h h1 ha (by show _ - n < _; omega) (h.n a) hv (by show s + (getA L.acc a).b + _ = L.s + ((getA L.acc a).b - n) + _; omega) hb
/-- The state while an amount is between two accounts: the supply is n more than all accounts and vaults. -/
theorem ok_mid {L : Led} (h : LOk L) {a : Nat} (ha : a < 18446744073709551616) (h1 : ¬ a = 0) {n : Nat} (hn : n ≤ (getA L.acc a).b) : LOk ⟨putA L.acc (dbA L.acc a n), L.v, L.s - n⟩ :=
  ok_deb h ha h1 hn h.v (by have := h.bs a; omega) (by have := h.s; omega)
theorem ok_trans {L : Led} (h : LOk L) {a b : Nat} (ha : a < 18446744073709551616) (hb : b < 18446744073709551616) (n : Nat) : LOk (trans L a b n).2 := by
  by_cases h1 : a = 0 ∨ b = 0
  · rw [trans_0 h1]; exact h
  · by_cases h2 : n ≤ (getA L.acc a).b
    · rw [trans_2 h1 h2]
      have hm := ok_mid h ha (fun e => h1 (.inl e)) h2
      have h3 := hm.bs b
      have h4 := h.bs a
      have h5 := h.s
      simp only at h3
      exact ok_put hm (fun e => h1 (.inr e)) hb (by show _ + n < _; omega) (hm.n b) h.v (by show L.s + (getA (putA L.acc (dbA L.acc a n)) b).b + (L.v 0 + L.v 1 + L.v 2 + L.v 3) = L.s - n + ((getA (putA L.acc (dbA L.acc a n)) b).b + n) + (L.v 0 + L.v 1 + L.v 2 + L.v 3); omega) h.s
    · rw [trans_1 h1 h2]; exact h
theorem updV_lt {v : Nat → Nat} (h : ∀ k, v k < B256) (k : Nat) {x : Nat} (hx : x < B256) : ∀ j, updV v k x j < B256 := by
  intro j; unfold updV; split
  · exact hx
  · exact h j
theorem ok_payv {L : Led} (h : LOk L) {a : Nat} {v : Int} (ha : a < 18446744073709551616) (n : Nat) : LOk (payv L a v n).2 := by
  by_cases h1 : a = 0 ∨ isv v = false
  · rw [payv_0 h1]; exact h
  · by_cases h2 : n ≤ (getA L.acc a).b
    · rw [payv_2 h1 h2]
      have hv : isv v = true := by cases e : isv v with
        | true => rfl
        | false => exact absurd (.inr e) h1
      have hk := (isv_ix hv).2
      have h3 := h.bv a hk
      have h4 := updV_sum L.v hk (L.v (vix v) + n)
      have h5 := h.s
      exact ok_deb h ha (fun e => h1 (.inl e)) h2 (updV_lt h.v _ (by omega)) (by omega) h.s
    · rw [payv_1 h1 h2]; exact h
theorem ok_withd {L : Led} (h : LOk L) {a : Nat} (ha : a < 18446744073709551616) (n : Nat) : LOk (withd L a n).2 := by
  by_cases h1 : a = 0
  · rw [withd_0 h1]; exact h
  · by_cases h2 : n ≤ (getA L.acc a).b
    · rw [withd_2 h1 h2]; exact ok_mid h ha h1 h2
    · rw [withd_1 h1 h2]; exact h
theorem ok_withv {L : Led} (h : LOk L) (v : Int) (n : Nat) : LOk (withv L v n).2 := by
  by_cases h1 : isv v = true
  · by_cases h2 : n ≤ L.v (vix v)
    · rw [withv_2 h1 h2]
      have hk := (isv_ix h1).2
      have h4 := updV_sum L.v hk (L.v (vix v) - n)
      have h5 := h.sum
      have h6 := h.vs hk
      refine ⟨h.asc, h.full, h.ok, updV_lt h.v _ (by have := h.v (vix v); omega), ?_, by have := h.s; show L.s - n < _; omega⟩
      show L.s - n = totA L.acc + (updV L.v (vix v) (L.v (vix v) - n) 0 + updV L.v (vix v) (L.v (vix v) - n) 1 + updV L.v (vix v) (L.v (vix v) - n) 2 + updV L.v (vix v) (L.v (vix v) - n) 3)
      omega
    · rw [withv_1 h1 h2]; exact h
  · rw [withv_0 (by simpa using h1)]; exact h
theorem ok_incn {L : Led} (h : LOk L) {a : Nat} (ha : a < 18446744073709551616) : LOk (incn L a).2 := by
  by_cases h1 : a = 0
  · rw [incn_0 h1]; exact h
  · by_cases h2 : (getA L.acc a).n = 18446744073709551615
    · rw [incn_1 h1 h2]; exact h
    · rw [incn_2 h1 h2]
      have := h.n a
      exact ok_put h h1 ha (h.b a) (by show (getA L.acc a).n + 1 < _; omega) h.v (by show L.s + (getA L.acc a).b + _ = L.s + (getA L.acc a).b + _; omega) h.s

/-! Small contracts. -/
theorem d_add_k {a b : Nat} (ha : a < B256) (hb : b < B256) (h : a + b < B256) : Det Tryd.prog 51 [U a, U b] (.tuple #[U (a + b), .int .i64 0]) := by
  have := d_add a b ha hb
  unfold addR addE at this
  rwa [if_pos h, if_pos h] at this
theorem d_add_o {a b : Nat} (ha : a < B256) (hb : b < B256) (h : ¬ a + b < B256) : Det Tryd.prog 51 [U a, U b] (.tuple #[U 0, .int .i64 4]) := by
  have := d_add a b ha hb
  unfold addR addE at this
  rwa [if_neg h, if_neg h] at this
theorem d_sub_any (a b : Nat) (ha : a < B256) (hb : b < B256) : Det Tryd.prog 58 [U a, U b] (.tuple #[U (subR a b), .int .i64 (subE a b)]) := .of_calls ⟨_, Tryd.func58, by kernel_rfl, rfl⟩ fun w => sub_any a b ha hb w
theorem d_sub_k {a b : Nat} (ha : a < B256) (hb : b < B256) (h : b ≤ a) : Det Tryd.prog 58 [U a, U b] (.tuple #[U (a - b), .int .i64 0]) := by
  have := d_sub_any a b ha hb
  unfold subR subE at this
  rwa [if_pos h, if_pos h] at this
theorem d_sub_o {a b : Nat} (ha : a < B256) (hb : b < B256) (h : ¬ b ≤ a) : Det Tryd.prog 58 [U a, U b] (.tuple #[U 0, .int .i64 4]) := by
  have := d_sub_any a b ha hb
  unfold subR subE at this
  rwa [if_neg h, if_neg h] at this
theorem dl_sata {a b : Nat} (ha : a < B256) (hb : b < B256) (h : a + b < B256) : DetL 55 [U a, U b] (U (a + b)) := by
  have := dl_satadd a b ha hb
  unfold satA at this
  rwa [if_pos h] at this
theorem d_sats {a b : Nat} (ha : a < B256) (hb : b < B256) (h : b ≤ a) : Det Tryd.prog 57 [U a, U b] (U (a - b)) := by
  have := d_satsub a b ha hb
  unfold subR at this
  rwa [if_pos h] at this
theorem acc_fin (acc : List Ac) (a : Nat) : Value.agg #[.int .u64 a, .int .u64 (limb (lkA acc a).b 0), .int .u64 (limb (lkA acc a).b 1), .int .u64 (limb (lkA acc a).b 2), .int .u64 (limb (lkA acc a).b 3), .int .u64 (lkA acc a).n] = AV ⟨a, (getA acc a).b, (getA acc a).n⟩ := by
  rw [lkA_b, lkA_n]
theorem emp_t {x : Ac} (h : x.b = 0) : Value.bool ((x.n : Int) == 0) = .bool (decide x.emp) := by
  congr 1
  unfold Ac.emp
  by_cases e : x.n = 0
  · simp [h, e]
  · simp [h, e]
theorem emp_f {x : Ac} (h : ¬ x.b = 0) : Value.bool false = .bool (decide x.emp) := by
  congr 1
  unfold Ac.emp
  simp [h]
theorem isv_f {v : Int} (h : decide (v ≥ 1) = false) : Value.bool false = .bool (isv v) := by
  congr 1
  unfold isv
  have h : decide (1 ≤ v) = false := h
  rw [h]; rfl
theorem isv_t {v : Int} (h : decide (v ≥ 1) = true) : Value.bool (decide (v ≤ 4)) = .bool (isv v) := by
  congr 1
  unfold isv
  have h : decide (1 ≤ v) = true := h
  rw [h]; rfl
theorem vi_fin {v : Int} {k : Nat} (e : v = (k : Int) + 1) (hk : k < 4) : Value.int .i64 (IntKind.i64.wrap (v - 1)) = .int .i64 (k : Int) := by
  rw [e, show ((k : Int) + 1 - 1) = ((k : Nat) : Int) by omega, wrap_nat (by omega)]
section
variable {ρ : Operand → Value} {dst : Option Tmp} {type : TypeId} {pos : String} {after : Array Edge} {guard : Option (Nat × Bool)} {p : Nat} {L : Led} {A F : Facts} {X Y : Operand}
theorem kl_lds (h : led p L F) (hx : ρ X = .pointer (some ⟨p, 17, none⟩) := by rfl) : ReadsOp Tryd.prog (execOp ρ ⟨dst, .load 31 X, type, pos, after, guard⟩) A F Unit (fun _ => U L.s) (fun _ => []) := by
  obtain ⟨q, h⟩ := h; exact kt_lds h hx
theorem kl_ldv (h : led p L F) {k : Nat} (hk : k < 4) (hx : ρ X = .pointer (some ⟨p, 1 + k * 4, none⟩) := by rfl) : ReadsOp Tryd.prog (execOp ρ ⟨dst, .load 31 X, type, pos, after, guard⟩) A F Unit (fun _ => U (L.v k)) (fun _ => []) := by
  obtain ⟨q, h⟩ := h; exact kt_ldv h hk hx
theorem kl_ldvs (h : led p L F) (hx : ρ X = .pointer (some ⟨p, 1, none⟩) := by rfl) : ReadsOp Tryd.prog (execOp ρ ⟨dst, .load 41 X, type, pos, after, guard⟩) A F Unit (fun _ => VV4 L.v) (fun _ => []) := by
  obtain ⟨q, h⟩ := h; exact kt_ldvs h hx
theorem kl_sts (x : Nat) (hx : ρ X = .pointer (some ⟨p, 17, none⟩) := by rfl) (hy : ρ Y = U x := by rfl) :
    GivesT Tryd.prog (execOp ρ ⟨dst, .store 31 X Y, type, pos, after, guard⟩) A (led p L) Unit (fun _ => undef) (fun _ => []) (fun _ => led p ⟨L.acc, L.v, x⟩) := by
  intro w F ⟨q, hT⟩
  exact gT_mono (kt_sts x hx hy) (fun _ _ h => ⟨q, h⟩) w F hT
theorem kl_stv {k : Nat} (hk : k < 4) (x : Nat) (hx : ρ X = .pointer (some ⟨p, 1 + k * 4, none⟩) := by rfl) (hy : ρ Y = U x := by rfl) :
    GivesT Tryd.prog (execOp ρ ⟨dst, .store 31 X Y, type, pos, after, guard⟩) A (led p L) Unit (fun _ => undef) (fun _ => []) (fun _ => led p ⟨L.acc, updV L.v k x, L.s⟩) := by
  intro w F ⟨q, hT⟩
  exact gT_mono (kt_stv hk x hx hy) (fun _ _ h => ⟨q, h⟩) w F hT
end

theorem good_ledger_New : Good Tryd.prog 6 Tryd.f6 0 := ⟨Tryd.func6, by kernel_rfl, by kernel_rfl⟩
theorem good_ledger_isAddress : Good Tryd.prog 50 Tryd.f50 1 := ⟨Tryd.func50, by kernel_rfl, by kernel_rfl⟩
theorem good_ledger_isVault : Good Tryd.prog 54 Tryd.f54 1 := ⟨Tryd.func54, by kernel_rfl, by kernel_rfl⟩
theorem good_ledger_vaultIndex : Good Tryd.prog 56 Tryd.f56 1 := ⟨Tryd.func56, by kernel_rfl, by kernel_rfl⟩
theorem good_ledger_isEmpty : Good Tryd.prog 65 Tryd.f65 1 := ⟨Tryd.func65, by kernel_rfl, by kernel_rfl⟩
theorem good_ledger_Ledger_Balance : Good Tryd.prog 25 Tryd.f25 2 := ⟨Tryd.func25, by kernel_rfl, by kernel_rfl⟩
theorem good_ledger_Ledger_Nonce : Good Tryd.prog 38 Tryd.f38 2 := ⟨Tryd.func38, by kernel_rfl, by kernel_rfl⟩
theorem good_ledger_Ledger_Vault : Good Tryd.prog 26 Tryd.f26 2 := ⟨Tryd.func26, by kernel_rfl, by kernel_rfl⟩
theorem good_ledger_Ledger_Supply : Good Tryd.prog 18 Tryd.f18 1 := ⟨Tryd.func18, by kernel_rfl, by kernel_rfl⟩
theorem good_ledger_Ledger_Vaults : Good Tryd.prog 17 Tryd.f17 1 := ⟨Tryd.func17, by kernel_rfl, by kernel_rfl⟩
theorem good_ledger_Ledger_Mint : Good Tryd.prog 22 Tryd.f22 3 := ⟨Tryd.func22, by kernel_rfl, by kernel_rfl⟩
theorem good_ledger_Ledger_Transfer : Good Tryd.prog 23 Tryd.f23 4 := ⟨Tryd.func23, by kernel_rfl, by kernel_rfl⟩
theorem good_ledger_Ledger_PayVault : Good Tryd.prog 24 Tryd.f24 4 := ⟨Tryd.func24, by kernel_rfl, by kernel_rfl⟩
theorem good_ledger_Ledger_Withdraw : Good Tryd.prog 27 Tryd.f27 3 := ⟨Tryd.func27, by kernel_rfl, by kernel_rfl⟩
theorem good_ledger_Ledger_WithdrawVault : Good Tryd.prog 28 Tryd.f28 3 := ⟨Tryd.func28, by kernel_rfl, by kernel_rfl⟩
theorem good_ledger_Ledger_IncrementNonce : Good Tryd.prog 29 Tryd.f29 2 := ⟨Tryd.func29, by kernel_rfl, by kernel_rfl⟩
theorem good_ledger_Ledger_account : Good Tryd.prog 59 Tryd.f59 2 := ⟨Tryd.func59, by kernel_rfl, by kernel_rfl⟩
theorem good_ledger_Ledger_store : Good Tryd.prog 41 Tryd.f41 2 := ⟨Tryd.func41, by kernel_rfl, by kernel_rfl⟩
theorem good_ledger_Ledger_credit : Good Tryd.prog 52 Tryd.f52 3 := ⟨Tryd.func52, by kernel_rfl, by kernel_rfl⟩
theorem good_ledger_Ledger_debit : Good Tryd.prog 53 Tryd.f53 3 := ⟨Tryd.func53, by kernel_rfl, by kernel_rfl⟩
theorem k_addr (a : Nat) : Det Tryd.prog 50 [.int .u64 (a : Int)] (.bool ((a : Int) != 0)) :=
  det_of_vc Tryd.mixed good_ledger_isAddress (O := []) fun _ => ⟨(), rfl, nofun⟩
theorem k_isv (v : Int) : Det Tryd.prog 54 [.int .i64 v] (.bool (isv v)) :=
  det_of_vc Tryd.mixed good_ledger_isVault (O := [.alt [(decide (v ≥ 1) = true, [(3, .yes), (4, .yes), (5, .yes)], []), (True, [(3, .no), (4, .no), (5, .no)], [])]]) fun _ => ⟨fun h => ⟨gtt h, ⟨gtt h, ⟨h, ⟨(), isv_t h, nofun⟩⟩⟩⟩, fun h => ⟨fun _ => ⟨gtf (Bool.eq_false_iff.2 h), ⟨gtf (Bool.eq_false_iff.2 h), ⟨(Bool.eq_false_iff.2 h), ⟨(), isv_f (Bool.eq_false_iff.2 h), nofun⟩⟩⟩⟩, fun h => (h trivial).elim⟩⟩
theorem k_vi {v : Int} (k : Nat) (e : v = (k : Int) + 1) (hk : k < 4) : Det Tryd.prog 56 [.int .i64 v] (.int .i64 (k : Int)) :=
  det_of_vc Tryd.mixed good_ledger_vaultIndex (O := []) fun _ => ⟨(), vi_fin e hk, nofun⟩
theorem k_emp (x : Ac) (hb : x.b < B256) : Det Tryd.prog 65 [AV x] (.bool (decide x.emp)) :=
  det_of_vc Tryd.mixed good_ledger_isEmpty (O := [.alt [(x.b = 0, [(5, .yes), (6, .yes), (7, .yes), (8, .yes)], []), (True, [(5, .no), (6, .no), (7, .no), (8, .no)], [])]]) fun _ => ⟨fun h => ⟨eqT_api_Uint256 rfl rfl, ⟨gtt (isz_t h), ⟨gtt (isz_t h), ⟨gtt (isz_t h), ⟨(isz_t h), ⟨(), emp_t h, nofun⟩⟩⟩⟩⟩⟩, fun h => ⟨fun _ => ⟨eqT_api_Uint256 rfl rfl, ⟨gtf (isz_f hb h), ⟨gtf (isz_f hb h), ⟨gtf (isz_f hb h), ⟨(isz_f hb h), ⟨(), emp_f h, nofun⟩⟩⟩⟩⟩⟩, fun h => (h trivial).elim⟩⟩
theorem k_new (A : Facts) : CallT Tryd.prog 6 [] A (fun G => G = []) (Nat) (fun m => .pointer (some ⟨m, 0, none⟩)) (fun _ => []) (fun m => led m led0) :=
  givesT_of_vcF Tryd.mixed good_ledger_New (args := []) (B := A) (O := [.pubt 1000000 2 0 (fun _ => [])]) (.app ((.refl _)) (.nil _)) (fun p => ⟨p, rfl, nofun, fun _ g => ⟨none, [], ⟨rfl, rfl⟩, nofun, g⟩, trivial⟩)
theorem kq_bal (p : Nat) (q : Option Nat) (L : Led) (F : Facts) (hT : ledQ p q L F) (a : Nat) (A : Facts) : CallR Tryd.prog 25 [.pointer (some ⟨p, 0, none⟩), .int .u64 (a : Int)] A (F) (Unit) (fun _ => U (getA L.acc a).b) (fun _ => []) :=
  reads_of_vcF Tryd.mixed good_ledger_Ledger_Balance (args := [(.pointer (some ⟨p, 0, none⟩), []), (.int .u64 (a : Int), [])]) (B := A) (F := F) (O := [.no, .opt 3 [(3, .rdT 0 Unit () (fun _ => .map q) (fun _ => [])), (5, .rdT 0 Unit () (fun _ => AV (lkA L.acc a)) (fun _ => []))]]) (.app ((.refl _)) (.app (.nil _) (.app (.nil _) (.nil _)))) (⟨rfl, ⟨fun _ g => by subst g; exact kt_ldm hT, fun _ => ⟨fun _ g => by subst g; exact kt_lk hT a, fun _ => ⟨(), congrArg U (lkA_b L.acc a), nofun, fun _ g => g, trivial⟩⟩⟩⟩)
theorem kq_nonce (p : Nat) (q : Option Nat) (L : Led) (F : Facts) (hT : ledQ p q L F) (a : Nat) (A : Facts) : CallR Tryd.prog 38 [.pointer (some ⟨p, 0, none⟩), .int .u64 (a : Int)] A (F) (Unit) (fun _ => .int .u64 (((getA L.acc a).n : Nat) : Int)) (fun _ => []) :=
  reads_of_vcF Tryd.mixed good_ledger_Ledger_Nonce (args := [(.pointer (some ⟨p, 0, none⟩), []), (.int .u64 (a : Int), [])]) (B := A) (F := F) (O := [.no, .opt 3 [(3, .rdT 0 Unit () (fun _ => .map q) (fun _ => [])), (5, .rdT 0 Unit () (fun _ => AV (lkA L.acc a)) (fun _ => []))]]) (.app ((.refl _)) (.app (.nil _) (.app (.nil _) (.nil _)))) (⟨rfl, ⟨fun _ g => by subst g; exact kt_ldm hT, fun _ => ⟨fun _ g => by subst g; exact kt_lk hT a, fun _ => ⟨(), congrArg (fun n : Nat => Value.int .u64 (n : Int)) (lkA_n L.acc a), nofun, fun _ g => g, trivial⟩⟩⟩⟩)
theorem kq_account (p : Nat) (q : Option Nat) (L : Led) (F : Facts) (hT : ledQ p q L F) (a : Nat) (A : Facts) : CallR Tryd.prog 59 [.pointer (some ⟨p, 0, none⟩), .int .u64 (a : Int)] A (F) (Unit) (fun _ => AV ⟨a, (getA L.acc a).b, (getA L.acc a).n⟩) (fun _ => []) :=
  reads_of_vcF Tryd.mixed good_ledger_Ledger_account (args := [(.pointer (some ⟨p, 0, none⟩), []), (.int .u64 (a : Int), [])]) (B := A) (F := F) (O := [.opt 1 [(3, .rdT 0 Unit () (fun _ => .map q) (fun _ => [])), (5, .rdT 0 Unit () (fun _ => AV (lkA L.acc a)) (fun _ => []))]]) (.app ((.refl _)) (.app (.nil _) (.app (.nil _) (.nil _)))) (⟨fun _ g => by subst g; exact kt_ldm hT, fun _ => ⟨fun _ g => by subst g; exact kt_lk hT a, fun _ => ⟨(), acc_fin _ _, nofun, fun _ g => g, trivial⟩⟩⟩)
theorem k_bal {p : Nat} {L : Led} {F : Facts} (hT : led p L F) (a : Nat) (A : Facts) : CallR Tryd.prog 25 [.pointer (some ⟨p, 0, none⟩), .int .u64 (a : Int)] A F Unit (fun _ => U (getA L.acc a).b) (fun _ => []) := by
  obtain ⟨q, hT⟩ := hT
  exact kq_bal p q L F hT a A
theorem k_nonce {p : Nat} {L : Led} {F : Facts} (hT : led p L F) (a : Nat) (A : Facts) : CallR Tryd.prog 38 [.pointer (some ⟨p, 0, none⟩), .int .u64 (a : Int)] A F Unit (fun _ => .int .u64 (((getA L.acc a).n : Nat) : Int)) (fun _ => []) := by
  obtain ⟨q, hT⟩ := hT
  exact kq_nonce p q L F hT a A
theorem k_account {p : Nat} {L : Led} {F : Facts} (hT : led p L F) (a : Nat) (A : Facts) : CallR Tryd.prog 59 [.pointer (some ⟨p, 0, none⟩), .int .u64 (a : Int)] A F Unit (fun _ => AV ⟨a, (getA L.acc a).b, (getA L.acc a).n⟩) (fun _ => []) := by
  obtain ⟨q, hT⟩ := hT
  exact kq_account p q L F hT a A
theorem k_supply0 (p : Nat) (L : Led) (F : Facts) (hT : led p L F)  (A : Facts) : CallR Tryd.prog 18 [.pointer (some ⟨p, 0, none⟩)] A (F) (Unit) (fun _ => U L.s) (fun _ => []) :=
  reads_of_vcF Tryd.mixed good_ledger_Ledger_Supply (args := [(.pointer (some ⟨p, 0, none⟩), [])]) (B := A) (F := F) (O := [.no, .opt 3 [(3, .rdT 0 Unit () (fun _ => U L.s) (fun _ => []))]]) (.app ((.refl _)) (.app (.nil _) (.nil _))) (⟨rfl, ⟨fun _ g => by subst g; exact kl_lds hT, fun _ => ⟨(), rfl, nofun, fun _ g => g, trivial⟩⟩⟩)
theorem k_vaults0 (p : Nat) (L : Led) (F : Facts) (hT : led p L F)  (A : Facts) : CallR Tryd.prog 17 [.pointer (some ⟨p, 0, none⟩)] A (F) (Unit) (fun _ => VV4 L.v) (fun _ => []) :=
  reads_of_vcF Tryd.mixed good_ledger_Ledger_Vaults (args := [(.pointer (some ⟨p, 0, none⟩), [])]) (B := A) (F := F) (O := [.no, .opt 3 [(3, .rdT 0 Unit () (fun _ => VV4 L.v) (fun _ => []))]]) (.app ((.refl _)) (.app (.nil _) (.nil _))) (⟨rfl, ⟨fun _ g => by subst g; exact kl_ldvs hT, fun _ => ⟨(), rfl, nofun, fun _ g => g, trivial⟩⟩⟩)
theorem k_vault_i (p : Nat) (L : Led) (F : Facts) (hT : led p L F) (v : Int) (k : Nat) (e : v = (k : Int) + 1) (hk : k < 4) (hv : isv v = true) (A : Facts) : CallR Tryd.prog 26 [.pointer (some ⟨p, 0, none⟩), .int .i64 v] A (F) (Unit) (fun _ => U (L.v k)) (fun _ => []) :=
  reads_of_vcF Tryd.mixed good_ledger_Ledger_Vault (args := [(.pointer (some ⟨p, 0, none⟩), []), (.int .i64 v, [])]) (B := A) (F := F) (O := [.reg [(3, .yes), (4, det (.bool (isv v))), (5, .yes), (6, .no)], .no, .reg [(2, det (.int .i64 (k : Int))), (5, .ld (.pointer (some ⟨p, 1 + k * 4, none⟩))), (6, .rdT 0 Unit () (fun _ => U (L.v k)) (fun _ => []))]]) (.app ((.refl _)) (.app (.nil _) (.app (.nil _) (.nil _)))) (⟨gff rfl, ⟨⟨gff rfl, k_isv v _⟩, fun _ => ⟨gff rfl, ⟨rfl, ⟨nt hv, ⟨k_vi k e hk _, fun _ => ⟨kt_ix p hk _ rfl, ⟨fun _ g => by subst g; exact kl_ldv hT hk, fun _ => ⟨(), rfl, nofun, fun _ g => g, trivial⟩⟩⟩⟩⟩⟩⟩⟩⟩)
theorem k_vault_o (p : Nat) (L : Led) (F : Facts) (_hT : led p L F) (v : Int) (hv : isv v = false) (A : Facts) : CallR Tryd.prog 26 [.pointer (some ⟨p, 0, none⟩), .int .i64 v] A (F) (Unit) (fun _ => .agg #[.int .u64 0, .int .u64 0, .int .u64 0, .int .u64 0]) (fun _ => []) :=
  reads_of_vcF Tryd.mixed good_ledger_Ledger_Vault (args := [(.pointer (some ⟨p, 0, none⟩), []), (.int .i64 v, [])]) (B := A) (F := F) (O := [.reg [(3, .yes), (4, det (.bool (isv v))), (5, .yes), (6, .no)], .yes]) (.app ((.refl _)) (.app (.nil _) (.app (.nil _) (.nil _)))) (⟨gff rfl, ⟨⟨gff rfl, k_isv v _⟩, fun _ => ⟨gff rfl, ⟨rfl, ⟨nf hv, ⟨(), rfl, nofun, fun _ g => g, trivial⟩⟩⟩⟩⟩⟩)
theorem kq_store_s (p : Nat) (m : Nat) (L : Led) (x : Ac) (hb : x.b < B256) (A : Facts) : CallT Tryd.prog 41 [.pointer (some ⟨p, 0, none⟩), AV x] A (ledQ p (some m) L) (Unit) (fun _ => .tuple #[]) (fun _ => []) (fun _ => led p ⟨putA L.acc x, L.v, L.s⟩) :=
  givesT_of_vcF Tryd.mixed good_ledger_Ledger_store (args := [(.pointer (some ⟨p, 0, none⟩), []), (AV x, [])]) (B := A) (O := [.reg [(1, det (.bool (decide x.emp)))], .both [.opt 2 [(3, .rdT 0 Unit () (fun _ => .map (some m)) (fun _ => [])), (6, .thg 0 Unit () (fun _ => .tuple #[]) (fun _ => []) (fun _ => led p ⟨putA L.acc x, L.v, L.s⟩))]] [.opt 3 [(3, .rdT 0 Unit () (fun _ => .map (some m)) (fun _ => []))], .no, .opt 5 [(3, .rdT 0 Unit () (fun _ => .map (some m)) (fun _ => [])), (7, .thg 0 Unit () (fun _ => undef) (fun _ => []) (fun _ => led p ⟨putA L.acc x, L.v, L.s⟩))]]]) (.app ((.refl _)) (.app (.nil _) (.app (.nil _) (.nil _)))) (⟨k_emp x hb _, fun _ => ⟨fun h => ⟨fun _ g => kt_ldm g, fun _ => ⟨kt_del (of_decide_eq_true h) rfl, fun _ => ⟨(), rfl, nofun, fun _ g => g, trivial⟩⟩⟩, fun h => ⟨fun _ g => kt_ldm g, fun _ => ⟨rfl, ⟨fun _ g => kt_ldm g, fun _ => ⟨kt_upd (of_decide_eq_false h), fun _ => ⟨(), rfl, nofun, fun _ g => g, trivial⟩⟩⟩⟩⟩⟩⟩)
theorem kq_store_n (p : Nat) (L : Led) (x : Ac) (hb : x.b < B256) (A : Facts) : CallT Tryd.prog 41 [.pointer (some ⟨p, 0, none⟩), AV x] A (ledQ p none L) (Unit) (fun _ => .tuple #[]) (fun _ => []) (fun _ => led p ⟨putA L.acc x, L.v, L.s⟩) :=
  givesT_of_vcF Tryd.mixed good_ledger_Ledger_store (args := [(.pointer (some ⟨p, 0, none⟩), []), (AV x, [])]) (B := A) (O := [.reg [(1, det (.bool (decide x.emp)))], .both [.opt 2 [(3, .rdT 0 Unit () (fun _ => .map none) (fun _ => [])), (6, .thg 0 Unit () (fun _ => .tuple #[]) (fun _ => []) (fun _ => led p ⟨putA L.acc x, L.v, L.s⟩))]] [.opt 3 [(3, .rdT 0 Unit () (fun _ => .map none) (fun _ => []))], .yes, .opt 4 [(1, .thg 0 Nat 0 (fun m => .map (some m)) (fun _ => []) (fun m => ledM p m L)), (4, .thg 0 Unit () (fun _ => undef) (fun _ => []) (fun _ => fun F => ∃ m, ledQ p (some m) L F))], .opt 5 [(3, .thg 0 Nat 0 (fun m => .map (some m)) (fun _ => []) (fun m => ledQ p (some m) L)), (7, .thg 0 Unit () (fun _ => undef) (fun _ => []) (fun _ => led p ⟨putA L.acc x, L.v, L.s⟩))]]]) (.app ((.refl _)) (.app (.nil _) (.app (.nil _) (.nil _)))) (⟨k_emp x hb _, fun _ => ⟨fun h => ⟨fun _ g => kt_ldm g, fun _ => ⟨kt_del (of_decide_eq_true h) rfl, fun _ => ⟨(), rfl, nofun, fun _ g => g, trivial⟩⟩⟩, fun h => ⟨fun _ g => kt_ldm g, fun _ => ⟨rfl, ⟨kt_mk, fun m => ⟨kt_stm m, fun _ => ⟨kt_ldx, fun m2 => ⟨kt_upd (of_decide_eq_false h), fun _ => ⟨(), rfl, nofun, fun _ g => g, trivial⟩⟩⟩⟩⟩⟩⟩⟩⟩)
theorem k_store (p : Nat) (L : Led) (x : Ac) (hb : x.b < B256) (A : Facts) : CallT Tryd.prog 41 [.pointer (some ⟨p, 0, none⟩), AV x] A (led p L) Unit (fun _ => .tuple #[]) (fun _ => []) (fun _ => led p ⟨putA L.acc x, L.v, L.s⟩) :=
  callT_led fun q => match q with
    | none => kq_store_n p L x hb A
    | some m => kq_store_s p m L x hb A
theorem k_credit (p : Nat) (L : Led) (a n : Nat) (hn : n < B256) (hf : (getA L.acc a).b + n < B256) (A : Facts) (hA : LgF A) : CallT Tryd.prog 52 [.pointer (some ⟨p, 0, none⟩), .int .u64 (a : Int), U n] A (led p L) (Unit) (fun _ => .tuple #[]) (fun _ => []) (fun _ => led p ⟨putA L.acc (crA L.acc a n), L.v, L.s⟩) :=
  givesT_of_vcF Tryd.mixed good_ledger_Ledger_credit (args := [(.pointer (some ⟨p, 0, none⟩), []), (.int .u64 (a : Int), []), (U n, [])]) (B := A) (O := [.reg [(2, .rdT 0 Unit () (fun _ => AV ⟨a, (getA L.acc a).b, (getA L.acc a).n⟩) (fun _ => []))], .reg [(3, det (U ((getA L.acc a).b + n)))], .reg [(2, .thg 0 Unit () (fun _ => .tuple #[]) (fun _ => []) (fun _ => led p ⟨putA L.acc (crA L.acc a n), L.v, L.s⟩))]]) (.app ((.refl _)) (.app (.nil _) (.app (.nil _) (.app (.nil _) (.nil _))))) (⟨fun _ g => callR_op (k_account g a _) rfl rfl, fun _ => ⟨dl_sata (by omega) hn hf _ (hA.app _), fun _ => ⟨callT_op (k_store p L (crA L.acc a n) hf _) rfl rfl, fun _ => ⟨(), rfl, nofun, fun _ g => g, trivial⟩⟩⟩⟩)
theorem k_debit (p : Nat) (L : Led) (a n : Nat) (hn : n < B256) (hb : (getA L.acc a).b < B256) (hf : n ≤ (getA L.acc a).b) (A : Facts) : CallT Tryd.prog 53 [.pointer (some ⟨p, 0, none⟩), .int .u64 (a : Int), U n] A (led p L) (Unit) (fun _ => .int .i64 0) (fun _ => []) (fun _ => led p ⟨putA L.acc (dbA L.acc a n), L.v, L.s⟩) :=
  givesT_of_vcF Tryd.mixed good_ledger_Ledger_debit (args := [(.pointer (some ⟨p, 0, none⟩), []), (.int .u64 (a : Int), []), (U n, [])]) (B := A) (O := [.reg [(2, .rdT 0 Unit () (fun _ => AV ⟨a, (getA L.acc a).b, (getA L.acc a).n⟩) (fun _ => []))], .reg [(3, det (.tuple #[U ((getA L.acc a).b - n), .int .i64 0]))], .no, .reg [(2, .thg 0 Unit () (fun _ => .tuple #[]) (fun _ => []) (fun _ => led p ⟨putA L.acc (dbA L.acc a n), L.v, L.s⟩))]]) (.app ((.refl _)) (.app (.nil _) (.app (.nil _) (.app (.nil _) (.nil _))))) (⟨fun _ g => callR_op (k_account g a _) rfl rfl, fun _ => ⟨d_sub_k hb hn hf _, fun _ => ⟨rfl, ⟨callT_op (k_store p L (dbA L.acc a n) (by show _ - n < _; omega) _) rfl rfl, fun _ => ⟨(), rfl, nofun, fun _ g => g, trivial⟩⟩⟩⟩⟩)
theorem k_debit_o (p : Nat) (L : Led) (a n : Nat) (hn : n < B256) (hb : (getA L.acc a).b < B256) (hf : ¬ n ≤ (getA L.acc a).b) (A : Facts) : CallT Tryd.prog 53 [.pointer (some ⟨p, 0, none⟩), .int .u64 (a : Int), U n] A (led p L) (Unit) (fun _ => .int .i64 10) (fun _ => []) (fun _ => led p L) :=
  givesT_of_vcF Tryd.mixed good_ledger_Ledger_debit (args := [(.pointer (some ⟨p, 0, none⟩), []), (.int .u64 (a : Int), []), (U n, [])]) (B := A) (O := [.reg [(2, .rdT 0 Unit () (fun _ => AV ⟨a, (getA L.acc a).b, (getA L.acc a).n⟩) (fun _ => []))], .reg [(3, det (.tuple #[U 0, .int .i64 4]))], .yes]) (.app ((.refl _)) (.app (.nil _) (.app (.nil _) (.app (.nil _) (.nil _))))) (⟨fun _ g => callR_op (k_account g a _) rfl rfl, fun _ => ⟨d_sub_o hb hn hf _, fun _ => ⟨rfl, ⟨(), rfl, nofun, fun _ g => g, trivial⟩⟩⟩⟩)
theorem a_z {a : Nat} (h : (!((a : Int) != 0)) = true) : a = 0 := by
  have : ((a : Int) != 0) = false := by simpa using h
  have := bne_eq_false_iff_eq.1 this
  omega
theorem a_n {a : Nat} (h : (!((a : Int) != 0)) = false) : ¬ a = 0 := by
  have : ((a : Int) != 0) = true := by simpa using h
  have := bne_iff_ne.1 this
  omega
theorem k_mint (p : Nat) (L : Led) (hL : LOk L) (a n : Nat) (hn : n < B256) (A : Facts) (hA : LgF A) : CallT Tryd.prog 22 [.pointer (some ⟨p, 0, none⟩), .int .u64 (a : Int), U n] A (led p L) (Unit) (fun _ => .int .i64 (mint L a n).1) (fun _ => []) (fun _ => led p (mint L a n).2) :=
  givesT_of_vcF Tryd.mixed good_ledger_Ledger_Mint (args := [(.pointer (some ⟨p, 0, none⟩), []), (.int .u64 (a : Int), []), (U n, [])]) (B := A) (O := [.no, .reg [(1, det (.bool ((a : Int) != 0)))], .both [] [.alt [(L.s + n < B256, [(3, .rdT 0 Unit () (fun _ => U L.s) (fun _ => [])), (5, det (.tuple #[U (L.s + n), .int .i64 0]))], [.no, .opt 8 [(4, .thg 0 Unit () (fun _ => undef) (fun _ => []) (fun _ => led p ⟨L.acc, L.v, (L.s + n)⟩))], .reg [(3, .thg 0 Unit () (fun _ => .tuple #[]) (fun _ => []) (fun _ => led p ⟨putA L.acc (crA L.acc a n), L.v, (L.s + n)⟩))]]), (True, [(3, .rdT 0 Unit () (fun _ => U L.s) (fun _ => [])), (5, det (.tuple #[U 0, .int .i64 4]))], [.yes])]]]) (.app ((.refl _)) (.app (.nil _) (.app (.nil _) (.app (.nil _) (.nil _))))) (⟨rfl, ⟨k_addr a _, fun _ => ⟨fun h1 => ⟨(), (by rw [mint_0 (a_z h1)]; rfl), nofun, fun _ g => by rw [mint_0 (a_z h1)]; exact g, trivial⟩, fun h1 => ⟨fun h2 => ⟨fun _ g => kl_lds g, fun _ => ⟨d_add_k hL.s hn h2 _, fun _ => ⟨rfl, ⟨kl_sts _, fun _ => ⟨callT_op (k_credit p ⟨L.acc, L.v, (L.s + n)⟩ a n hn (by have := hL.bs a; show (getA L.acc a).b + n < _; omega) _ (hA.app _)) rfl rfl, fun _ => ⟨(), (by rw [mint_2 (a_n h1) h2]; rfl), nofun, fun _ g => by rw [mint_2 (a_n h1) h2]; exact g, trivial⟩⟩⟩⟩⟩⟩, fun h2 => ⟨fun _ => ⟨fun _ g => kl_lds g, fun _ => ⟨d_add_o hL.s hn h2 _, fun _ => ⟨rfl, ⟨(), (by rw [mint_1 (a_n h1) h2]; rfl), nofun, fun _ g => by rw [mint_1 (a_n h1) h2]; exact g, trivial⟩⟩⟩⟩, fun h => (h trivial).elim⟩⟩⟩⟩⟩)
theorem or_z {a b : Nat} (h : (!((a : Int) != 0)) = true ∨ (!((b : Int) != 0)) = true) : a = 0 ∨ b = 0 := h.imp a_z a_z
theorem or_n {a b : Nat} (h : (!((a : Int) != 0)) = false) (h2 : (!((b : Int) != 0)) = false) : ¬ (a = 0 ∨ b = 0) := fun e => e.elim (a_n h) (a_n h2)
theorem orv_z {a : Nat} {v : Int} (h : (!((a : Int) != 0)) = true ∨ (!isv v) = true) : a = 0 ∨ isv v = false := h.imp a_z (fun h => by simpa using h)
theorem orv_n {a : Nat} {v : Int} (h : (!((a : Int) != 0)) = false) (h2 : (!isv v) = false) : ¬ (a = 0 ∨ isv v = false) := fun e => e.elim (a_n h) (fun e => by rw [e] at h2; cases h2)
theorem isv_of {v : Int} (h : (!isv v) = false) : isv v = true := by simpa using h
theorem k_trans (p : Nat) (L : Led) (hL : LOk L) (a b n : Nat) (ha : a < 18446744073709551616) (hn : n < B256) (A : Facts) (hA : LgF A) : CallT Tryd.prog 23 [.pointer (some ⟨p, 0, none⟩), .int .u64 (a : Int), .int .u64 (b : Int), U n] A (led p L) (Unit) (fun _ => .int .i64 (trans L a b n).1) (fun _ => []) (fun _ => led p (trans L a b n).2) :=
  givesT_of_vcF Tryd.mixed good_ledger_Ledger_Transfer (args := [(.pointer (some ⟨p, 0, none⟩), []), (.int .u64 (a : Int), []), (.int .u64 (b : Int), []), (U n, [])]) (B := A) (O := [.no, .alt [((!((a : Int) != 0)) = true, [(1, det (.bool ((a : Int) != 0))), (4, .no), (5, .no), (6, .no), (7, .yes)], [.yes]), (True, [(1, det (.bool ((a : Int) != 0))), (4, .yes), (5, det (.bool ((b : Int) != 0))), (6, .yes), (7, .no)], [.both [] [.alt [(n ≤ (getA L.acc a).b, [(3, .thg 0 Unit () (fun _ => .int .i64 0) (fun _ => []) (fun _ => led p ⟨putA L.acc (dbA L.acc a n), L.v, L.s⟩))], [.no, .reg [(3, .thg 0 Unit () (fun _ => .tuple #[]) (fun _ => []) (fun _ => led p ⟨putA (putA L.acc (dbA L.acc a n)) (crA (putA L.acc (dbA L.acc a n)) b n), L.v, L.s⟩))]]), (True, [(3, .thg 0 Unit () (fun _ => .int .i64 10) (fun _ => []) (fun _ => led p L))], [.yes])]]])]]) (.app ((.refl _)) (.app (.nil _) (.app (.nil _) (.app (.nil _) (.app (.nil _) (.nil _)))))) (⟨rfl, ⟨fun h1 => ⟨k_addr a _, fun _ => ⟨gft h1, ⟨gft h1, ⟨gft h1, ⟨h1, ⟨rfl, ⟨(), (by rw [trans_0 (or_z (.inl h1))]; rfl), nofun, fun _ g => by rw [trans_0 (or_z (.inl h1))]; exact g, trivial⟩⟩⟩⟩⟩⟩⟩, fun h1 => ⟨fun _ => ⟨k_addr a _, fun _ => ⟨gff (Bool.eq_false_iff.2 h1), ⟨⟨gff (Bool.eq_false_iff.2 h1), k_addr b _⟩, fun _ => ⟨gff (Bool.eq_false_iff.2 h1), ⟨(Bool.eq_false_iff.2 h1), ⟨fun h2 => ⟨(), (by rw [trans_0 (or_z (.inr h2))]; rfl), nofun, fun _ g => by rw [trans_0 (or_z (.inr h2))]; exact g, trivial⟩, fun h2 => ⟨fun h3 => ⟨callT_op (k_debit p L a n hn (hL.b a) h3 _) rfl rfl, fun _ => ⟨rfl, ⟨callT_op (k_credit p ⟨putA L.acc (dbA L.acc a n), L.v, L.s⟩ b n hn (by have := (ok_mid hL ha (fun e => or_n (Bool.eq_false_iff.2 h1) h2 (.inl e)) h3).bs b; have := hL.bs a; have := hL.s; show (getA (putA L.acc (dbA L.acc a n)) b).b + n < _; simp only at *; omega) _ (hA.app _)) rfl rfl, fun _ => ⟨(), (by rw [trans_2 (or_n (Bool.eq_false_iff.2 h1) h2) h3]; rfl), nofun, fun _ g => by rw [trans_2 (or_n (Bool.eq_false_iff.2 h1) h2) h3]; exact g, trivial⟩⟩⟩⟩, fun h3 => ⟨fun _ => ⟨callT_op (k_debit_o p L a n hn (hL.b a) h3 _) rfl rfl, fun _ => ⟨rfl, ⟨(), (by rw [trans_1 (or_n (Bool.eq_false_iff.2 h1) h2) h3]; rfl), nofun, fun _ g => by rw [trans_1 (or_n (Bool.eq_false_iff.2 h1) h2) h3]; exact g, trivial⟩⟩⟩, fun h => (h trivial).elim⟩⟩⟩⟩⟩⟩⟩⟩, fun h => (h trivial).elim⟩⟩⟩)
theorem k_payv (p : Nat) (L : Led) (hL : LOk L) (a n : Nat) (v : Int) (hn : n < B256) (A : Facts) (hA : LgF A) : CallT Tryd.prog 24 [.pointer (some ⟨p, 0, none⟩), .int .u64 (a : Int), .int .i64 v, U n] A (led p L) (Unit) (fun _ => .int .i64 (payv L a v n).1) (fun _ => []) (fun _ => led p (payv L a v n).2) :=
  givesT_of_vcF Tryd.mixed good_ledger_Ledger_PayVault (args := [(.pointer (some ⟨p, 0, none⟩), []), (.int .u64 (a : Int), []), (.int .i64 v, []), (U n, [])]) (B := A) (O := [.no, .alt [((!((a : Int) != 0)) = true, [(1, det (.bool ((a : Int) != 0))), (4, .no), (5, .no), (6, .no), (7, .yes)], [.yes]), (True, [(1, det (.bool ((a : Int) != 0))), (4, .yes), (5, det (.bool (isv v))), (6, .yes), (7, .no)], [.both [] [.alt [(n ≤ (getA L.acc a).b, [(3, .thg 0 Unit () (fun _ => .int .i64 0) (fun _ => []) (fun _ => led p ⟨putA L.acc (dbA L.acc a n), L.v, L.s⟩))], [.no, .reg [(2, det (.int .i64 (vix v : Int))), (5, det (.int .i64 (vix v : Int))), (8, .ld (.pointer (some ⟨p, 1 + vix v * 4, none⟩))), (9, .rdT 0 Unit () (fun _ => U (L.v (vix v))) (fun _ => [])), (11, det (U (L.v (vix v) + n))), (14, .ld (.pointer (some ⟨p, 1 + vix v * 4, none⟩))), (15, .thg 0 Unit () (fun _ => undef) (fun _ => []) (fun _ => led p ⟨putA L.acc (dbA L.acc a n), updV L.v (vix v) (L.v (vix v) + n), L.s⟩))]]), (True, [(3, .thg 0 Unit () (fun _ => .int .i64 10) (fun _ => []) (fun _ => led p L))], [.yes])]]])]]) (.app ((.refl _)) (.app (.nil _) (.app (.nil _) (.app (.nil _) (.app (.nil _) (.nil _)))))) (⟨rfl, ⟨fun h1 => ⟨k_addr a _, fun _ => ⟨gft h1, ⟨gft h1, ⟨gft h1, ⟨h1, ⟨rfl, ⟨(), (by rw [payv_0 (orv_z (.inl h1))]; rfl), nofun, fun _ g => by rw [payv_0 (orv_z (.inl h1))]; exact g, trivial⟩⟩⟩⟩⟩⟩⟩, fun h1 => ⟨fun _ => ⟨k_addr a _, fun _ => ⟨gff (Bool.eq_false_iff.2 h1), ⟨⟨gff (Bool.eq_false_iff.2 h1), k_isv v _⟩, fun _ => ⟨gff (Bool.eq_false_iff.2 h1), ⟨(Bool.eq_false_iff.2 h1), ⟨fun h2 => ⟨(), (by rw [payv_0 (orv_z (.inr h2))]; rfl), nofun, fun _ g => by rw [payv_0 (orv_z (.inr h2))]; exact g, trivial⟩, fun h2 => ⟨fun h3 => ⟨callT_op (k_debit p L a n hn (hL.b a) h3 _) rfl rfl, fun _ => ⟨rfl, ⟨k_vi (vix v) (isv_ix (isv_of h2)).1 (isv_ix (isv_of h2)).2 _, fun _ => ⟨k_vi (vix v) (isv_ix (isv_of h2)).1 (isv_ix (isv_of h2)).2 _, fun _ => ⟨kt_ix p (isv_ix (isv_of h2)).2 _ rfl, ⟨fun _ g => kl_ldv (L := ⟨putA L.acc (dbA L.acc a n), L.v, L.s⟩) g (isv_ix (isv_of h2)).2, fun _ => ⟨dl_sata (hL.v _) hn (by have := hL.bv a (isv_ix (isv_of h2)).2; have := hL.s; omega) _ (hA.app _), fun _ => ⟨kt_ix p (isv_ix (isv_of h2)).2 _ rfl, ⟨kl_stv (L := ⟨putA L.acc (dbA L.acc a n), L.v, L.s⟩) (isv_ix (isv_of h2)).2 _, fun _ => ⟨(), (by rw [payv_2 (orv_n (Bool.eq_false_iff.2 h1) h2) h3]; rfl), nofun, fun _ g => by rw [payv_2 (orv_n (Bool.eq_false_iff.2 h1) h2) h3]; exact g, trivial⟩⟩⟩⟩⟩⟩⟩⟩⟩⟩, fun h3 => ⟨fun _ => ⟨callT_op (k_debit_o p L a n hn (hL.b a) h3 _) rfl rfl, fun _ => ⟨rfl, ⟨(), (by rw [payv_1 (orv_n (Bool.eq_false_iff.2 h1) h2) h3]; rfl), nofun, fun _ g => by rw [payv_1 (orv_n (Bool.eq_false_iff.2 h1) h2) h3]; exact g, trivial⟩⟩⟩, fun h => (h trivial).elim⟩⟩⟩⟩⟩⟩⟩⟩, fun h => (h trivial).elim⟩⟩⟩)
theorem k_withd (p : Nat) (L : Led) (hL : LOk L) (a n : Nat) (hn : n < B256) (A : Facts) : CallT Tryd.prog 27 [.pointer (some ⟨p, 0, none⟩), .int .u64 (a : Int), U n] A (led p L) (Unit) (fun _ => .int .i64 (withd L a n).1) (fun _ => []) (fun _ => led p (withd L a n).2) :=
  givesT_of_vcF Tryd.mixed good_ledger_Ledger_Withdraw (args := [(.pointer (some ⟨p, 0, none⟩), []), (.int .u64 (a : Int), []), (U n, [])]) (B := A) (O := [.no, .reg [(1, det (.bool ((a : Int) != 0)))], .both [] [.alt [(n ≤ (getA L.acc a).b, [(3, .thg 0 Unit () (fun _ => .int .i64 0) (fun _ => []) (fun _ => led p ⟨putA L.acc (dbA L.acc a n), L.v, L.s⟩))], [.no, .reg [(4, .rdT 0 Unit () (fun _ => U L.s) (fun _ => [])), (6, det (U (L.s - n))), (9, .thg 0 Unit () (fun _ => undef) (fun _ => []) (fun _ => led p ⟨putA L.acc (dbA L.acc a n), L.v, L.s - n⟩))]]), (True, [(3, .thg 0 Unit () (fun _ => .int .i64 10) (fun _ => []) (fun _ => led p L))], [.yes])]]]) (.app ((.refl _)) (.app (.nil _) (.app (.nil _) (.app (.nil _) (.nil _))))) (⟨rfl, ⟨k_addr a _, fun _ => ⟨fun h1 => ⟨(), (by rw [withd_0 (a_z h1)]; rfl), nofun, fun _ g => by rw [withd_0 (a_z h1)]; exact g, trivial⟩, fun h1 => ⟨fun h3 => ⟨callT_op (k_debit p L a n hn (hL.b a) h3 _) rfl rfl, fun _ => ⟨rfl, ⟨fun _ g => kl_lds (L := ⟨putA L.acc (dbA L.acc a n), L.v, L.s⟩) g, fun _ => ⟨d_sats hL.s hn (by have := hL.bs a; omega) _, fun _ => ⟨kl_sts (L := ⟨putA L.acc (dbA L.acc a n), L.v, L.s⟩) _, fun _ => ⟨(), (by rw [withd_2 (a_n h1) h3]; rfl), nofun, fun _ g => by rw [withd_2 (a_n h1) h3]; exact g, trivial⟩⟩⟩⟩⟩⟩, fun h3 => ⟨fun _ => ⟨callT_op (k_debit_o p L a n hn (hL.b a) h3 _) rfl rfl, fun _ => ⟨rfl, ⟨(), (by rw [withd_1 (a_n h1) h3]; rfl), nofun, fun _ g => by rw [withd_1 (a_n h1) h3]; exact g, trivial⟩⟩⟩, fun h => (h trivial).elim⟩⟩⟩⟩⟩)
theorem k_withv (p : Nat) (L : Led) (hL : LOk L) (v : Int) (n : Nat) (hn : n < B256) (A : Facts) : CallT Tryd.prog 28 [.pointer (some ⟨p, 0, none⟩), .int .i64 v, U n] A (led p L) (Unit) (fun _ => .int .i64 (withv L v n).1) (fun _ => []) (fun _ => led p (withv L v n).2) :=
  givesT_of_vcF Tryd.mixed good_ledger_Ledger_WithdrawVault (args := [(.pointer (some ⟨p, 0, none⟩), []), (.int .i64 v, []), (U n, [])]) (B := A) (O := [.no, .reg [(1, det (.bool (isv v)))], .both [] [.alt [(n ≤ L.v (vix v), [(2, det (.int .i64 (vix v : Int))), (5, .ld (.pointer (some ⟨p, 1 + vix v * 4, none⟩))), (6, .rdT 0 Unit () (fun _ => U (L.v (vix v))) (fun _ => [])), (8, det (.tuple #[U (L.v (vix v) - n), .int .i64 0]))], [.no, .reg [(2, det (.int .i64 (vix v : Int))), (6, .ld (.pointer (some ⟨p, 1 + vix v * 4, none⟩))), (7, .thg 0 Unit () (fun _ => undef) (fun _ => []) (fun _ => led p ⟨L.acc, updV L.v (vix v) (L.v (vix v) - n), L.s⟩))], .reg [(4, .rdT 0 Unit () (fun _ => U L.s) (fun _ => [])), (6, det (U (L.s - n))), (9, .thg 0 Unit () (fun _ => undef) (fun _ => []) (fun _ => led p ⟨L.acc, updV L.v (vix v) (L.v (vix v) - n), L.s - n⟩))]]), (True, [(2, det (.int .i64 (vix v : Int))), (5, .ld (.pointer (some ⟨p, 1 + vix v * 4, none⟩))), (6, .rdT 0 Unit () (fun _ => U (L.v (vix v))) (fun _ => [])), (8, det (.tuple #[U 0, .int .i64 4]))], [.yes])]]]) (.app ((.refl _)) (.app (.nil _) (.app (.nil _) (.app (.nil _) (.nil _))))) (⟨rfl, ⟨k_isv v _, fun _ => ⟨fun h2 => ⟨(), (by rw [withv_0 (by simpa using h2)]; rfl), nofun, fun _ g => by rw [withv_0 (by simpa using h2)]; exact g, trivial⟩, fun h2 => ⟨fun h3 => ⟨k_vi (vix v) (isv_ix (isv_of h2)).1 (isv_ix (isv_of h2)).2 _, fun _ => ⟨kt_ix p (isv_ix (isv_of h2)).2 _ rfl, ⟨fun _ g => kl_ldv g (isv_ix (isv_of h2)).2, fun _ => ⟨d_sub_k (hL.v _) hn h3 _, fun _ => ⟨rfl, ⟨k_vi (vix v) (isv_ix (isv_of h2)).1 (isv_ix (isv_of h2)).2 _, fun _ => ⟨kt_ix p (isv_ix (isv_of h2)).2 _ rfl, ⟨kl_stv (isv_ix (isv_of h2)).2 _, fun _ => ⟨fun _ g => kl_lds (L := ⟨L.acc, updV L.v (vix v) (L.v (vix v) - n), L.s⟩) g, fun _ => ⟨d_sats hL.s hn (by have := hL.vs (isv_ix (isv_of h2)).2; omega) _, fun _ => ⟨kl_sts (L := ⟨L.acc, updV L.v (vix v) (L.v (vix v) - n), L.s⟩) _, fun _ => ⟨(), (by rw [withv_2 (isv_of h2) h3]; rfl), nofun, fun _ g => by rw [withv_2 (isv_of h2) h3]; exact g, trivial⟩⟩⟩⟩⟩⟩⟩⟩⟩⟩⟩⟩, fun h3 => ⟨fun _ => ⟨k_vi (vix v) (isv_ix (isv_of h2)).1 (isv_ix (isv_of h2)).2 _, fun _ => ⟨kt_ix p (isv_ix (isv_of h2)).2 _ rfl, ⟨fun _ g => kl_ldv g (isv_ix (isv_of h2)).2, fun _ => ⟨d_sub_o (hL.v _) hn h3 _, fun _ => ⟨rfl, ⟨(), (by rw [withv_1 (isv_of h2) h3]; rfl), nofun, fun _ g => by rw [withv_1 (isv_of h2) h3]; exact g, trivial⟩⟩⟩⟩⟩⟩, fun h => (h trivial).elim⟩⟩⟩⟩⟩)
theorem n_max {n : Nat} (h : ((n : Int) == 18446744073709551615) = true) : n = 18446744073709551615 := by have := eq_of_beq h; omega
theorem n_nmax {n : Nat} (h : ((n : Int) == 18446744073709551615) = false) : ¬ n = 18446744073709551615 := by have := ne_of_beq_false h; omega
theorem n_lt {n : Nat} (h0 : n < 18446744073709551616) (h : ((n : Int) == 18446744073709551615) = false) : n + 1 < 18446744073709551616 := by have := n_nmax h; omega
section
variable {ρ : Operand → Value} {dst : Option Tmp} {type : TypeId} {pos : String} {after : Array Edge} {guard : Option (Nat × Bool)}
theorem ld_inc {n : Nat} (h : n + 1 < 18446744073709551616) (A : Facts) {x y : Operand} (hx : ρ x = .int .u64 (n : Int) := by rfl) (hy : ρ y = .int .u64 1 := by rfl) :
    ∀ w, Sx.Holds w A → (execOp ρ ⟨dst, .binOp .add 28 x y 28, type, pos, after, guard⟩).run Tryd.prog w = .ok (.value (.int .u64 ((n + 1 : Nat) : Int))) w := by
  intro w _
  have e : execOp ρ ⟨dst, .binOp .add 28 x y 28, type, pos, after, guard⟩ = (do let v ← binOp .add 28 (ρ x) (ρ y); pure (.value v)) := rfl
  have h2 : IntKind.u64.wrap ((n : Int) + 1) = ((n + 1 : Nat) : Int) := by rw [show ((n : Int) + 1) = ((n + 1 : Nat) : Int) by omega, u64_wrap_nat h]
  rw [e, hx, hy, ← h2]
  rfl
end
theorem k_incn (p : Nat) (L : Led) (hL : LOk L) (a : Nat) (A : Facts) : CallT Tryd.prog 29 [.pointer (some ⟨p, 0, none⟩), .int .u64 (a : Int)] A (led p L) (Unit) (fun _ => .int .i64 (incn L a).1) (fun _ => []) (fun _ => led p (incn L a).2) :=
  givesT_of_vcF Tryd.mixed good_ledger_Ledger_IncrementNonce (args := [(.pointer (some ⟨p, 0, none⟩), []), (.int .u64 (a : Int), [])]) (B := A) (O := [.no, .reg [(1, det (.bool ((a : Int) != 0)))], .both [] [.reg [(2, .rdT 0 Unit () (fun _ => AV ⟨a, (getA L.acc a).b, (getA L.acc a).n⟩) (fun _ => []))], .both [] [.opt 8 [(2, .ld (.int .u64 (((getA L.acc a).n + 1 : Nat) : Int)))], .alt [(True, [(2, .thg 0 Unit () (fun _ => .tuple #[]) (fun _ => []) (fun _ => led p ⟨putA L.acc ⟨a, (getA L.acc a).b, (getA L.acc a).n + 1⟩, L.v, L.s⟩))], [])]]]]) (.app ((.refl _)) (.app (.nil _) (.app (.nil _) (.nil _)))) (⟨rfl, ⟨k_addr a _, fun _ => ⟨fun h1 => ⟨(), (by rw [incn_0 (a_z h1)]; rfl), nofun, fun _ g => by rw [incn_0 (a_z h1)]; exact g, trivial⟩, fun h1 => ⟨fun _ g => callR_op (k_account g a _) rfl rfl, fun _ => ⟨fun h2 => ⟨(), (by rw [incn_1 (a_n h1) (n_max h2)]; rfl), nofun, fun _ g => by rw [incn_1 (a_n h1) (n_max h2)]; exact g, trivial⟩, fun h2 => ⟨ld_inc (n := (getA L.acc a).n) (n_lt (hL.n a) h2) _, ⟨fun _ => ⟨callT_op (k_store p L ⟨a, (getA L.acc a).b, (getA L.acc a).n + 1⟩ (hL.b a) _) rfl rfl, fun _ => ⟨(), (by rw [incn_2 (a_n h1) (n_nmax h2)]; rfl), nofun, fun _ g => by rw [incn_2 (a_n h1) (n_nmax h2)]; exact g, trivial⟩⟩, fun h => (h trivial).elim⟩⟩⟩⟩⟩⟩⟩)
end Go.Proofs.YtkibbcomfjhgpaaDoor

