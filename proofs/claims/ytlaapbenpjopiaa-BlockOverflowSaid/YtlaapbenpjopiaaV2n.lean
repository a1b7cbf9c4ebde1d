/- Layer 12: the governance parameters as numbers by their keys, their ranges, the first one outside its range, a parameter replaced. No Go function in this text; no conditions. -/
import Derived.Test.YtlaapbenpjopiaaSxg
namespace Go.Proofs.Ytlaapbenpjopiaa
open Go.RowKit Sx
set_option maxRecDepth 100000

/-- Parameters by their keys, 1 to 12. -/
abbrev Par := Nat → Nat
def gen : Par
  | 1 => 7000000
  | 2 => 10
  | 3 => 102
  | 4 => 100000000
  | 5 => 32000000
  | 6 => 60000000
  | 7 => 1000
  | 8 => 10
  | 9 => 160000000
  | 10 => 10
  | 11 => 16
  | 12 => 65536
  | _ => 0
def zerP : Par := fun _ => 0
def updP (p : Par) (k n : Nat) : Par := fun j => if j = k then n else p j
def w64 (n : Nat) : Nat := if n < 18446744073709551616 then n else 0
/-- The ends of the ranges; the last range begins with the parameter before it. -/
def loK (m : Nat) : Nat → Nat
  | 1 => 1
  | 3 => 1
  | 4 => 1
  | 5 => 1
  | 9 => 1
  | 10 => 1
  | 12 => m
  | _ => 0
def hiK : Nat → Nat
  | 1 => 1099511627776
  | 2 => 1048576
  | 3 => 1048576
  | 4 => 18446744073709551615
  | 5 => 1099511627776
  | 6 => 18446744073709551615
  | 7 => 10000
  | 8 => 18446744073709551615
  | 9 => 1099511627776
  | 10 => 1048576
  | 11 => 1048576
  | 12 => 16777216
  | _ => 0
def inR (n lo hi : Nat) : Bool := decide (n < 18446744073709551616) && (decide (lo ≤ n) && decide (n ≤ hi))
def okK (p : Par) (k : Nat) : Bool := inR (p k) (loK (w64 (p 11)) k) (hiK k)
/-- The first of n keys from k on whose parameter is outside its range, 0 if there is none. -/
def fiN (f : Nat → Bool) : Nat → Nat → Nat
  | 0, _ => 0
  | n + 1, k => if f k then fiN f n (k + 1) else k
def fi (p : Par) : Nat := fiN (okK p) 12 1
def isK (k : Int) : Prop := 1 ≤ k ∧ k ≤ 12
instance (k : Int) : Decidable (isK k) := inferInstanceAs (Decidable (_ ∧ _))
def setE (p : Par) (k : Int) (n : Nat) : Int := if isK k then (if fi p = 0 then (if fi (updP p k.toNat n) = 0 then 0 else 15) else 15) else 17
def setR (p : Par) (k : Int) (n : Nat) : Par := if isK k ∧ fi p = 0 ∧ fi (updP p k.toNat n) = 0 then updP p k.toNat n else zerP
/-- Parameters that api.Params can hold. -/
structure PWf (p : Par) : Prop where
  b : ∀ k, p k < B256
  w : ∀ k, k ≠ 4 → k ≠ 6 → k ≠ 8 → p k < 18446744073709551616
  z : p 0 = 0
theorem gen_w : ∀ k, gen k < 18446744073709551616 := by
  intro k
  unfold gen
  split <;> decide
theorem gen_wf : PWf gen := ⟨fun k => lt_B (gen_w k), fun k _ _ _ => gen_w k, rfl⟩
theorem zer_wf : PWf zerP := ⟨fun _ => B256_pos, fun _ _ _ _ => (by decide : 0 < 18446744073709551616), rfl⟩
theorem fiN_le (f : Nat → Bool) : ∀ n k, fiN f n k = 0 ∨ (k ≤ fiN f n k ∧ fiN f n k < k + n) := by
  intro n
  induction n with
  | zero => exact fun k => .inl rfl
  | succ n ih =>
    intro k
    rw [fiN]
    split
    · rcases ih (k + 1) with h | h
      · exact .inl h
      · exact .inr (by omega)
    · exact .inr (by omega)
theorem fiN_congr {f g : Nat → Bool} : ∀ n k, (∀ j, k ≤ j → j < k + n → f j = g j) → fiN f n k = fiN g n k := by
  intro n
  induction n with
  | zero => exact fun _ _ => rfl
  | succ n ih =>
    intro k h
    rw [fiN, fiN, h k (Nat.le_refl _) (by omega), ih (k + 1) fun j h1 h2 => h j (by omega) (by omega)]
theorem fiN_0 {f : Nat → Bool} : ∀ n k, 0 < k → (fiN f n k = 0 ↔ ∀ j, k ≤ j → j < k + n → f j = true) := by
  intro n
  induction n with
  | zero => exact fun k hk => ⟨fun _ j h1 h2 => by omega, fun _ => rfl⟩
  | succ n ih =>
    intro k hk
    rw [fiN]
    by_cases h : f k = true
    · rw [if_pos h, ih (k + 1) (by omega)]
      refine ⟨fun g j h1 h2 => ?_, fun g j h1 h2 => g j (by omega) (by omega)⟩
      rcases Nat.eq_or_lt_of_le h1 with e | e
      · rw [← e]; exact h
      · exact g j e (by omega)
    · rw [if_neg h]
      exact ⟨fun e => by omega, fun g => absurd (g k (Nat.le_refl _) (by omega)) h⟩
theorem fi_0 (p : Par) : fi p = 0 ↔ ∀ k, 1 ≤ k → k ≤ 12 → okK p k = true := by
  rw [fi, fiN_0 12 1 (by decide)]
  exact ⟨fun h k h1 h2 => h k h1 (by omega), fun h k h1 h2 => h k h1 (by omega)⟩
theorem okK_w {p : Par} {k : Nat} (h : okK p k = true) : p k < 18446744073709551616 := by
  unfold okK inR at h
  simp only [Bool.and_eq_true, decide_eq_true_eq] at h
  exact h.1
theorem updP_at (p : Par) (k n : Nat) : updP p k n k = n := if_pos rfl
theorem updP_ne (p : Par) {k j : Nat} (n : Nat) (h : j ≠ k) : updP p k n j = p j := if_neg h
theorem updP_wf {p : Par} (h : PWf p) {k n : Nat} (h1 : 1 ≤ k) (hn : fi (updP p k n) = 0) (h12 : k ≤ 12) : PWf (updP p k n) := by
  have g := (fi_0 _).1 hn
  have hk := okK_w (g k h1 h12)
  rw [updP_at] at hk
  refine ⟨fun j => ?_, fun j a b c => ?_, ?_⟩
  · by_cases e : j = k
    · subst e; rw [updP_at]; exact lt_B hk
    · rw [updP_ne _ _ e]; exact h.b j
  · by_cases e : j = k
    · subst e; rw [updP_at]; exact hk
    · rw [updP_ne _ _ e]; exact h.w j a b c
  · rw [updP_ne _ _ (by omega)]; exact h.z
theorem setR_ok {p : Par} {k : Int} {n : Nat} (h : setE p k n = 0) : isK k ∧ fi p = 0 ∧ fi (updP p k.toNat n) = 0 := by
  unfold setE at h
  split at h
  · split at h
    · split at h
      · exact ⟨by assumption, by assumption, by assumption⟩
      · cases h
    · cases h
  · cases h
theorem setR_wf {p : Par} (h : PWf p) (k : Int) (n : Nat) : PWf (setR p k n) := by
  unfold setR
  split
  · rename_i g
    obtain ⟨⟨g1, g2⟩, _, g3⟩ := g
    exact updP_wf h (by omega) g3 (by omega)
  · exact zer_wf

/-! As Go lays them. -/
abbrev PV (p : Par) : Value := .agg #[.int .u64 (p 1 : Int), .int .u64 (p 2 : Int), .int .u64 (p 3 : Int), .int .u64 (limb (p 4) 0), .int .u64 (limb (p 4) 1), .int .u64 (limb (p 4) 2), .int .u64 (limb (p 4) 3), .int .u64 (p 5 : Int), .int .u64 (limb (p 6) 0), .int .u64 (limb (p 6) 1), .int .u64 (limb (p 6) 2), .int .u64 (limb (p 6) 3), .int .u64 (p 7 : Int), .int .u64 (limb (p 8) 0), .int .u64 (limb (p 8) 1), .int .u64 (limb (p 8) 2), .int .u64 (limb (p 8) 3), .int .u64 (p 9 : Int), .int .u64 (p 10 : Int), .int .u64 (p 11 : Int), .int .u64 (p 12 : Int)]
/-- n numbers of 256 bits from k on. -/
def vas (f : Nat → Nat) : Nat → Nat → List Value
  | _, 0 => []
  | k, n + 1 => .int .u64 (limb (f k) 0) :: .int .u64 (limb (f k) 1) :: .int .u64 (limb (f k) 2) :: .int .u64 (limb (f k) 3) :: vas f (k + 1) n
theorem vas_len (f : Nat → Nat) : ∀ n k, (vas f k n).length = n * 4 := by
  intro n
  induction n with
  | zero => exact fun _ => rfl
  | succ n ih => intro k; rw [vas]; simp only [List.length_cons, ih]; omega
theorem vas_at (f : Nat → Nat) : ∀ n k j, j < n → ((vas f k n).drop (j * 4)).take 4 = cU (f (k + j)) := by
  intro n
  induction n with
  | zero => exact fun k j h => absurd h (Nat.not_lt_zero j)
  | succ n ih =>
    intro k j h
    cases j with
    | zero => rw [vas]; rfl
    | succ j =>
      rw [vas, show (j + 1) * 4 = j * 4 + 4 by omega]
      show (((vas f (k + 1) n).drop (j * 4)).take 4) = _
      rw [ih (k + 1) j (by omega), show k + 1 + j = k + (j + 1) by omega]
theorem vas_ext {f g : Nat → Nat} : ∀ n k, (∀ j, k ≤ j → j < k + n → f j = g j) → vas f k n = vas g k n := by
  intro n
  induction n with
  | zero => exact fun _ _ => rfl
  | succ n ih =>
    intro k h
    rw [vas, vas, h k (Nat.le_refl _) (by omega), ih (k + 1) fun j h1 h2 => h j (by omega) (by omega)]
theorem vas_set (f : Nat → Nat) (x : Nat) : ∀ n k j, j < n → (vas f k n).take (j * 4) ++ (cU x ++ (vas f k n).drop (j * 4 + 4)) = vas (updP f (k + j) x) k n := by
  intro n
  induction n with
  | zero => exact fun k j h => absurd h (Nat.not_lt_zero j)
  | succ n ih =>
    intro k j h
    cases j with
    | zero =>
      have e0 : updP f (k + 0) x = updP f k x := rfl
      rw [e0, vas, vas, updP_at]
      have : vas (updP f k x) (k + 1) n = vas f (k + 1) n := vas_ext n (k + 1) fun j h1 _ => updP_ne _ _ (by omega)
      rw [this]
      rfl
    | succ j =>
      rw [vas, vas, updP_ne _ _ (by omega), show (j + 1) * 4 = j * 4 + 4 by omega, show k + (j + 1) = k + 1 + j by omega]
      have := ih (k + 1) j (by omega)
      rw [← this]
      rfl
abbrev VA (f : Nat → Nat) : Value := .agg (vas f 0 13).toArray
theorem okK_ge {p : Par} {k : Nat} (h : inR (p k) (loK (w64 (p 11)) k) (hiK k) = true) : okK p k = true := h
theorem fi_step {p : Par} {k n : Nat} (h : fi p = fiN (okK p) (n + 1) k) (g : okK p k = true) : fi p = fiN (okK p) n (k + 1) := by rw [h, fiN, if_pos g]
theorem fi_stop {p : Par} {k n : Nat} (h : fi p = fiN (okK p) (n + 1) k) (g : okK p k = false) : fi p = k := by rw [h, fiN, if_neg (by rw [g]; decide)]
theorem inc1 {i : Nat} (h : i < 4611686018427387904) : IntKind.i64.wrap ((i : Int) + 1) = ((i + 1 : Nat) : Int) := by
  rw [show ((i : Int) + 1) = ((i + 1 : Nat) : Int) by omega, wrap_nat (by omega)]
end Go.Proofs.Ytlaapbenpjopiaa

