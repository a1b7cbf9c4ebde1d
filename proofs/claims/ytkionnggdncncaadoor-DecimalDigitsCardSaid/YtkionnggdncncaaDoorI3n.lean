/- Plain arithmetic of signed numbers as pairs of a sign and a magnitude below 2^256. No Go function in this text; no conditions. -/
import Derived.Test.YtkionnggdncncaaDoorSxr
namespace Go.Proofs.YtkionnggdncncaaDoor
open Go.RowKit Sx

/-- The number that a pair stands for. -/
def sgn (s : Bool) (n : Nat) : Int := if s then -(n : Int) else n
/-- A pair is valid: zero has no sign. -/
def val (s : Bool) (n : Nat) : Bool := !(s && decide (n = 0))
def ckS (s : Bool) (n : Nat) : Bool := if n < B256 then s else false
/-- Sign, magnitude and code of a result: of an operation on valid pairs whose outcome is z, else of an invalid argument. -/
def resS (v : Bool) (z : Int) : Bool := v && ckS (decide (z < 0)) z.natAbs
def resN (v : Bool) (z : Int) : Nat := if v then chkR z.natAbs else 0
def resE (v : Bool) (z : Int) : Int := if v then chkE z.natAbs else 2
abbrev resV (v : Bool) (z : Int) : Value := .tuple #[Ic (resS v z) (resN v z), .int .i64 (resE v z)]

theorem resN_lt (v : Bool) (z : Int) : resN v z < B256 := by unfold resN; split; exact chkR_lt _; exact B256_pos
theorem Ic_zero : Ic false 0 = .agg #[.bool false, .int .u64 0, .int .u64 0, .int .u64 0, .int .u64 0] := by
  obtain ⟨h0, h1, h2, h3⟩ := limb_zero
  rw [Ic, h0, h1, h2, h3]
theorem U0 : U 0 = .agg #[.int .u64 0, .int .u64 0, .int .u64 0, .int .u64 0] := U_zero

theorem cellsEq_U {a b : Nat} (ha : a < B256) (hb : b < B256) : cellsEq [.int .u64 (limb a 0), .int .u64 (limb a 1), .int .u64 (limb a 2), .int .u64 (limb a 3)] [.int .u64 (limb b 0), .int .u64 (limb b 1), .int .u64 (limb b 2), .int .u64 (limb b 3)] = decide (a = b) := by
  simp only [cellsEq, cellEq, Bool.and_true]
  by_cases h : a = b
  · subst h; simp
  · rw [decide_eq_false h]
    cases e : (limb a 0 == limb b 0 && (limb a 1 == limb b 1 && (limb a 2 == limb b 2 && limb a 3 == limb b 3))) with
    | false => rfl
    | true =>
      simp at e
      exact absurd (limb_inj ha hb e.1 e.2.1 e.2.2.1 e.2.2.2) h
theorem isz_eq {n : Nat} (hn : n < B256) : isz n = decide (n = 0) := by
  have := cellsEq_U hn (b := 0) B256_pos
  obtain ⟨h0, h1, h2, h3⟩ := limb_zero
  rwa [h0, h1, h2, h3] at this
theorem cellsEq_I {s t : Bool} {a b : Nat} (ha : a < B256) (hb : b < B256) : cellsEq [.bool s, .int .u64 (limb a 0), .int .u64 (limb a 1), .int .u64 (limb a 2), .int .u64 (limb a 3)] [.bool t, .int .u64 (limb b 0), .int .u64 (limb b 1), .int .u64 (limb b 2), .int .u64 (limb b 3)] = (s == t && decide (a = b)) := by
  rw [← cellsEq_U ha hb]; rfl
theorem cellEq_refl_int (k : IntKind) (a : Int) : cellEq (.int k a) (.int k a) = true := by simp [cellEq]
theorem cellsEq_Irefl (s : Bool) (a : Nat) : cellsEq [.bool s, .int .u64 (limb a 0), .int .u64 (limb a 1), .int .u64 (limb a 2), .int .u64 (limb a 3)] [.bool s, .int .u64 (limb a 0), .int .u64 (limb a 1), .int .u64 (limb a 2), .int .u64 (limb a 3)] = true := by
  simp [cellsEq, cellEq]
theorem cellsEq_Urefl (a : Nat) : cellsEq [.int .u64 (limb a 0), .int .u64 (limb a 1), .int .u64 (limb a 2), .int .u64 (limb a 3)] [.int .u64 (limb a 0), .int .u64 (limb a 1), .int .u64 (limb a 2), .int .u64 (limb a 3)] = true := by
  simp [cellsEq, cellEq]

theorem nd_pos {n : Nat} : decide ((nd n : Int) > 0) = decide (n ≠ 0) := by
  by_cases h : n = 0
  · subst h; rw [nd_zero]; simp
  · have : nd n ≠ 0 := fun e => by have := nd_lt n; rw [e] at this; omega
    simp [h]; omega
theorem sgn_false (n : Nat) : sgn false n = n := rfl
theorem sgn_true (n : Nat) : sgn true n = -(n : Int) := rfl
theorem sgn_abs (s : Bool) (n : Nat) : (sgn s n).natAbs = n := by cases s <;> simp [sgn]
theorem val_false (n : Nat) : val false n = true := rfl
theorem val_true (n : Nat) : val true n = decide (n ≠ 0) := by simp [val]
theorem sgn_neg (s : Bool) (n : Nat) : sgn (!s) n = - sgn s n := by cases s <;> simp [sgn]
/-- The sign of a valid pair. -/
theorem sgn_lt {s : Bool} {n : Nat} (h : val s n = true) : decide (sgn s n < 0) = s := by
  cases s
  · simp [sgn]
  · rw [val_true] at h; simp [sgn] at h ⊢; omega
end Go.Proofs.YtkionnggdncncaaDoor

