/- Slices of bytes, nil or not: what they hold, how they are read, cut, appended and made into strings. No Go function in this text; no conditions. -/
import Derived.Test.YtlaapbenpjopiaaSxy
import Derived.Laws.IdiomStrings
namespace Go.Proofs.Ytlaapbenpjopiaa
open Go.RowKit Sx
set_option maxRecDepth 100000

/-- Bytes as cells. -/
def bcs (l : List UInt8) : List Value := l.map fun b => .int .u8 (b.toNat : Int)
theorem bcs_length (l : List UInt8) : (bcs l).length = l.length := by simp [bcs]
theorem bcs_append (l m : List UInt8) : bcs l ++ bcs m = bcs (l ++ m) := by simp [bcs]
theorem bcs_get {l : List UInt8} {i : Nat} (h : i < l.length) : (bcs l)[i]? = some (.int .u8 ((l.getD i 0).toNat : Int)) := by
  simp [bcs, h, List.getD]
theorem bcs_one (l : List UInt8) : ∀ u ∈ bcs l, u.oneCell' = true := fun u hu => by
  obtain ⟨_, _, rfl⟩ := List.mem_map.1 hu
  rfl

/-- A slice of bytes, nil or not: where it lies, what it holds, and the memory that shows it. -/
structure Byt where
  o : Option Addr
  n : Nat
  cap : Nat
  l : List UInt8
  L : Facts
  hl : l.length = n
  hc : n ≤ cap
  hs : 0 < n → o.isSome = true
  h : ∀ w, Sx.Holds w L → ∀ i, i < n → w.cell? ((o.getD ⟨0, 0, none⟩).add i) = some (.int .u8 ((l.getD i 0).toNat : Int))
abbrev Byt.v (y : Byt) : Value := .slice y.o y.n y.cap

theorem Byt.idx (y : Byt) {i : Int} (h0 : 0 ≤ i) (h1 : i < y.n) : idxOk y.o i y.n := by
  have := y.hs (by omega)
  cases e : y.o with
  | none => rw [e] at this; cases this
  | some a => exact ⟨h0, h1⟩
theorem Byt.load (y : Byt) {j : Int} (i : Nat) (e : j = i) (hi : i < y.n) {A : Facts} (hA : Sub y.L A) : ∀ w, Sx.Holds w A → (loadVar 5 ((y.o.getD ⟨0, 0, none⟩).add (j.toNat * 1))).run Try.prog w = .ok (.int .u8 ((y.l.getD i 0).toNat : Int)) w := by
  intro w hw
  subst e
  have hc := y.h w (hA.holds hw) i hi
  simp only [Int.toNat_natCast, Nat.mul_one]
  simp only [loadVar, Sem.run_bind, Try.isAgg5, Result.andThen_ok, Bool.false_eq_true, if_false, run_load, hc]

theorem add_add' (a : Addr) (i j : Nat) : (a.add i).add j = a.add (i + j) := by
  unfold Addr.add
  split <;> split <;> simp_all <;> omega

/-- The part from l to h. -/
def Byt.sub (y : Byt) (l h : Nat) (hlh : l ≤ h) (hh : h ≤ y.n) : Byt where
  o := subO y.o y.cap l 1
  n := h - l
  cap := y.cap - l
  l := (y.l.drop l).take (h - l)
  L := y.L
  hl := by simp [y.hl]; omega
  hc := by have := y.hc; omega
  hs := fun h0 => by
    have := y.hs (by omega)
    unfold subO
    split
    · exact this
    · cases e : y.o with
      | none => rw [e] at this; cases this
      | some a => rfl
  h := fun w hw i hi => by
    have h1 := y.h w hw (l + i) (by omega)
    have h2 := y.hs (by omega)
    have h3 := y.hc
    unfold subO
    rw [if_neg (by omega)]
    cases e : y.o with
    | none => rw [e] at h2; cases h2
    | some a =>
      rw [e] at h1
      simp only [Option.getD_some, Option.map_some, Nat.mul_one] at h1 ⊢
      rw [add_add', h1]
      congr 3
      simp [List.getD, List.getElem?_drop, hi]

/-- A buffer that was given away. -/
def Byt.ofFr (c : List Value) (l : List UInt8) (e : c = bcs l) (x : FrX c) : Byt where
  o := frO x
  n := lenB c 1
  cap := frC 1 x
  l := l
  L := frL 5 x
  hl := by subst e; exact (bcs_length l).symm
  hc := by
    cases x with
    | inl q => have := q.1.down; subst this; exact Nat.le_refl _
    | inr q => show c.length ≤ (c.length + q.2.length) / 1; rw [Nat.div_one]; omega
  hs := fun h => by
    cases x with
    | inl q => have := q.1.down; subst this; exact absurd h (by decide)
    | inr q => rfl
  h := fun w hw i hi => by
    cases x with
    | inl q => have := q.1.down; subst this; exact absurd hi (by simp [lenB])
    | inr q =>
      have h1 := hw _ (List.mem_singleton.2 rfl)
      simp only at h1
      have hi' : i < l.length := by rw [← bcs_length, ← e]; exact hi
      simp only [frO, Option.getD_some, add_none, Nat.zero_add]
      simp only [World.cell?, h1]
      rw [List.getElem?_toArray, List.getElem?_append_left (by rw [e, bcs_length]; exact hi'), e]
      exact bcs_get hi'

/-- The string of these bytes. -/
abbrev strOf (l : List UInt8) : ByteArray := ⟨l.toArray⟩
end Go.Proofs.Ytlaapbenpjopiaa

