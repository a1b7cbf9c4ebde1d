/- How arguments that are slices of bytes or of numbers are read as data, nil or not. No Go function in this text; no conditions. -/
import Derived.Test.YtlaapbenpjopiaaW6b
import Derived.Test.YtlaapbenpjopiaaSxo
import Derived.Deep.MidRow
namespace Go.Proofs.Ytlaapbenpjopiaa
open Go.ChangeShapes Go.WideShapes Go.ChangeAt Go.RowKit Sx

section
variable {H : Type} {enc : TypeId × Value → H} {W : World} {base : Nat} {sp : Nat → Bool} {held : Bool}
end

/-- A slice of numbers, nil or not: where it lies, what it holds, and the memory that shows it. -/
structure Uss where
  o : Option Addr
  n : Nat
  cap : Nat
  l : List Nat
  L : Facts
  hl : l.length = n
  hs : 0 < n → o.isSome = true
  hb : ∀ i, l.getD i 0 < B256
  h : ∀ w, Sx.Holds w L → ∀ i, i < n → ∃ b k, (o.getD ⟨0, 0, none⟩).add (i * 4) = ⟨b, k, none⟩ ∧ World.rangeAt w b k (cU (l.getD i 0))
abbrev Uss.v (y : Uss) : Value := .slice y.o y.n y.cap
theorem Uss.idx (y : Uss) {i : Int} (h0 : 0 ≤ i) (h1 : i < y.n) : idxOk y.o i y.n := by
  have := y.hs (by omega)
  cases e : y.o with
  | none => rw [e] at this; cases this
  | some a => exact ⟨h0, h1⟩
theorem Uss.load (y : Uss) {j : Int} (i : Nat) (e : j = i) (hi : i < y.n) {A : Facts} (hA : Sub y.L A) : ∀ w, Sx.Holds w A → (loadVar 24 ((y.o.getD ⟨0, 0, none⟩).add (j.toNat * 4))).run Try.prog w = .ok (U (y.l.getD i 0)) w := by
  intro w hw
  subst e
  obtain ⟨b, k, h1, h2⟩ := y.h w (hA.holds hw) i hi
  rw [Int.toNat_natCast, h1]
  exact run_loadVar_mid w b k _ _ _ h2 Try.underlying24 rfl (by kernel_rfl)
theorem add_off {a : Addr} (h : a.spot = none) (i : Nat) : a.add i = ⟨a.block, a.off + i, none⟩ := by
  unfold Addr.add
  split
  · rename_i h0; subst h0; cases a; simp_all
  · rfl
theorem spot_of_cell {w : World} {a : Addr} {u : Value} (h : w.cell? a = some u) : a.spot = none := by
  unfold World.cell? at h
  split at h
  · split at h
    · cases h
    · rename_i h2; simpa using h2
  · cases h
section
variable {H : Type} {enc : TypeId × Value → H} {W : World} {base : Nat} {sp : Nat → Bool} {held : Bool}
end
end Go.Proofs.Ytlaapbenpjopiaa

