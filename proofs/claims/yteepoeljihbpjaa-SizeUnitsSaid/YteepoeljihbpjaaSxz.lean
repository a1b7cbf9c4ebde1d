/- How arguments that are slices of bytes or of numbers are read as data, nil or not. No Go function in this text; no conditions. -/
import Derived.Test.YteepoeljihbpjaaW6b
import Derived.Test.YteepoeljihbpjaaSxo
import Derived.Deep.MidRow
namespace Go.Proofs.Yteepoeljihbpjaa
open Go.ChangeShapes Go.WideShapes Go.ChangeAt Go.RowKit Sx

section
variable {H : Type} {enc : TypeId × Value → H} {W : World} {base : Nat} {sp : Nat → Bool} {held : Bool}
set_option maxRecDepth 100000 in
theorem openYB {r : Reach} {b : Nat} {v : Value} {d : DataW H} {p : List MemPlace} (hv : Value.okWide Try.prog W r b 22 v) (h : DataW.Trod enc Try.prog W base sp held 22 v d p) :
    ∃ y : Byt, v = y.v ∧ Sx.Holds W y.L := by
  obtain ⟨A, n, c, rfl⟩ := okWide_slice Try.underlying22 hv
  obtain ⟨fuel, hf⟩ := h
  rcases Deep.open_slice1 Try.underlying22 (by kernel_rfl) hf with ⟨hcs, _⟩ | ⟨a, len, cap, m, k, V, D, Pl, hcs, hb, hlc, hcm, hm, _, hi⟩
  · simp [Value.cells] at hcs
    obtain ⟨rfl, rfl, rfl⟩ := hcs
    exact ⟨Byt.nil, rfl, fun _ h => by cases h⟩
  · simp [Value.cells] at hcs
    obtain ⟨rfl, rfl, rfl⟩ := hcs
    have hnm : n ≤ m := by rw [hm]; split <;> omega
    have key : ∀ i, ∃ x : UInt8, i < n → W.cell? (a.add i) = some (.int .u8 (x.toNat : Int)) := fun i => by
      by_cases hin : i < n
      · obtain ⟨h1, h2⟩ := hi i (by omega)
        obtain ⟨⟨h3, h4⟩, _⟩ := told_leaves 1 _ [.i .u8] (by kernel_rfl) k [V i] (D i, Pl i) h2
        cases hV : V i <;> rw [hV] at h3 h4 <;> simp [fitL] at h3
        rename_i kd z
        subst h3
        have hz := byte_of_wf (h4 (.int .u8 z) (by simp))
        refine ⟨UInt8.ofNat z.toNat, fun _ => ?_⟩
        rw [h1, hV, UInt8.toNat_ofNat']
        congr 2
        omega
      · exact ⟨0, fun h => absurd h hin⟩
    obtain ⟨f, hfk⟩ := Classical.axiomOfChoice key
    by_cases h0 : n = 0
    · subst h0
      exact ⟨⟨some a, 0, c, [], [], rfl, Nat.zero_le _, fun _ => rfl, fun _ _ i hi => by omega⟩, rfl, fun _ h => by cases h⟩
    · have h00 := hfk 0 (by omega)
      have hlt : a.block < W.heap.size := by
        have := World.block_lt_of_cell? W (a.add 0) h00
        rwa [add_block] at this
      refine ⟨⟨some a, n, c, (List.range n).map f, [(a.block, W.heap[a.block])], by simp, by omega, fun _ => rfl, fun w' hw' i hi => ?_⟩, rfl, ?_⟩
      · show w'.cell? (a.add i) = _
        rw [World.cell?_of_block (w := W) (by rw [add_block, hw' _ (List.mem_singleton.2 rfl)]; simp [hlt]), hfk i hi]
        congr 3
        simp [List.getD, hi]
      · intro q hq; simp only [List.mem_singleton] at hq; subst hq; simp [hlt]
end

/-- A slice of numbers, nil or not: where it lies, what it holds, and the memory that shows it. -/
structure Uss where
  o : Option Addr
  n : Nat
  cap : Nat
  l : List Nat
  L : Facts
  hl : l.length = n
  hs : 0 < n → o.isSome = true
  hb : ∀ i, l.getD i 0 < B256
  h : ∀ w, Sx.Holds w L → ∀ i, i < n → ∃ b k, (o.getD ⟨0, 0, none⟩).add (i * 4) = ⟨b, k, none⟩ ∧ World.rangeAt w b k (cU (l.getD i 0))
abbrev Uss.v (y : Uss) : Value := .slice y.o y.n y.cap
theorem Uss.idx (y : Uss) {i : Int} (h0 : 0 ≤ i) (h1 : i < y.n) : idxOk y.o i y.n := by
  have := y.hs (by omega)
  cases e : y.o with
  | none => rw [e] at this; cases this
  | some a => exact ⟨h0, h1⟩
theorem Uss.load (y : Uss) {j : Int} (i : Nat) (e : j = i) (hi : i < y.n) {A : Facts} (hA : Sub y.L A) : ∀ w, Sx.Holds w A → (loadVar 30 ((y.o.getD ⟨0, 0, none⟩).add (j.toNat * 4))).run Try.prog w = .ok (U (y.l.getD i 0)) w := by
  intro w hw
  subst e
  obtain ⟨b, k, h1, h2⟩ := y.h w (hA.holds hw) i hi
  rw [Int.toNat_natCast, h1]
  exact run_loadVar_mid w b k _ _ _ h2 Try.underlying30 rfl (by kernel_rfl)
theorem add_off {a : Addr} (h : a.spot = none) (i : Nat) : a.add i = ⟨a.block, a.off + i, none⟩ := by
  unfold Addr.add
  split
  · rename_i h0; subst h0; cases a; simp_all
  · rfl
theorem spot_of_cell {w : World} {a : Addr} {u : Value} (h : w.cell? a = some u) : a.spot = none := by
  unfold World.cell? at h
  split at h
  · split at h
    · cases h
    · rename_i h2; simpa using h2
  · cases h
section
variable {H : Type} {enc : TypeId × Value → H} {W : World} {base : Nat} {sp : Nat → Bool} {held : Bool}
end
end Go.Proofs.Yteepoeljihbpjaa

