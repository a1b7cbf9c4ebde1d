/- How arguments that are slices of bytes or of numbers are read as data, nil or not. No Go function in this text; no conditions. -/
import Derived.Test.YtkibbcomfjhgpaaDoorW6b
import Derived.Test.YtkibbcomfjhgpaaDoorSxo
import Derived.Deep.MidRow
namespace Go.Proofs.YtkibbcomfjhgpaaDoor
open Go.ChangeShapes Go.WideShapes Go.ChangeAt Go.RowKit Sx

section
variable {H : Type} {enc : TypeId × Value → H} {W : World} {base : Nat} {sp : Nat → Bool} {held : Bool}
end

/-- A slice of numbers, nil or not: where it lies, what it holds, and the memory that shows it. -/
structure Uss where
  o : Option Addr
  n : Nat
  cap : Nat
  l : List Nat
  L : Facts
  hl : l.length = n
  hs : 0 < n → o.isSome = true
  hb : ∀ i, l.getD i 0 < B256
  h : ∀ w, Sx.Holds w L → ∀ i, i < n → ∃ b k, (o.getD ⟨0, 0, none⟩).add (i * 4) = ⟨b, k, none⟩ ∧ World.rangeAt w b k (cU (l.getD i 0))
abbrev Uss.v (y : Uss) : Value := .slice y.o y.n y.cap
theorem Uss.idx (y : Uss) {i : Int} (h0 : 0 ≤ i) (h1 : i < y.n) : idxOk y.o i y.n := by
  have := y.hs (by omega)
  cases e : y.o with
  | none => rw [e] at this; cases this
  | some a => exact ⟨h0, h1⟩
theorem Uss.load (y : Uss) {j : Int} (i : Nat) (e : j = i) (hi : i < y.n) {A : Facts} (hA : Sub y.L A) : ∀ w, Sx.Holds w A → (loadVar 31 ((y.o.getD ⟨0, 0, none⟩).add (j.toNat * 4))).run Tryd.prog w = .ok (U (y.l.getD i 0)) w := by
  intro w hw
  subst e
  obtain ⟨b, k, h1, h2⟩ := y.h w (hA.holds hw) i hi
  rw [Int.toNat_natCast, h1]
  exact run_loadVar_mid w b k _ _ _ h2 Tryd.underlying31 rfl (by kernel_rfl)
theorem add_off {a : Addr} (h : a.spot = none) (i : Nat) : a.add i = ⟨a.block, a.off + i, none⟩ := by
  unfold Addr.add
  split
  · rename_i h0; subst h0; cases a; simp_all
  · rfl
theorem spot_of_cell {w : World} {a : Addr} {u : Value} (h : w.cell? a = some u) : a.spot = none := by
  unfold World.cell? at h
  split at h
  · split at h
    · cases h
    · rename_i h2; simpa using h2
  · cases h
section
variable {H : Type} {enc : TypeId × Value → H} {W : World} {base : Nat} {sp : Nat → Bool} {held : Bool}
set_option maxRecDepth 100000 in
theorem openUs {r : Reach} {b : Nat} {v : Value} {d : DataW H} {p : List MemPlace} (hv : Value.okWide Tryd.prog W r b 95 v) (h : DataW.Trod enc Tryd.prog W base sp held 95 v d p) :
    ∃ y : Uss, v = y.v ∧ Sx.Holds W y.L := by
  obtain ⟨A, n, c, rfl⟩ := okWide_slice Tryd.underlying95 hv
  obtain ⟨fuel, hf⟩ := h
  have h4 : Tryd.prog.cellsOf 31 = 4 := by kernel_rfl
  rcases Deep.open_slice Tryd.underlying95 hf with ⟨hcs, _⟩ | ⟨a, len, cap, m, k, D, Pl, hcs, hb, hlc, hcm, hm, _, hi⟩
  · simp [Value.cells] at hcs
    obtain ⟨rfl, rfl, rfl⟩ := hcs
    exact ⟨⟨none, 0, 0, [], [], rfl, fun h => absurd h (by omega), fun _ => B256_pos, fun _ _ i hi => by omega⟩, rfl, fun _ h => by cases h⟩
  · simp [Value.cells] at hcs
    obtain ⟨rfl, rfl, rfl⟩ := hcs
    rw [h4] at hi
    have hnm : n ≤ m := by rw [hm]; split <;> omega
    have key : ∀ i, ∃ x : Nat, x < B256 ∧ (i < n → ∀ j u, (cU x)[j]? = some u → W.cell? ((a.add (i * 4)).add j) = some u) := fun i => by
      by_cases hin : i < n
      · obtain ⟨cs', h1, h2⟩ := hi i (by omega)
        obtain ⟨_, hcl, hat⟩ := World.cells?_some h1
        obtain ⟨ht, _⟩ := told_leaves 3 _ _ lvU_ok _ cs' _ h2
        obtain ⟨x, q, hx, rfl, hq⟩ := told_u ht
        obtain rfl := told_nil hq
        refine ⟨x, hx, fun _ j u hj => ?_⟩
        have hj4 : j < 4 := (List.getElem?_eq_some_iff.1 hj).1
        rw [hat j hj4]
        exact hj
      · exact ⟨0, B256_pos, fun h => absurd h hin⟩
    obtain ⟨f, hfk⟩ := Classical.axiomOfChoice key
    have hbd : ∀ i, ((List.range n).map f).getD i 0 < B256 := fun i => by
      by_cases hin : i < n
      · have e : ((List.range n).map f).getD i 0 = f i := by simp [List.getD, hin]
        rw [e]; exact (hfk i).1
      · have e : ((List.range n).map f).getD i 0 = 0 := by simp [List.getD, hin]
        rw [e]; exact B256_pos
    by_cases h0 : n = 0
    · subst h0
      exact ⟨⟨some a, 0, c, [], [], rfl, fun _ => rfl, fun _ => B256_pos, fun _ _ i hi => by omega⟩, rfl, fun _ h => by cases h⟩
    · have h00 : W.cell? ((a.add (0 * 4)).add 0) = some (.int .u64 (limb (f 0) 0)) := (hfk 0).2 (by omega) 0 _ rfl
      have hsp : a.spot = none := by
        have := spot_of_cell h00
        rw [Nat.zero_mul] at this
        simpa [Addr.add] using this
      have hlt : a.block < W.heap.size := by
        have := World.block_lt_of_cell? W _ h00
        rwa [add_block, add_block] at this
      refine ⟨⟨some a, n, c, (List.range n).map f, [(a.block, W.heap[a.block])], by simp, fun _ => rfl, hbd, fun w' hw' i hi => ⟨a.block, a.off + i * 4, ?_, fun j u hj => ?_⟩⟩, rfl, ?_⟩
      · exact add_off hsp _
      · have e : ((List.range n).map f).getD i 0 = f i := by simp [List.getD, hi]
        rw [e] at hj
        have := (hfk i).2 hi j u hj
        rw [add_off hsp, add_off rfl] at this
        rw [World.cell?_of_block (w := W) (by show w'.heap[a.block]? = _; rw [hw' _ (List.mem_singleton.2 rfl)]; simp [hlt])]
        exact this
      · intro q hq; simp only [List.mem_singleton] at hq; subst hq; simp [hlt]
end
end Go.Proofs.YtkibbcomfjhgpaaDoor

