/- How a slice of numbers and eight bytes by value that came in are read. No Go function in this text; no conditions. -/
import Derived.Test.YteepoeljihbpjaaSxz
import Derived.Test.YteepoeljihbpjaaZ9n
namespace Go.Proofs.Yteepoeljihbpjaa
open Go.ChangeShapes Go.WideShapes Go.ChangeAt Go.RowKit Sx

/-- A slice of integers, nil or not. -/
structure Isz where
  o : Option Addr
  n : Nat
  cap : Nat
  l : List Int
  L : Facts
  hl : l.length = n
  hc : n ≤ cap
  hs : 0 < n → o.isSome = true
  h : ∀ w, Sx.Holds w L → ∀ i, i < n → w.cell? ((o.getD ⟨0, 0, none⟩).add i) = some (.int .i64 (l.getD i 0))
abbrev Isz.v (y : Isz) : Value := .slice y.o y.n y.cap
theorem Isz.idx (y : Isz) {i : Int} (h0 : 0 ≤ i) (h1 : i < y.n) : idxOk y.o i y.n := by
  have := y.hs (by omega)
  cases e : y.o with
  | none => rw [e] at this; cases this
  | some a => exact ⟨h0, h1⟩
theorem Isz.load (y : Isz) {j : Int} (i : Nat) (e : j = i) (hi : i < y.n) {A : Facts} (hA : Sub y.L A) : ∀ w, Sx.Holds w A → (loadVar 3 ((y.o.getD ⟨0, 0, none⟩).add (j.toNat * 1))).run Try.prog w = .ok (.int .i64 (y.l.getD i 0)) w := by
  intro w hw
  subst e
  have hc := y.h w (hA.holds hw) i hi
  simp only [Int.toNat_natCast, Nat.mul_one]
  simp only [loadVar, Sem.run_bind, Try.isAgg3, Result.andThen_ok, Bool.false_eq_true, if_false, run_load, hc]

theorem told_bytes : ∀ (n : Nat) (cs : List Value), Told (List.replicate n (Leaf.i .u8)) cs → ∃ l : Bs, l.length = n ∧ cs = bcs l
  | 0, cs, h => by obtain rfl := told_nil h; exact ⟨[], rfl, rfl⟩
  | n + 1, cs, h => by
    obtain ⟨z, q, rfl, hw, hq⟩ := told_i h
    obtain ⟨l, hl, rfl⟩ := told_bytes n q hq
    have hz := byte_of_wf hw
    refine ⟨UInt8.ofNat z.toNat :: l, by rw [List.length_cons, hl], ?_⟩
    show Value.int .u8 z :: _ = Value.int .u8 ((UInt8.ofNat z.toNat).toNat : Int) :: bcs l
    rw [UInt8.toNat_ofNat']
    congr 2
    omega
section
variable {H : Type} {enc : TypeId × Value → H} {W : World} {base : Nat} {sp : Nat → Bool} {held : Bool}
set_option maxRecDepth 100000 in
set_option maxRecDepth 100000 in
theorem openIz {r : Reach} {b : Nat} {v : Value} {d : DataW H} {p : List MemPlace} (hv : Value.okWide Try.prog W r b 34 v) (h : DataW.Trod enc Try.prog W base sp held 34 v d p) :
    ∃ y : Isz, v = y.v ∧ Sx.Holds W y.L := by
  obtain ⟨A, n, c, rfl⟩ := okWide_slice Try.underlying34 hv
  obtain ⟨fuel, hf⟩ := h
  rcases Deep.open_slice1 Try.underlying34 (by kernel_rfl) hf with ⟨hcs, _⟩ | ⟨a, len, cap, m, k, V, D, Pl, hcs, hb, hlc, hcm, hm, _, hi⟩
  · simp [Value.cells] at hcs
    obtain ⟨rfl, rfl, rfl⟩ := hcs
    exact ⟨⟨none, 0, 0, [], [], rfl, Nat.le_refl _, fun h => absurd h (by decide), fun _ _ i hi => absurd hi (by omega)⟩, rfl, fun _ h => by cases h⟩
  · simp [Value.cells] at hcs
    obtain ⟨rfl, rfl, rfl⟩ := hcs
    have hnm : n ≤ m := by rw [hm]; split <;> omega
    have key : ∀ i, ∃ x : Int, i < n → W.cell? (a.add i) = some (.int .i64 x) := fun i => by
      by_cases hin : i < n
      · obtain ⟨h1, h2⟩ := hi i (by omega)
        obtain ⟨⟨h3, h4⟩, _⟩ := told_leaves 1 _ [.i .i64] (by kernel_rfl) k [V i] (D i, Pl i) h2
        cases hV : V i <;> rw [hV] at h3 h4 <;> simp [fitL] at h3
        rename_i kd z
        subst h3
        exact ⟨z, fun _ => by rw [h1, hV]⟩
      · exact ⟨0, fun h => absurd h hin⟩
    obtain ⟨f, hfk⟩ := Classical.axiomOfChoice key
    by_cases h0 : n = 0
    · subst h0
      exact ⟨⟨some a, 0, c, [], [], rfl, Nat.zero_le _, fun _ => rfl, fun _ _ i hi => by omega⟩, rfl, fun _ h => by cases h⟩
    · have h00 := hfk 0 (by omega)
      have hlt : a.block < W.heap.size := by
        have := World.block_lt_of_cell? W (a.add 0) h00
        rwa [add_block] at this
      refine ⟨⟨some a, n, c, (List.range n).map f, [(a.block, W.heap[a.block])], by simp, by omega, fun _ => rfl, fun w' hw' i hi => ?_⟩, rfl, ?_⟩
      · show w'.cell? (a.add i) = _
        rw [World.cell?_of_block (w := W) (by rw [add_block, hw' _ (List.mem_singleton.2 rfl)]; simp [hlt]), hfk i hi]
        congr 2
        simp [List.getD, hi]
      · intro q hq; simp only [List.mem_singleton] at hq; subst hq; simp [hlt]
end
end Go.Proofs.Yteepoeljihbpjaa

