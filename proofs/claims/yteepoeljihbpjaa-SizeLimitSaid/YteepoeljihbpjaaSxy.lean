/- Slices of bytes that came in: what they hold, how they are read. No Go function in this text; no conditions. -/
import Derived.Test.YteepoeljihbpjaaSxo
import Derived.Test.YteepoeljihbpjaaMx
import Derived.Deep.Slices
namespace Go.Proofs.Yteepoeljihbpjaa
open Go.ChangeShapes Go.WideShapes Go.ChangeAt Go.RowKit Sx

/-- A slice of bytes: where it lies, what it holds, and the memory that shows it. -/
structure BytX where
  a : Addr
  cap : Nat
  l : List UInt8
  L : Facts
  h : ∀ w, Sx.Holds w L → ∀ i, i < l.length → w.cell? (a.add i) = some (.int .u8 ((l.getD i 0).toNat : Int))
abbrev BytX.v (y : BytX) : Value := .slice (some y.a) y.l.length y.cap
theorem BytX.load (y : BytX) (i : Nat) (hi : i < y.l.length) {A : Facts} (hA : Sub y.L A) : ∀ w, Sx.Holds w A → (loadVar 5 (y.a.add ((i : Int).toNat * 1))).run Try.prog w = .ok (.int .u8 ((y.l.getD i 0).toNat : Int)) w := by
  intro w hw
  have hc := y.h w (hA.holds hw) i hi
  simp only [Int.toNat_natCast, Nat.mul_one]
  simp only [loadVar, Sem.run_bind, Try.isAgg5, Result.andThen_ok, Bool.false_eq_true, if_false, run_load, hc]
theorem add_block (a : Addr) (i : Nat) : (a.add i).block = a.block := by unfold Addr.add; split <;> rfl
section
variable {H : Type} {enc : TypeId × Value → H} {W : World} {base : Nat} {sp : Nat → Bool} {held : Bool}
theorem byte_of_wf {x : Int} (h : (Lit.int .u8 x).wf = true) : 0 ≤ x ∧ x < 256 := by
  simp only [Lit.wf, IntKind.min, IntKind.max, IntKind.bits, IntKind.signed] at h
  simp at h
  omega
set_option maxRecDepth 100000 in
theorem openY {r : Reach} {b : Nat} {v : Value} {d : DataW H} {p : List MemPlace} (hv : Value.okWide Try.prog W r b 22 v) (h : DataW.Trod enc Try.prog W base sp held 22 v d p) :
    ∃ (A : Option Addr) (n c : Nat), v = .slice A n c ∧ ((A = none ∧ n = 0 ∧ c = 0) ∨ ∃ y : BytX, v = y.v ∧ Sx.Holds W y.L) := by
  obtain ⟨A, n, c, rfl⟩ := okWide_slice Try.underlying22 hv
  refine ⟨A, n, c, rfl, ?_⟩
  obtain ⟨fuel, hf⟩ := h
  rcases Deep.open_slice1 Try.underlying22 (by kernel_rfl) hf with ⟨hcs, _⟩ | ⟨a, len, cap, m, k, V, D, Pl, hcs, hb, hlc, hcm, hm, _, hi⟩
  · simp [Value.cells] at hcs
    exact .inl hcs
  · simp [Value.cells] at hcs
    obtain ⟨rfl, rfl, rfl⟩ := hcs
    right
    have hnm : n ≤ m := by rw [hm]; split <;> omega
    have key : ∀ i, ∃ x : UInt8, i < n → W.cell? (a.add i) = some (.int .u8 (x.toNat : Int)) := fun i => by
      by_cases hin : i < n
      · obtain ⟨h1, h2⟩ := hi i (by omega)
        obtain ⟨⟨h3, h4⟩, _⟩ := told_leaves 1 _ [.i .u8] (by kernel_rfl) k [V i] (D i, Pl i) h2
        cases hV : V i <;> rw [hV] at h3 h4 <;> simp [fitL] at h3
        rename_i kd z
        subst h3
        have hz := byte_of_wf (h4 (.int .u8 z) (by simp))
        refine ⟨UInt8.ofNat z.toNat, fun _ => ?_⟩
        rw [h1, hV, UInt8.toNat_ofNat']
        congr 2
        omega
      · exact ⟨0, fun h => absurd h hin⟩
    obtain ⟨f, hfk⟩ := Classical.axiomOfChoice key
    by_cases h0 : n = 0
    · subst h0
      exact ⟨⟨a, c, [], [], fun _ _ i hi => by simp at hi⟩, rfl, fun _ h => by cases h⟩
    · have h00 := hfk 0 (by omega)
      have hlt : a.block < W.heap.size := by
        have := World.block_lt_of_cell? W (a.add 0) h00
        rwa [add_block] at this
      refine ⟨⟨a, c, (List.range n).map f, [(a.block, W.heap[a.block])], fun w' hw' i hi => ?_⟩, ?_, ?_⟩
      · have hi' : i < n := by simpa using hi
        rw [World.cell?_of_block (w := W) (by rw [add_block, hw' _ (List.mem_singleton.2 rfl)]; simp [hlt]), hfk i hi']
        congr 3
        simp [List.getD, hi']
      · simp [BytX.v]
      · intro q hq; simp only [List.mem_singleton] at hq; subst hq; simp [hlt]
end
end Go.Proofs.Yteepoeljihbpjaa

