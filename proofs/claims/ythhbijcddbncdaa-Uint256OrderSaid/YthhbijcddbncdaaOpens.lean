/- How an argument of type []api.Uint256 is read as data: it is nil or a row of numbers below 2^256. No conditions. -/
import Derived.Test.YthhbijcddbncdaaOpen
import Derived.Test.YthhbijcddbncdaaMin
import Derived.Deep.Slices
namespace Go.Proofs.Ythhbijcddbncdaa
open Go.ChangeShapes Go.WideShapes Go.ChangeAt Go.RowKit Go.Deep

theorem spot_none {w : World} {a : Addr} {u : Value} (h : w.cell? a = some u) : a.spot = none := by
  unfold World.cell? at h
  split at h
  · split at h
    · cases h
    · rename_i h2; simpa using h2
  · cases h
theorem add_at {a : Addr} (h : a.spot = none) (i : Nat) : a.add i = ⟨a.block, a.off + i, none⟩ := by
  unfold Addr.add
  split
  · rename_i h0; subst h0; cases a; simp_all
  · rfl

section
variable {H : Type} {enc : TypeId × Value → H} {W : World}
theorem open_cells {b0 n : Nat} {sp : Nat → Bool} {held : Bool} {cs : List Value} {x : DataW H × List MemPlace} (hl : cs.length = 4) (h : DataW.trod enc Try.prog W b0 sp held n 24 cs = some x) :
    ∃ m, m < B256 ∧ cs = [.int .u64 (limb m 0), .int .u64 (limb m 1), .int .u64 (limb m 2), .int .u64 (limb m 3)] := by
  obtain ⟨c0, c1, c2, c3, rfl⟩ := list4 cs hl
  obtain ⟨y0, y1, y2, y3, m, hx, hy0, hy1, hy2, hy3⟩ := trod_array4 Try.underlying24 Try.cellsWord h
  obtain ⟨x0, e0, rfl, w0⟩ := DataW.trod_int Try.underlying22 hy0
  obtain ⟨x1, e1, rfl, w1⟩ := DataW.trod_int Try.underlying22 hy1
  obtain ⟨x2, e2, rfl, w2⟩ := DataW.trod_int Try.underlying22 hy2
  obtain ⟨x3, e3, rfl, w3⟩ := DataW.trod_int Try.underlying22 hy3
  simp at e0 e1 e2 e3
  subst e0 e1 e2 e3
  obtain ⟨k, hk, z0, z1, z2, z3⟩ := exists_limbs (word_of_wf w0).1 (word_of_wf w0).2 (word_of_wf w1).1 (word_of_wf w1).2 (word_of_wf w2).1 (word_of_wf w2).2 (word_of_wf w3).1 (word_of_wf w3).2
  subst z0 z1 z2 z3
  exact ⟨k, hk, rfl⟩

theorem open_Us {r : Reach} {base : Nat} {v : Value} {d : DataW H} {p : List MemPlace} (hv : Value.okWide Try.prog W r base 30 v) (h : DataW.Trod enc Try.prog W 0 (fun _ => true) true 30 v d p) :
    ∃ (A : Option Addr) (len cap : Nat), v = .slice A len cap ∧ (len ≤ 4294967296 → ∃ l : List Nat, l.length = len ∧ Us W (.slice A len cap) l) := by
  obtain ⟨A, len, cap, rfl⟩ := okWide_slice Try.underlying30 hv
  refine ⟨A, len, cap, rfl, fun hle => ?_⟩
  obtain ⟨fuel, hf⟩ := h
  rcases open_slice Try.underlying30 hf with ⟨hcs, _⟩ | ⟨a, len', cap', m, n, D, Pl, hcs, hb, hlc, hcm, hm, _, hi⟩
  · simp [Value.cells] at hcs
    obtain ⟨rfl, rfl, rfl⟩ := hcs
    exact ⟨[], rfl, ⟨none, 0, rfl, by simp, by simp, fun h => absurd h (by simp)⟩⟩
  · simp [Value.cells] at hcs
    obtain ⟨rfl, rfl, rfl⟩ := hcs
    rw [Try.cellsNum] at hi
    have hml : len ≤ m := by rw [hm]; simp; omega
    have key : ∀ i, ∃ x : Nat, i < len → x < B256 ∧ ∀ j, j < 4 → W.cell? ((a.add (i * 4)).add j) = some (.int .u64 (limb x j)) := fun i => by
      by_cases hil : i < len
      · obtain ⟨cs', hc, ht⟩ := hi i (by omega)
        obtain ⟨_, hcl, hat⟩ := World.cells?_some hc
        obtain ⟨x, hx, rfl⟩ := open_cells hcl ht
        refine ⟨x, fun _ => ⟨hx, fun j hj => ?_⟩⟩
        rw [hat j hj]
        match j, hj with
        | 0, _ | 1, _ | 2, _ | 3, _ => rfl
        | j + 4, h => exact absurd h (by omega)
      · exact ⟨0, fun h => absurd h hil⟩
    obtain ⟨f, hf'⟩ := Classical.axiomOfChoice key
    refine ⟨(List.range len).map f, by simp, ⟨some a, cap, by simp, by simpa using hle, ?_, fun hpos => ?_⟩⟩
    · intro x hx
      obtain ⟨i, hi', rfl⟩ := List.mem_map.1 hx
      exact (hf' i (List.mem_range.1 hi')).1
    · have hpos' : 0 < len := by simpa using hpos
      have h0 := (hf' 0 hpos').2 0 (by omega)
      rw [Nat.zero_mul] at h0
      have hsp : a.spot = none := spot_none (a := a) (by simpa [Addr.add] using h0)
      refine ⟨a.block, a.off, by cases a; simp_all, ?_, fun i j hi' hj => ?_⟩
      · have := World.block_lt_of_cell? _ _ h0
        simpa [Addr.add] using this
      · have hi2 : i < len := by simpa using hi'
        have h1 := (hf' i hi2).2 j hj
        rw [add_at hsp, add_at rfl] at h1
        rw [h1]
        simp [hi2]
end

end Go.Proofs.Ythhbijcddbncdaa
