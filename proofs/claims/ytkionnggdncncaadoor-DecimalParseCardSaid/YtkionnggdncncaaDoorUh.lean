/- Small facts for the walks of this seat: what a call that keeps old memory leaves, calls inside regions that only read, and the comparison of two numbers. -/
import Derived.Test.YtkionnggdncncaaDoorRows
import Derived.Test.YtkionnggdncncaaDoorNum
import Derived.WalkKit
import Derived.WalkSpells
import Derived.WalkLawsBesides
import Derived.Handy
import Derived.Laws.Externs
import Derived.Shelf.Spec.BitsCarry
import Derived.Laws.Pointers
import Derived.StillTactics
import Derived.Deep.RegionHeld3
import Derived.Deep.QuietTactic
import Derived.BigQuiet
import Derived.RowKit3
import Derived.Laws.Rows
import Derived.Laws.OwnMore
import Derived.Deep.Draws
import Derived.ChangeKeysEq
import Derived.Lib.Hide
namespace Go.Proofs.YtkionnggdncncaaDoor
open Go.RowKit

theorem belowN {B n : Nat} {a w : World} (h : Below B a w) : Below B a (w.drewN n) := ⟨h.os, h.tape, h.output, h.size, h.block⟩
/-- What lay below reads as it did: cells and marks. -/
theorem oldCells {W w1 : World} (hb : Below W.heap.size W w1) : ∀ b o, b < W.heap.size → w1.cell? ⟨b, o, none⟩ = W.cell? ⟨b, o, none⟩ := fun b o h => hb.cell (p := ⟨b, o, none⟩) h
theorem oldMarks {W w1 : World} (hb : Below W.heap.size W w1) : ∀ b o, b < W.heap.size → w1.frozen? ⟨b, o, none⟩ = W.frozen? ⟨b, o, none⟩ := fun b o h => hb.frozen (p := ⟨b, o, none⟩) h
/-- A block that was made just before a call that keeps what was there: its cells, its marks, its number. -/
theorem keepNew {W w2 : World} {c : Array Value} {t : TypeId} (hb : Below (W.alloc (.cells c t)).heap.size (W.alloc (.cells c t)) w2) :
    (∀ k, w2.cell? ⟨W.heap.size, k, none⟩ = c[k]?) ∧ (∀ k, w2.frozen? ⟨W.heap.size, k, none⟩ = false) ∧ W.heap.size < w2.heap.size := by
  have hs := hb.size
  rw [World.size_alloc] at hs
  refine ⟨fun k => ?_, fun k => ?_, by omega⟩
  · rw [hb.cell (p := ⟨W.heap.size, k, none⟩) (by rw [World.size_alloc]; exact Nat.lt_succ_self _)]
    exact cell_of_row _ W.heap.size k c t (0, 0) (heap_alloc_new W _)
  · rw [hb.frozen (p := ⟨W.heap.size, k, none⟩) (by rw [World.size_alloc]; exact Nat.lt_succ_self _)]
    have h := heap_alloc_new W (.cells c t)
    unfold World.frozen?
    simp only [h]
    simp
/-- One call behind another. -/
theorem chain {B : Nat} {w w1 w2 : World} (h : Below B w w1) (k : Below w1.heap.size w1 w2) (hB : B ≤ w.heap.size := by first | exact Nat.le_refl _ | (simp; done)) : Below B w w2 := h.trans (k.mono (Nat.le_trans hB h.size))
/-- Block g holds just these cells, none of them marked. -/
def Res (g : Nat) (t : TypeId) (c : Array Value) (w : World) : Prop := w.heap[g]? = some (.cells c t (0, 0))
theorem Res.keep {g : Nat} {t : TypeId} {c : Array Value} {w w2 : World} (h : Res g t c w) (hb : Below w.heap.size w w2) : Res g t c w2 := by
  have hg : g < w.heap.size := by
    rcases Nat.lt_or_ge g w.heap.size with h1 | h1
    · exact h1
    · unfold Res at h; rw [Array.getElem?_eq_none h1] at h; cases h
  exact (hb.block g hg).trans h
theorem Res.cells {g : Nat} {t : TypeId} {c : Array Value} {w : World} (h : Res g t c w) : ∀ k, w.cell? ⟨g, k, none⟩ = c[k]? := fun k => cell_of_row w g k c t (0, 0) h
theorem Res.marks {g : Nat} {t : TypeId} {c : Array Value} {w : World} (h : Res g t c w) : ∀ k, w.frozen? ⟨g, k, none⟩ = false := fun k => by
  unfold Res at h
  unfold World.frozen?
  simp only [h]
  simp
theorem Res.lt {g : Nat} {t : TypeId} {c : Array Value} {w : World} (h : Res g t c w) : g < w.heap.size := by
  rcases Nat.lt_or_ge g w.heap.size with h1 | h1
  · exact h1
  · unfold Res at h; rw [Array.getElem?_eq_none h1] at h; cases h
theorem Res.drew {g : Nat} {t : TypeId} {c : Array Value} {w : World} (h : Res g t c w) : Res g t c w.drew := h
theorem Res.new (w : World) (t : TypeId) (c : Array Value) : Res w.heap.size t c (w.alloc (.cells c t)) := heap_alloc_new w _
theorem Res.alloc {g : Nat} {t : TypeId} {c : Array Value} {w : World} (h : Res g t c w) (o : Obj) : Res g t c (w.alloc o) := (Below.heap_alloc w o g h.lt).trans h
/-- The four words of a number. -/
abbrev arr (n : Nat) : Array Value := #[.int .u64 (limb n 0), .int .u64 (limb n 1), .int .u64 (limb n 2), .int .u64 (limb n 3)]
/-- A cell of another block behind the store of a number. -/
theorem far4 {w2 : World} {g : Nat} {x0 x1 x2 x3 : Value} {p : Addr} {u : Value} (h : w2.cell? p = some u) (hp : g ≠ p.block) :
    ((((w2.setCell ⟨g, 0, none⟩ x0).setCell ⟨g, 1, none⟩ x1).setCell ⟨g, 2, none⟩ x2).setCell ⟨g, 3, none⟩ x3).cell? p = some u := by
  rw [World.cell?_setCell_far _ ⟨g, 3, none⟩ _ _ hp, World.cell?_setCell_far _ ⟨g, 2, none⟩ _ _ hp, World.cell?_setCell_far _ ⟨g, 1, none⟩ _ _ hp, World.cell?_setCell_far _ ⟨g, 0, none⟩ _ _ hp]
  exact h
/-- A callee that leaves the world alone, at a call inside a region whose operations only read. -/
theorem quietL {P : Program} {f : FuncId} {args : Array Value} {w : World} {n : Nat} {v : Value}
    (h : Calls P f args (w.drewN n) fun e w' => e = .returned v ∧ w.drewN n = w') : Calls P f args (w.drewN n) fun e w' => e = .returned v ∧ ∃ m, w' = w.drewN m :=
  h.mono fun _ _ h => ⟨h.1, n, h.2.symm⟩
/-- The same where draws have gone before. -/
theorem quietA {P : Program} {f : FuncId} {args : Array Value} {w : World} {a n : Nat} {v : Value}
    (h : Calls P f args (w.drewN (a + n)) fun e w' => e = .returned v ∧ w.drewN (a + n) = w') : Calls P f args (w.drewN (a + n)) fun e w' => e = .returned v ∧ ∃ m, w' = w.drewN (a + m) :=
  h.mono fun _ _ h => ⟨h.1, n, h.2.symm⟩

/-! ### Two numbers compared -/
theorem eqStep (xs ys : Array Value) (i : Nat) (is : List Nat) (a b : Int) (h1 : xs[i]? = some (.int .u64 a)) (h2 : ys[i]? = some (.int .u64 b)) (w : World) :
    (Op.eqItems 9999 22 1 xs ys (i :: is)).run Tryd.prog w = if a == b then (Op.eqItems 9999 22 1 xs ys is).run Tryd.prog w else .ok false w := by
  have p : ∀ (l : Array Value) (k : Nat) (x : Int) (w : World), l[k]? = some (.int .u64 x) → (part 22 l k).run Tryd.prog w = .ok (.int .u64 x) w := by
    intro l k x w h
    simp [part, Tryd.isAgg22, h]
  have q : ∀ (a b : Int) (w : World), (Op.equalIn 9999 22 (.int .u64 a) (.int .u64 b)).run Tryd.prog w = .ok (a == b) w := fun a b w => run_equalIn_int w 9998 22 .u64 .u64 a b Tryd.underlying22
  simp only [Op.eqItems, Sem.run_bind, Nat.mul_one, p _ _ _ _ h1, p _ _ _ _ h2, q, Result.andThen_ok]
  cases (a == b) <;> simp
theorem eq4_run (x0 x1 x2 x3 y0 y1 y2 y3 : Int) (w : World) :
    (Op.equalIn 10000 24 (.agg #[.int .u64 x0, .int .u64 x1, .int .u64 x2, .int .u64 x3]) (.agg #[.int .u64 y0, .int .u64 y1, .int .u64 y2, .int .u64 y3])).run Tryd.prog w = .ok (x0 == y0 && x1 == y1 && x2 == y2 && x3 == y3) w := by
  have hi : Tryd.prog.info? 22 = some Tryd.t22 := by kernel_rfl
  have hc : Tryd.prog.cellsOf 22 = 1 := by kernel_rfl
  rw [run_equalIn_array w 9999 _ _ Tryd.underlying24 hi, hc, show List.range 4 = [0, 1, 2, 3] from rfl]
  rw [eqStep _ _ 0 _ x0 y0 rfl rfl, eqStep _ _ 1 _ x1 y1 rfl rfl, eqStep _ _ 2 _ x2 y2 rfl rfl, eqStep _ _ 3 _ x3 y3 rfl rfl]
  simp only [Op.eqItems, Sem.run_pure]
  cases (x0 == y0) <;> cases (x1 == y1) <;> cases (x2 == y2) <;> cases (x3 == y3) <;> rfl
theorem eqU_run (a b : Nat) (ha : a < B256) (hb : b < B256) (w : World) : (Op.equalIn 10000 24 (U a) (U b)).run Tryd.prog w = .ok (decide (a = b)) w := by
  rw [eq4_run]
  congr 1
  by_cases h : a = b
  · subst h; simp
  · rw [decide_eq_false h]
    cases e : (limb a 0 == limb b 0 && limb a 1 == limb b 1 && limb a 2 == limb b 2 && limb a 3 == limb b 3)
    · rfl
    · simp at e
      exact absurd (limb_inj ha hb e.1.1.1 e.1.1.2 e.1.2 e.2) h

end Go.Proofs.YtkionnggdncncaaDoor

