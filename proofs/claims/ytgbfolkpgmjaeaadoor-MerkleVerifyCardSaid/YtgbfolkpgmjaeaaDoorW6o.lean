/- 'append' of bytes, or of zeros, to a row that has no room. No Go function in this text; no conditions. -/
import Derived.Test.YtgbfolkpgmjaeaaDoorW6k
namespace Go.Proofs.YtgbfolkpgmjaeaaDoor
open Go.RowKit Sx
set_option maxRecDepth 100000

section
variable {ρ : Operand → Value} {dst : Option Tmp} {type : TypeId} {pos : String} {after : Array Edge} {guard : Option (Nat × Bool)}
theorem row_cells {m : Nat} {l : List UInt8} {w : World} (hw : w.heap[m]? = some (.cells (bcs l).toArray 5)) (j : Nat) (u : Value) (h : (bcs l)[j]? = some u) : w.cell? ((⟨m, 0, none⟩ : Addr).add j) = some u := by
  rw [add_none]
  simp only [World.cell?, hw, Nat.zero_add]
  rw [List.getElem?_toArray]; exact h
theorem give_more (m : Nat) (l : List UInt8) (y : Byt) {A : Facts} (hm : Sub (Byt.row m l).L A) (hA : Sub y.L A) (hn : l.length + y.n ≤ 1099511627776) {x s : Operand} (hx : ρ x = (Byt.row m l).v := by rfl) (hs : ρ s = y.v := by rfl) :
    GivesOp Tryd.prog (execOp ρ ⟨dst, .call ⟨.builtin .append, #[x, s], #[59, 59]⟩, type, pos, after, guard⟩) A (FrX (bcs (l ++ y.l))) (fun x => .slice (frO x) (lenB (bcs (l ++ y.l)) 1) (frC 1 x)) (fun x => frL 5 x) := by
  obtain ⟨i, hi, h1, hby, hz⟩ := info_u8
  intro w hw
  have hrow : w.heap[m]? = some (.cells (bcs l).toArray 5) := (hm.holds hw) _ (List.mem_singleton.2 rfl)
  have hsrc := y.src hA w hw
  rw [← h1] at hsrc
  unfold OpRun
  by_cases h0 : y.n = 0
  · have hl0 : y.l = [] := List.length_eq_zero_iff.1 (by rw [y.hl]; exact h0)
    have hrun := run_append_room_src w 59 59 type 5 i Tryd.underlying59 hi m 0 l.length l.length y.v y.n (bcs y.l) hsrc (by omega) (by rw [hl0]; intro j hj; simp [bcs] at hj) (by rw [hl0]; intro j hj; simp [bcs] at hj)
    have hop : (execOp ρ ⟨dst, .call ⟨.builtin .append, #[x, s], #[59, 59]⟩, type, pos, after, guard⟩).run Tryd.prog w = .ok (.value (.slice (some ⟨m, 0, none⟩) (l.length + y.n) l.length)) w := by
      have hx' : ρ x = .slice (some ⟨m, 0, none⟩) l.length l.length := hx
      rw [hl0] at hrun
      simp [execOp, resolve, invoke, builtin, hx', hs, hrun, bcs, World.setCells]
    rw [hop]
    refine ⟨.inr (m, []), ?_, fun q hq => ?_, fun q hq => .inr ⟨(m, .cells (bcs l).toArray 5), hm _ (List.mem_singleton.2 rfl), ?_⟩, .refl _ _⟩
    · simp [frO, frC, lenB, bcs_length, hl0, h0]
    · rw [List.mem_singleton.1 hq]; rw [hl0, List.append_nil, List.append_nil]; exact hrow
    · rw [List.mem_singleton.1 hq]
  · have hold : (Builtin.firstCells i.size l.length (.slice (some ⟨m, 0, none⟩) l.length l.length)).run Tryd.prog w.drew = .ok (bcs l).toArray w.drew := run_firstCells_some w.drew i.size l.length ⟨m, 0, none⟩ l.length l.length (bcs l) (by rw [h1, bcs_length, Nat.mul_one]) (row_cells (w := w.drew) hrow)
    have hcap : l.length + y.n ≤ grownCap w (l.length + y.n) l.length 5 := grownCap_ge w _ _ _
    have hfit : Builtin.nextslicecap (l.length + y.n) l.length * i.bytes ≤ 281474976710656 := by
      have := nextslicecap_le (need := l.length + y.n) (old := l.length) (by omega)
      rw [hby]; omega
    have hrun := run_append_grow_src w 59 59 type 5 i (.int .u8 0) Tryd.underlying59 hi hz (some ⟨m, 0, none⟩) l.length l.length (bcs l) hold y.v y.n (bcs y.l) hsrc (by omega) (by omega) hfit
    have hop : (execOp ρ ⟨dst, .call ⟨.builtin .append, #[x, s], #[59, 59]⟩, type, pos, after, guard⟩).run Tryd.prog w = .ok (.value (.slice (some ⟨w.heap.size, 0, none⟩) (l.length + y.n) (grownCap w (l.length + y.n) l.length 5))) (w.drew.alloc (.cells ((bcs l ++ bcs y.l).toArray ++ Builtin.zeroCells (Value.int .u8 0).cells (grownCap w (l.length + y.n) l.length 5 - (l.length + y.n))) 5)) := by
      have hx' : ρ x = .slice (some ⟨m, 0, none⟩) l.length l.length := hx
      simp [execOp, resolve, invoke, builtin, hx', hs, hrun]
    rw [hop]
    generalize hsp : Builtin.zeroCells (Value.int .u8 0).cells (grownCap w (l.length + y.n) l.length 5 - (l.length + y.n)) = sp
    have hss : sp.size = grownCap w (l.length + y.n) l.length 5 - (l.length + y.n) := by
      rw [← hsp, size_zeroCells]; show _ * 1 = _; omega
    generalize hob : Obj.cells ((bcs l ++ bcs y.l).toArray ++ sp) 5 = obj
    have hobj : obj = .cells (bcs (l ++ y.l) ++ sp.toList).toArray 5 := by
      rw [← hob, ← bcs_append]; congr 1; apply Array.ext'; simp
    have hh : (w.drew.alloc obj).heap = w.heap.push obj := rfl
    refine ⟨.inr (w.heap.size, sp.toList), ?_, fun q hq => ?_, fun q hq => ?_, ⟨rfl, rfl, rfl, by rw [hh, Array.size_push]; omega, fun k hk => by rw [hh, Array.getElem?_push, if_neg (Nat.ne_of_lt hk)]⟩⟩
    · have e : (bcs (l ++ y.l)).length = l.length + y.n := by rw [bcs_length, List.length_append, y.hl]
      show _ = Value.slice (some ⟨w.heap.size, 0, none⟩) (bcs (l ++ y.l)).length (((bcs (l ++ y.l)).length + sp.toList.length) / 1)
      have e2 : sp.toList.length = sp.size := Array.length_toList
      rw [Nat.div_one, e2, hss, e]
      congr 1; omega
    · rw [List.mem_singleton.1 hq, hh, Array.getElem?_push, if_pos rfl, hobj]
    · rw [List.mem_singleton.1 hq]; exact .inl (Nat.le_refl _)
theorem give_zer (m : Nat) (l : List UInt8) {n : Nat} (h0 : 0 < n) (hn : l.length + n ≤ 1099511627776) {A : Facts} (hm : Sub (Byt.row m l).L A) {x s : Operand} (hx : ρ x = (Byt.row m l).v := by rfl) (hs : ρ s = .int .i64 (n : Int) := by rfl) :
    GivesOp Tryd.prog (execOp ρ ⟨dst, .call ⟨.builtin .append, #[x, s], #[59, 3]⟩, type, pos, after, guard⟩) A (FrX (bcs (l ++ List.replicate n 0))) (fun x => .slice (frO x) (lenB (bcs (l ++ List.replicate n 0)) 1) (frC 1 x)) (fun x => frL 5 x) := by
  obtain ⟨i, hi, h1, hby, hz⟩ := info_u8
  intro w hw
  have hrow : w.heap[m]? = some (.cells (bcs l).toArray 5) := (hm.holds hw) _ (List.mem_singleton.2 rfl)
  have hold : (Builtin.firstCells 1 l.length (.slice (some ⟨m, 0, none⟩) l.length l.length)).run Tryd.prog w.drew = .ok (bcs l).toArray w.drew := run_firstCells_some w.drew 1 l.length ⟨m, 0, none⟩ l.length l.length (bcs l) (by rw [bcs_length, Nat.mul_one]) (row_cells (w := w.drew) hrow)
  have hfit := nextslicecap_le (need := l.length + n) (old := l.length) (by omega)
  have hcap : l.length + n ≤ grownCap w (l.length + n) l.length 5 := grownCap_ge w _ _ _
  have hwrap : IntKind.i64.wrap (n : Int) = (n : Int) := wrap_nat (by omega)
  have hrun : (Builtin.append_ #[59, 3] type #[.slice (some ⟨m, 0, none⟩) l.length l.length, .int .i64 (n : Int)]).run Tryd.prog w = .ok (.slice (some ⟨w.heap.size, 0, none⟩) (l.length + n) (grownCap w (l.length + n) l.length 5)) (w.drew.alloc (.cells ((bcs l).toArray ++ Builtin.zeroCells (Value.int .u8 0).cells n ++ Builtin.zeroCells (Value.int .u8 0).cells (grownCap w (l.length + n) l.length 5 - (l.length + n))) 5)) := by
    have hn0 : ¬ ((n : Int) < 0) := by omega
    have e2 : ¬ (n = 0) := by omega
    have e2' : ¬ (l.length + n ≤ l.length) := by omega
    have e3' : ¬ (9223372036854775807 < ((l.length : Int) + (n : Int))) := by omega
    have e4 : ¬ (281474976710656 < Builtin.nextslicecap (l.length + n) l.length) := by omega
    have e6 : ¬ (281474976710656 < (n : Int)) := by omega
    simp [Builtin.append_, run_underlying Tryd.underlying59, run_underlying Tryd.underlying3, sizeOf, typeInfo, zeroValue, hi, hz, h1, hby, hwrap, asInt, asIntOf, hn0, e2, e2', e3', e4, e6, Question.forced, hold, newRow, grownCap]
  have hop : (execOp ρ ⟨dst, .call ⟨.builtin .append, #[x, s], #[59, 3]⟩, type, pos, after, guard⟩).run Tryd.prog w = .ok (.value (.slice (some ⟨w.heap.size, 0, none⟩) (l.length + n) (grownCap w (l.length + n) l.length 5))) (w.drew.alloc (.cells ((bcs l).toArray ++ Builtin.zeroCells (Value.int .u8 0).cells n ++ Builtin.zeroCells (Value.int .u8 0).cells (grownCap w (l.length + n) l.length 5 - (l.length + n))) 5)) := by
    have hx' : ρ x = .slice (some ⟨m, 0, none⟩) l.length l.length := hx
    simp [execOp, resolve, invoke, builtin, hx', hs, hrun]
  unfold OpRun
  rw [hop]
  generalize hsp : Builtin.zeroCells (Value.int .u8 0).cells (grownCap w (l.length + n) l.length 5 - (l.length + n)) = sp
  have hss : sp.size = grownCap w (l.length + n) l.length 5 - (l.length + n) := by
    rw [← hsp, size_zeroCells]; show _ * 1 = _; omega
  have hzc : (Builtin.zeroCells (Value.int .u8 0).cells n).toList = bcs (List.replicate n 0) := by
    have e1 : (Builtin.zeroCells (Value.int .u8 0).cells n).toList.length = n := by rw [Array.length_toList, size_zeroCells]; show n * 1 = n; omega
    apply List.ext_getElem?
    intro j
    by_cases hj : j < n
    · rw [bcs_get (by simpa using hj)]
      simp [Builtin.zeroCells, hj, List.getD, Value.cells, Nat.mod_one]
    · rw [List.getElem?_eq_none (by omega), List.getElem?_eq_none (by rw [bcs_length]; simp; omega)]
  generalize hob : Obj.cells ((bcs l).toArray ++ Builtin.zeroCells (Value.int .u8 0).cells n ++ sp) 5 = obj
  have hobj : obj = .cells (bcs (l ++ List.replicate n 0) ++ sp.toList).toArray 5 := by
    rw [← hob, ← bcs_append]; congr 1; apply Array.ext'; simp [← hzc]
  have hh : (w.drew.alloc obj).heap = w.heap.push obj := rfl
  refine ⟨.inr (w.heap.size, sp.toList), ?_, fun q hq => ?_, fun q hq => ?_, ⟨rfl, rfl, rfl, by rw [hh, Array.size_push]; omega, fun k hk => by rw [hh, Array.getElem?_push, if_neg (Nat.ne_of_lt hk)]⟩⟩
  · have e : (bcs (l ++ List.replicate n 0)).length = l.length + n := by rw [bcs_length, List.length_append, List.length_replicate]
    show _ = Value.slice (some ⟨w.heap.size, 0, none⟩) (bcs (l ++ List.replicate n 0)).length (((bcs (l ++ List.replicate n 0)).length + sp.toList.length) / 1)
    have e2 : sp.toList.length = sp.size := Array.length_toList
    rw [Nat.div_one, e2, hss, e]
    congr 1; omega
  · rw [List.mem_singleton.1 hq, hh, Array.getElem?_push, if_pos rfl, hobj]
  · rw [List.mem_singleton.1 hq]; exact .inl (Nat.le_refl _)
end
end Go.Proofs.YtgbfolkpgmjaeaaDoor

