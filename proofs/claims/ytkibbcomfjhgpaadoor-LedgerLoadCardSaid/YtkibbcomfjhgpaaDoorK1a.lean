/- Layer 11: the reference ledger as a thing: the struct's block and the row of its accounts. No conditions. -/
import Derived.Test.YtkibbcomfjhgpaaDoorK1s
namespace Go.Proofs.YtkibbcomfjhgpaaDoor
open Go.RowKit Sx
set_option maxRecDepth 100000

abbrev rC (l : List Ac) (x : FrX (acws l)) (v : Nat → Nat) : List Value := .slice (frO x) (lenB (acws l) 6) (frC 6 x) :: cV v
def rF (p : Nat) (l : List Ac) (x : FrX (acws l)) (v : Nat → Nat) : Facts := (p, .cells (rC l x v).toArray 55) :: frL 58 x
structure Ref where
  acc : List Ac
  v : Nat → Nat
/-- The reference ledger at p. -/
def rlg (p : Nat) (R : Ref) : TP := fun F => ∃ x : FrX (acws R.acc), FrOk 6 x ∧ (∀ q ∈ frL 58 x, q.1 ≠ p) ∧ F = rF p R.acc x R.v
def ref0 : Ref := ⟨[], fun _ => 0⟩
theorem acw_cell (x : Ac) : (acw x)[0]? = some (.int .u64 (x.a : Int)) := rfl
section
variable {ρ : Operand → Value} {dst : Option Tmp} {type : TypeId} {pos : String} {after : Array Edge} {guard : Option (Nat × Bool)} {p : Nat} {l : List Ac} {x : FrX (acws l)} {v : Nat → Nat} {A : Facts} {X Y Z : Operand}
theorem rF_heap {w : World} (hF : Sx.Holds w (rF p l x v)) : w.heap[p]? = some (.cells (rC l x v).toArray 55) := hF _ List.mem_cons_self
theorem rF_row {w : World} (hF : Sx.Holds w (rF p l x v)) {i : Nat} (hi : i < l.length) : ∃ b k, (((frO x).getD ⟨0, 0, none⟩).add (i * 6)) = ⟨b, k, none⟩ ∧ World.rangeAt w b k (acw (l.getD i default)) :=
  (Ass.fr l x).h w (fun q hq => hF q (List.mem_cons_of_mem _ hq)) i (by rw [← (Ass.fr l x).hl]; exact hi)
theorem rr_lda (hx : ρ X = .pointer (some ⟨p, 0, none⟩) := by rfl) : ReadsOp Tryd.prog (execOp ρ ⟨dst, .load 40 X, type, pos, after, guard⟩) A (rF p l x v) Unit (fun _ => .slice (frO x) (lenB (acws l) 6) (frC 6 x)) (fun _ => []) := by
  refine rd_of fun w hF => ?_
  have hc : w.cell? ⟨p, 0, none⟩ = some (.slice (frO x) (lenB (acws l) 6) (frC 6 x)) := by rw [cell_of_heap (rF_heap hF)]; rfl
  simp [execOp, Instr.loadAt, hx, Instr.sureAddr, loadVar, Tryd.isAgg40, run_load, hc]
theorem rr_acc {j : Int} (i : Nat) (e : j = i) (hi : i < l.length) (hx : ρ X = .pointer (some (((frO x).getD ⟨0, 0, none⟩).add (j.toNat * 6))) := by rfl) : ReadsOp Tryd.prog (execOp ρ ⟨dst, .load 58 X, type, pos, after, guard⟩) A (rF p l x v) Unit (fun _ => AV (l.getD i default)) (fun _ => []) := by
  refine rd_of fun w hF => ?_
  subst e
  obtain ⟨b, k, h1, h2⟩ := rF_row hF hi
  have hl := run_loadVar_mid w b k _ _ _ h2 Tryd.underlying58 rfl (by kernel_rfl)
  rw [Int.toNat_natCast, h1] at hx
  simp [execOp, Instr.loadAt, hx, Instr.sureAddr, hl]
theorem rr_adr {j : Int} (i : Nat) (e : j = i) (hi : i < l.length) (hx : ρ X = .pointer (some ((((frO x).getD ⟨0, 0, none⟩).add (j.toNat * 6)).add 0)) := by rfl) : ReadsOp Tryd.prog (execOp ρ ⟨dst, .load 29 X, type, pos, after, guard⟩) A (rF p l x v) Unit (fun _ => .int .u64 ((l.getD i default).a : Int)) (fun _ => []) := by
  refine rd_of fun w hF => ?_
  subst e
  obtain ⟨b, k, h1, h2⟩ := rF_row hF hi
  rw [Int.toNat_natCast, h1] at hx
  have hc : w.cell? ⟨b, k, none⟩ = some (.int .u64 ((l.getD i default).a : Int)) := by have := h2 0 _ (acw_cell _); simpa using this
  have e0 : (⟨b, k, none⟩ : Addr).add 0 = ⟨b, k, none⟩ := by rw [add_none]; rfl
  rw [e0] at hx
  simp [execOp, Instr.loadAt, hx, Instr.sureAddr, loadVar, Tryd.isAgg29, run_load, hc]
theorem rr_idx {j : Int} (hj : 0 ≤ j) (h : j < (lenB (acws l) 6 : Nat)) : idxOk (frO x) j (lenB (acws l) 6) := (Ass.fr l x).idx hj h
end
end Go.Proofs.YtkibbcomfjhgpaaDoor

