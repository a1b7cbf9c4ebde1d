/- The law LZWindowBoundary. No conditions. -/
import Derived.Test.YteepoeljihbpjaaZ9l
namespace Go.Proofs.Yteepoeljihbpjaa
open Go.RowKit Sx
set_option maxRecDepth 100000

/-! Eight bytes by value, and a row that has no room. -/
def b8 (z : Int) : UInt8 := UInt8.ofNat (IntKind.u8.wrap z).toNat
theorem b8_wrap (z : Int) : IntKind.u8.wrap z = ((b8 z).toNat : Int) := by
  unfold b8
  have h : 0 ≤ IntKind.u8.wrap z ∧ IntKind.u8.wrap z < 256 := by simp [IntKind.wrap, IntKind.bits, IntKind.signed]; omega
  rw [ofNat_lt (by omega)]
  omega
/-- The first c bytes, without room behind them. -/
def Byt.full (y : Byt) (c : Nat) (hc : c ≤ y.n) : Byt where
  o := y.o
  n := c
  cap := c
  l := y.l.take c
  L := y.L
  hl := by rw [List.length_take, y.hl]; omega
  hc := Nat.le_refl _
  hs := fun h => y.hs (by omega)
  h := fun w hw i hi => by
    have := y.h w hw i (by omega)
    rw [this]
    simp [List.getD, List.getElem?_take_of_lt hi]
section
variable {ρ : Operand → Value} {dst : Option Tmp} {type : TypeId} {pos : String} {after : Array Edge} {guard : Option (Nat × Bool)}
theorem own_nil8 (A : Facts) (hρ : ρ (.const (.slice none 0 0)) = .slice none 0 0 := by rfl) : OwnOp Try.prog (execOp ρ ⟨dst, .assign (.const (.slice none 0 0)), type, pos, after, guard⟩) A Unit 5 1 (fun _ => []) := by
  intro w _
  have hrun : (execOp ρ ⟨dst, .assign (.const (.slice none 0 0)), type, pos, after, guard⟩).run Try.prog w = .ok (.value (.slice none 0 0)) w := by simp [execOp, hρ]
  unfold OpRun
  rw [hrun]
  exact ⟨(), .inl ⟨rfl, none, rfl⟩, .refl _ _⟩
theorem give_full (y : Byt) (c : Nat) (hc : c ≤ y.n) {A : Facts} (hA : Sub y.L A) {x u v : Operand} (hx : ρ x = y.v := by rfl) (hu : ρ u = .int .i64 (c : Int) := by rfl) (hv : ρ v = .int .i64 (c : Int) := by rfl) :
    GivesOp Try.prog (execOp ρ ⟨dst, .slice 22 x none (some u) (some v), type, pos, after, guard⟩) A Unit (fun _ => (y.full c hc).v) (fun _ => y.L) := by
  intro w hw
  obtain ⟨i, hi, hs, _, _⟩ := info_u8
  have h1 : c ≤ y.cap := by have := y.hc; omega
  have ha : (if c = 0 then y.o else Option.map (fun x => x.add 0) y.o) = y.o := by
    split
    · rfl
    · cases y.o with
      | none => rfl
      | some a => simp [Addr.add]
  have hrun : (execOp ρ ⟨dst, .slice 22 x none (some u) (some v), type, pos, after, guard⟩).run Try.prog w = .ok (.value (y.full c hc).v) w := by
    simp [execOp, hx, hu, hv, Instr.sliceAt, Instr.slice, run_underlying Try.underlying22, Instr.sliceBounds, Instr.sliceBound, asIntOf, run_size hi, hs, h1, ha, Byt.full]
  unfold OpRun
  rw [hrun]
  exact ⟨(), rfl, hA.holds hw, fun q hq => .inr ⟨q, hA q hq, rfl⟩, .refl _ _⟩
/-- 'append' of something to a row that has no room. -/
theorem own_full (z y : Byt) {A : Facts} (hz : Sub z.L A) (hc : z.cap = z.n) (hA : Sub y.L A) (h00 : 0 < z.n) (h0 : 0 < y.n) (hn : z.n + y.n ≤ 1099511627776) {x s : Operand} (hx : ρ x = z.v := by rfl) (hs : ρ s = y.v := by rfl) :
    OwnOp Try.prog (execOp ρ ⟨dst, .call ⟨.builtin .append, #[x, s], #[22, 22]⟩, type, pos, after, guard⟩) A Unit 5 1 (fun _ => bcs (z.l ++ y.l)) := by
  obtain ⟨i, hi, h1, hby, h0z⟩ := info_u8
  obtain ⟨zo, zn, zcap, zl, zL, zhl, zhc, zhs, zh⟩ := z
  simp only at hc h00 hn
  have hc := hc.symm
  subst hc
  cases zo with
  | none => have := zhs h00; cases this
  | some a =>
    intro w hw
    have key := zh w (hz.holds hw)
    have hsrc := y.src hA w hw
    rw [← h1] at hsrc
    unfold OpRun
    have hold : (Builtin.firstCells i.size zn (.slice (some a) zn zn)).run Try.prog w.drew = .ok (bcs zl).toArray w.drew := run_firstCells_some w.drew i.size zn a zn zn (bcs zl) (by rw [h1, bcs_length, Nat.mul_one]; exact zhl) (fun j u hj => by
      have hj' : j < zl.length := by rw [← bcs_length]; exact (List.getElem?_eq_some_iff.1 hj).1
      rw [bcs_get hj'] at hj
      simp only [Option.some.injEq] at hj
      subst hj
      exact key j (by omega))
    have hcap : zn + y.n ≤ grownCap w (zn + y.n) zn 5 := grownCap_ge w _ _ _
    have hfit : Builtin.nextslicecap (zn + y.n) zn * i.bytes ≤ 281474976710656 := by
      have := nextslicecap_le (need := zn + y.n) (old := zn) (by omega)
      rw [hby]; omega
    have hrun := run_append_grow_src w 22 22 type 5 i (.int .u8 0) Try.underlying22 hi h0z (some a) zn zn (bcs zl) hold y.v y.n (bcs y.l) hsrc (by omega) (by omega) hfit
    have hop : (execOp ρ ⟨dst, .call ⟨.builtin .append, #[x, s], #[22, 22]⟩, type, pos, after, guard⟩).run Try.prog w = .ok (.value (.slice (some ⟨w.heap.size, 0, none⟩) (zn + y.n) (grownCap w (zn + y.n) zn 5))) (w.drew.alloc (.cells ((bcs zl ++ bcs y.l).toArray ++ Builtin.zeroCells (Value.int .u8 0).cells (grownCap w (zn + y.n) zn 5 - (zn + y.n))) 5)) := by
      have hx' : ρ x = .slice (some a) zn zn := hx
      simp [execOp, resolve, invoke, builtin, hx', hs, hrun]
    rw [hop]
    generalize hsp : Builtin.zeroCells (Value.int .u8 0).cells (grownCap w (zn + y.n) zn 5 - (zn + y.n)) = sp
    have hss : sp.size = grownCap w (zn + y.n) zn 5 - (zn + y.n) := by
      rw [← hsp, size_zeroCells]; show _ * 1 = _; omega
    generalize hob : Obj.cells ((bcs zl ++ bcs y.l).toArray ++ sp) 5 = obj
    have hobj : obj = .cells (bcs (zl ++ y.l) ++ sp.toList).toArray 5 := by
      rw [← hob, ← bcs_append]; congr 1; apply Array.ext'; simp
    have hh : (w.drew.alloc obj).heap = w.heap.push obj := rfl
    have e : (bcs (zl ++ y.l)).length = zn + y.n := by rw [bcs_length, List.length_append, y.hl, zhl]
    have e2 : sp.toList.length = sp.size := Array.length_toList
    refine ⟨(), .inr ⟨w.heap.size, sp.toList, zn + y.n, grownCap w (zn + y.n) zn 5, Nat.le_refl _, ?_, rfl, by rw [e, Nat.mul_one], by rw [e, e2, hss]; omega⟩, ⟨rfl, rfl, rfl, by rw [hh, Array.size_push]; omega, fun k hk => by rw [hh, Array.getElem?_push, if_neg (Nat.ne_of_lt hk)]⟩⟩
    rw [hh, Array.getElem?_push, if_pos rfl, hobj]
theorem ld_any8 (z : Int) (A : Facts) {X : Operand} (hx : ρ X = .int .i64 z := by rfl) :
    ∀ w, Sx.Holds w A → (execOp ρ ⟨dst, .convert 3 5 X, type, pos, after, guard⟩).run Try.prog w = .ok (.value (.int .u8 ((b8 z).toNat : Int))) w := ld_cv8 (b8 z) (b8_wrap z) A hx
theorem ld_sub8 (a b : Int) (A : Facts) {x y : Operand} (hx : ρ x = .int .u8 a := by rfl) (hy : ρ y = .int .u8 b := by rfl) :
    ∀ w, Sx.Holds w A → (execOp ρ ⟨dst, .binOp .sub 5 x y 5, type, pos, after, guard⟩).run Try.prog w = .ok (.value (.int .u8 ((b8 (a - b)).toNat : Int))) w := by
  intro w _
  have e : execOp ρ ⟨dst, .binOp .sub 5 x y 5, type, pos, after, guard⟩ = (do let v ← binOp .sub 5 (ρ x) (ρ y); pure (.value v)) := rfl
  rw [e, hx, hy, ← b8_wrap]
  rfl
theorem build_4 (a b c d : UInt8) (A : Facts) {x y z u : Operand} (hx : ρ x = .int .u8 (a.toNat : Int) := by rfl) (hy : ρ y = .int .u8 (b.toNat : Int) := by rfl) (hz : ρ z = .int .u8 (c.toNat : Int) := by rfl) (hu : ρ u = .int .u8 (d.toNat : Int) := by rfl) : GivesOp Try.prog (execOp ρ ⟨dst, .buildSlice 22 4 #[(0, x), (1, y), (2, z), (3, u)], type, pos, after, guard⟩) A Nat (fun m => (Byt.row m [a, b, c, d]).v) (fun m => (Byt.row m [a, b, c, d]).L) := by
  obtain ⟨i, hi, hs, _, h0⟩ := info_u8
  refine gives_alloc (F := []) id (.cells (bcs [a, b, c, d]).toArray 5) (fun w => ?_) (fun k => rfl) (fun _ h => by cases h)
  have hf : Instr.fill (fun j => some (j * 1, 1)) ((Array.range (4 * 1)).map ((Value.int .u8 0).cells[· % (Value.int .u8 0).cells.size]!)) [(0, .int .u8 (a.toNat : Int)), (1, .int .u8 (b.toNat : Int)), (2, .int .u8 (c.toNat : Int)), (3, .int .u8 (d.toNat : Int))] = some (bcs [a, b, c, d]).toArray := by kernel_rfl
  have hb := run_buildSlice w 22 5 4 #[(0, .int .u8 (a.toNat : Int)), (1, .int .u8 (b.toNat : Int)), (2, .int .u8 (c.toNat : Int)), (3, .int .u8 (d.toNat : Int))] (bcs [a, b, c, d]).toArray i (.int .u8 0) Try.underlying22 hi h0 (by rw [hs]; decide) (by rw [hs]; decide) (by rw [hs]; exact hf)
  simp [execOp, hx, hy, hz, hu, hb, Byt.row]
end
/-- What stands between the words, as far as it is written. -/
abbrev WbS : Type := { q : Nat × Bs // q.2.length = 8 + 4 * q.1 ∧ q.1 ≤ 351 }
theorem wb_lt {l : Bs} {k : Nat} (h : decide (((lenB (bcs l) 1 : Nat) : Int) < ((8 + k : Nat) : Int)) = true) : l.length < 8 + k := by
  rw [show lenB (bcs l) 1 = (bcs l).length from rfl, bcs_length] at h; exact lt_t h
theorem wb_ge {l : Bs} {k : Nat} (h : decide (((lenB (bcs l) 1 : Nat) : Int) < ((8 + k : Nat) : Int)) = false) : 8 + k ≤ l.length := by
  rw [show lenB (bcs l) 1 = (bcs l).length from rfl, bcs_length] at h; exact lt_f h
abbrev wbK (n : Int) : Nat := modI n 1400
theorem wbK_lt (n : Int) : modI n 1400 < 1400 := modI_lt n (by decide)
theorem wb_le {l w : Bs} (hw : w.length = 8) {k : Nat} (h : k ≤ 1400) : (l.take (8 + k) ++ w).length ≤ 1416 := by
  rw [List.length_append, List.length_take, hw]; omega
def wb_next (x : WbS) {k : Nat} (b : Bs) (hb : b.length = 4) (h : x.1.2.length < 8 + k) (hk : k < 1400) : WbS :=
  ⟨(x.1.1 + 1, x.1.2 ++ b), by
    have := x.2
    show (x.1.2 ++ b).length = 8 + 4 * (x.1.1 + 1) ∧ x.1.1 + 1 ≤ 351
    rw [List.length_append]
    omega⟩
end Go.Proofs.Yteepoeljihbpjaa

