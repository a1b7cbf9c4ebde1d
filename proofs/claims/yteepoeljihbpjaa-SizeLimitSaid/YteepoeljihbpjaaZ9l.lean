/- Layer 9 over this translation: the example, LZCompress, LZRoundTrip, LZConcatenation. No conditions. -/
import Derived.Test.YteepoeljihbpjaaZ9c
namespace Go.Proofs.Yteepoeljihbpjaa
open Go.RowKit Sx
set_option maxRecDepth 100000

theorem zc_comp (y : Byt) (hn : y.n ≤ 100000000) (A : Facts) (hy : Sub y.L A) : Gives Try.prog 14 [y.v] A (PV (comp y.l)) (fun p => bV (comp y.l) p) (fun p => pL (comp y.l) p.1) :=
  callT_gives_nil (z_comp y hn A hy) (fun _ _ h => h)
theorem tc_comp (y : Byt) (hn : y.n ≤ 100000000) (A : Facts) (hy : Sub y.L A) : Gives Try.prog 17 [y.v] A (PV (comp y.l)) (fun p => bV (comp y.l) p) (fun p => pL (comp y.l) p.1) :=
  callT_gives_nil (t_comp y hn A hy) (fun _ _ h => h)
section
variable {ρ : Operand → Value} {dst : Option Tmp} {type : TypeId} {pos : String} {after : Array Edge} {guard : Option (Nat × Bool)}
theorem build_5 (a b c d e : UInt8) (A : Facts) {x y z u v : Operand} (hx : ρ x = .int .u8 (a.toNat : Int) := by rfl) (hy : ρ y = .int .u8 (b.toNat : Int) := by rfl) (hz : ρ z = .int .u8 (c.toNat : Int) := by rfl) (hu : ρ u = .int .u8 (d.toNat : Int) := by rfl) (hv : ρ v = .int .u8 (e.toNat : Int) := by rfl) : GivesOp Try.prog (execOp ρ ⟨dst, .buildSlice 22 5 #[(0, x), (1, y), (2, z), (3, u), (4, v)], type, pos, after, guard⟩) A Nat (fun m => (Byt.row m [a, b, c, d, e]).v) (fun m => (Byt.row m [a, b, c, d, e]).L) := by
  obtain ⟨i, hi, hs, _, h0⟩ := info_u8
  refine gives_alloc (F := []) id (.cells (bcs [a, b, c, d, e]).toArray 5) (fun w => ?_) (fun k => rfl) (fun _ h => by cases h)
  have hf : Instr.fill (fun j => some (j * 1, 1)) ((Array.range (5 * 1)).map ((Value.int .u8 0).cells[· % (Value.int .u8 0).cells.size]!)) [(0, .int .u8 (a.toNat : Int)), (1, .int .u8 (b.toNat : Int)), (2, .int .u8 (c.toNat : Int)), (3, .int .u8 (d.toNat : Int)), (4, .int .u8 (e.toNat : Int))] = some (bcs [a, b, c, d, e]).toArray := by kernel_rfl
  have hb := run_buildSlice w 22 5 5 #[(0, .int .u8 (a.toNat : Int)), (1, .int .u8 (b.toNat : Int)), (2, .int .u8 (c.toNat : Int)), (3, .int .u8 (d.toNat : Int)), (4, .int .u8 (e.toNat : Int))] (bcs [a, b, c, d, e]).toArray i (.int .u8 0) Try.underlying22 hi h0 (by rw [hs]; decide) (by rw [hs]; decide) (by rw [hs]; exact hf)
  simp [execOp, hx, hy, hz, hu, hv, hb, Byt.row]
end
/-- A row of bytes with the run-time's mark behind it. -/
def Byt.rowz (m : Nat) (l : Bs) (fr : Nat × Nat) : Byt where
  o := some ⟨m, 0, none⟩
  n := l.length
  cap := l.length
  l := l
  L := [(m, .cells (bcs l).toArray 5 fr)]
  hl := rfl
  hc := Nat.le_refl _
  hs := fun _ => rfl
  h := fun w hw i hi => by
    have h1 := hw _ (List.mem_singleton.2 rfl)
    simp only at h1
    simp only [Option.getD_some, add_none, Nat.zero_add]
    simp only [World.cell?, h1]
    rw [List.getElem?_toArray]
    exact bcs_get hi
section
variable {ρ : Operand → Value} {dst : Option Tmp} {type : TypeId} {pos : String} {after : Array Edge} {guard : Option (Nat × Bool)}
/-- An operation that makes one block: the block is a thing. -/
theorem thg_alloc {m : Sem Next} {A : Facts} {ret : Nat → Value} {M : Nat → Facts} (obj : Obj) (hr : ∀ w, m.run Try.prog w = .ok (.value (ret w.heap.size)) (w.alloc obj)) (hM : ∀ k, M k = [(k, obj)]) : GivesT Try.prog m A (fun F => F = []) Nat ret (fun _ => []) (fun k G => G = M k) := by
  intro w F hT hw hF hap
  subst hT
  unfold OpRunT
  rw [hr]
  have hh : (w.alloc obj).heap = w.heap.push obj := rfl
  refine ⟨w.heap.size, _, rfl, rfl, fun _ h => (by cases h), ?_, fun _ h => (by cases h), fun _ h => (by cases h), ?_, ⟨rfl, rfl, rfl, by rw [hh, Array.size_push]; exact Nat.le_succ _, fun k hk _ => by rw [hh, Array.getElem?_push, if_neg (Nat.ne_of_lt hk)]⟩⟩
  · rw [hM]
    intro q hq
    obtain rfl := List.mem_singleton.1 hq
    rw [hh, Array.getElem?_push, if_pos rfl]
  · rw [hM]
    intro q hq
    obtain rfl := List.mem_singleton.1 hq
    exact .inl (Nat.le_refl _)
theorem thg_build {n : Nat} {ps : Array (Nat × Operand)} (l : Bs) (hf : ∀ ρ : Operand → Value, (∀ v, ρ (.const v) = v) → Instr.fill (fun j => some (j * 1, 1)) ((Array.range (n * 1)).map ((Value.int .u8 0).cells[· % (Value.int .u8 0).cells.size]!)) (ps.toList.map fun q => (q.1, ρ q.2)) = some (bcs l).toArray) (hn : n = l.length) (hn2 : 0 < n ∧ n ≤ 1000) (A : Facts) (hρ : ∀ v, ρ (.const v) = v := by exact fun _ => rfl) :
    GivesT Try.prog (execOp ρ ⟨dst, .buildSlice 22 n ps, type, pos, after, guard⟩) A (fun F => F = []) Nat (fun m => (Byt.row m l).v) (fun _ => []) (fun m G => G = (Byt.row m l).L) := by
  subst hn
  obtain ⟨i, hi, hs, hb, h0⟩ := info_u8
  refine thg_alloc (.cells (bcs l).toArray 5) (fun w => ?_) (fun k => rfl)
  have hb := run_buildSlice w 22 5 l.length (ps.map fun q => (q.1, ρ q.2)) (bcs l).toArray i (.int .u8 0) Try.underlying22 hi h0 (by rw [hs]; have e : (2 : Nat) ^ 24 = 16777216 := rfl; omega) (by rw [hs]; omega) (by rw [hs, Array.toList_map]; exact hf ρ hρ)
  simp [execOp, hb, Byt.row]
/-- The conversion of a constant's bytes: the run-time's mark is set behind them. -/
theorem thg_mark {m : Nat} {l : Bs} (A : Facts) {X : Operand} (hx : ρ X = (Byt.row m l).v := by rfl) : GivesT Try.prog (execOp ρ ⟨dst, .convert 22 22 X, type, pos, after, guard⟩) A (fun G => G = (Byt.row m l).L) Nat (fun k => (Byt.rowz k l (l.length, l.length + 1)).v) (fun _ => []) (fun k G => G = (Byt.rowz k l (l.length, l.length + 1)).L) := by
  intro w F hT hw hF hap
  subst hT
  have h1 : w.heap[m]? = some (.cells (bcs l).toArray 5) := hF _ (List.mem_singleton.2 rfl)
  have hlt : m < w.heap.size := lt_of_some h1
  have hsh : w.shape? m = some (5, l.length) := by
    unfold World.shape?
    rw [h1]
    simp [bcs_length]
  have hrun : (execOp ρ ⟨dst, .convert 22 22 X, type, pos, after, guard⟩).run Try.prog w = .ok (.value (Byt.row m l).v) (w.freeze ⟨m, l.length, none⟩ 1) := by
    rw [show execOp ρ ⟨dst, .convert 22 22 X, type, pos, after, guard⟩ = (do let v ← convert 22 22 (ρ X); pure (.value v)) from rfl, hx]
    simp [convert, run_underlying Try.underlying22, run_underlying Try.underlying5, markStringish, hsh, Byt.row]
  have hh : (w.freeze ⟨m, l.length, none⟩ 1).heap = w.heap.modify m fun
      | .cells c elem (lo, hi) => .cells c elem (if lo == hi then (l.length, l.length + 1) else (min lo l.length, max hi (l.length + 1)))
      | o => o := by
    unfold World.freeze
    rw [if_neg (by decide)]
    rfl
  have hm : (w.freeze ⟨m, l.length, none⟩ 1).heap[m]? = some (.cells (bcs l).toArray 5 (l.length, l.length + 1)) := by
    rw [hh, Array.getElem?_modify, if_pos rfl, h1]
    rfl
  have ho : ∀ j, j ≠ m → (w.freeze ⟨m, l.length, none⟩ 1).heap[j]? = w.heap[j]? := fun j hj => by
    rw [hh, Array.getElem?_modify, if_neg (Ne.symm hj)]
  have hz : (w.freeze ⟨m, l.length, none⟩ 1).heap.size = w.heap.size := by rw [hh, Array.size_modify]
  have hw' : (w.freeze ⟨m, l.length, none⟩ 1).os = w.os ∧ (w.freeze ⟨m, l.length, none⟩ 1).tape = w.tape ∧ (w.freeze ⟨m, l.length, none⟩ 1).output = w.output := by
    unfold World.freeze
    rw [if_neg (by decide)]
    exact ⟨rfl, rfl, rfl⟩
  unfold OpRunT
  rw [hrun]
  refine ⟨m, _, rfl, rfl, fun _ h => (by cases h), ?_, fun _ h => (by cases h), fun _ h => (by cases h), ?_, ⟨hw'.1, hw'.2.1, hw'.2.2, by rw [hz]; exact Nat.le_refl _, fun k hk hq => ho k fun e => hq _ (List.mem_singleton.2 rfl) e.symm⟩⟩
  · intro q hq
    obtain rfl := List.mem_singleton.1 hq
    exact hm
  · intro q hq
    obtain rfl := List.mem_singleton.1 hq
    exact .inr ⟨_, List.mem_singleton.2 rfl, rfl⟩
end
section
variable {P : Program} {f : FuncId} {l : List Value} {A F : Facts} {X : Type} {ret : X → Value}
/-- A call that makes a thing of nothing, while it reads the thing F. -/
theorem callT_new {T' : X → TP} {M : X → Facts} (h : CallT P f l (A ++ F) (fun G => G = []) X ret (fun _ => []) T') (hT : ∀ x G, T' x G → G = M x) : CallR P f l A F X ret M := by
  intro w hA hF _
  refine Sx.CallRun.mono (h w [] rfl (fun q hq => (List.mem_append.1 hq).elim (hA q) (hF q)) (fun _ h => by cases h) (fun _ _ _ h => by cases h)) ?_
  rintro v w' ⟨x, F', e, g1, g2, g3, g4, g5, g6, g7⟩
  obtain rfl := hT x F' g1
  exact ⟨x, e, g3, fun q hq => .inl ((g6 q hq).resolve_right fun ⟨_, h, _⟩ => by cases h), g7.below⟩
theorem gives_rd (h : Gives P f l (A ++ F) X ret (fun _ => [])) : CallR P f l A F X ret (fun _ => []) := by
  intro w hA hF _
  refine Sx.CallRun.mono (h w (fun q hq => (List.mem_append.1 hq).elim (hA q) (hF q))) ?_
  rintro v w' ⟨x, e, g1, g2, g3⟩
  exact ⟨x, e, fun _ h => (by cases h), fun _ h => (by cases h), g3⟩
end
def aw4 : Bs := [97, 98, 99, 100]
def aw5 : Bs := [4, 97, 98, 99, 100]
def aw6 : Bs := [97, 97, 97, 97, 97, 97]
theorem aw_c4 : comp aw4 = aw5 := by decide +kernel
theorem aw_c6 : comp aw6 = [1, 97, 129, 0, 0] := by decide +kernel
theorem aw_d : dec [0] = (3, []) := rfl
theorem aw_fin : Value.bool ((((dec [0]).1 : Nat) : Int) == 3) = .bool true := rfl
theorem rt_dec {l : Bs} (h : l.length ≤ 65536) : (dec (comp l)).2 = l := by rw [dec_comp l h]
theorem rt_code {l : Bs} (h : l.length ≤ 65536) : ((((dec (comp l)).1 : Nat) : Int) == 0) = true := by rw [dec_comp l h]; rfl
theorem rt_add {n : Nat} (h : n ≤ 1500) : IntKind.i64.wrap ((n : Int) + IntKind.i64.wrap (((n + 126 : Nat) : Int).tdiv 127)) = ((n + (n + 126) / 127 : Nat) : Int) := by
  rw [show (((n + 126 : Nat) : Int).tdiv 127) = (((n + 126) / 127 : Nat) : Int) from rfl, wrap_nat (by omega), show ((n : Int) + (((n + 126) / 127 : Nat) : Int)) = ((n + (n + 126) / 127 : Nat) : Int) by omega, wrap_nat (by omega)]
theorem rt_len (y : Byt) : decide ((((comp y.l).length : Nat) : Int) ≤ ((y.n + (y.n + 126) / 127 : Nat) : Int)) = true := by
  have := comp_bound y.l
  rw [y.hl] at this
  exact len_t this
theorem cc_dec {a b : Bs} (h : a.length + b.length ≤ 65536) : (dec (comp a ++ comp b)).2 = a ++ b := by rw [dec_comp2 a b h]
theorem cc_code {a b : Bs} (h : a.length + b.length ≤ 65536) : ((((dec (comp a ++ comp b)).1 : Nat) : Int) == 0) = true := by rw [dec_comp2 a b h]; rfl
theorem comp_le (y : Byt) {k : Nat} (h : y.n ≤ k) : (comp y.l).length ≤ k + (k + 126) / 127 := by
  have := comp_bound y.l
  rw [y.hl] at this
  have : (y.n + 126) / 127 ≤ (k + 126) / 127 := Nat.div_le_div_right (by omega)
  omega
abbrev frB (c : List Value) (l : Bs) (e : c = bcs l) (x : FrX c) : Byt := Byt.ofFr c l e x
theorem frB_n (c : List Value) (l : Bs) (e : c = bcs l) (x : FrX c) : (frB c l e x).n = l.length := (frB c l e x).hl.symm
end Go.Proofs.Yteepoeljihbpjaa

