/- Layer 9 over this translation: the example, LZCompress, LZRoundTrip, LZConcatenation. No conditions. -/
import Derived.Test.YtmgjlfcoikobaaaZ9c
namespace Go.Proofs.Ytmgjlfcoikobaaa
open Go.RowKit Sx
set_option maxRecDepth 100000

theorem zc_comp (y : Byt) (hn : y.n ≤ 100000000) (A : Facts) (hy : Sub y.L A) : Gives Try.prog 13 [y.v] A (PV (comp y.l)) (fun p => bV (comp y.l) p) (fun p => pL (comp y.l) p.1) :=
  callT_gives_nil (z_comp y hn A hy) (fun _ _ h => h)
theorem tc_comp (y : Byt) (hn : y.n ≤ 100000000) (A : Facts) (hy : Sub y.L A) : Gives Try.prog 14 [y.v] A (PV (comp y.l)) (fun p => bV (comp y.l) p) (fun p => pL (comp y.l) p.1) :=
  callT_gives_nil (t_comp y hn A hy) (fun _ _ h => h)
section
variable {ρ : Operand → Value} {dst : Option Tmp} {type : TypeId} {pos : String} {after : Array Edge} {guard : Option (Nat × Bool)}
theorem build_5 (a b c d e : UInt8) (A : Facts) {x y z u v : Operand} (hx : ρ x = .int .u8 (a.toNat : Int) := by rfl) (hy : ρ y = .int .u8 (b.toNat : Int) := by rfl) (hz : ρ z = .int .u8 (c.toNat : Int) := by rfl) (hu : ρ u = .int .u8 (d.toNat : Int) := by rfl) (hv : ρ v = .int .u8 (e.toNat : Int) := by rfl) : GivesOp Try.prog (execOp ρ ⟨dst, .buildSlice 22 5 #[(0, x), (1, y), (2, z), (3, u), (4, v)], type, pos, after, guard⟩) A Nat (fun m => (Byt.row m [a, b, c, d, e]).v) (fun m => (Byt.row m [a, b, c, d, e]).L) := by
  obtain ⟨i, hi, hs, _, h0⟩ := info_u8
  refine gives_alloc (F := []) id (.cells (bcs [a, b, c, d, e]).toArray 5) (fun w => ?_) (fun k => rfl) (fun _ h => by cases h)
  have hf : Instr.fill (fun j => some (j * 1, 1)) ((Array.range (5 * 1)).map ((Value.int .u8 0).cells[· % (Value.int .u8 0).cells.size]!)) [(0, .int .u8 (a.toNat : Int)), (1, .int .u8 (b.toNat : Int)), (2, .int .u8 (c.toNat : Int)), (3, .int .u8 (d.toNat : Int)), (4, .int .u8 (e.toNat : Int))] = some (bcs [a, b, c, d, e]).toArray := by kernel_rfl
  have hb := run_buildSlice w 22 5 5 #[(0, .int .u8 (a.toNat : Int)), (1, .int .u8 (b.toNat : Int)), (2, .int .u8 (c.toNat : Int)), (3, .int .u8 (d.toNat : Int)), (4, .int .u8 (e.toNat : Int))] (bcs [a, b, c, d, e]).toArray i (.int .u8 0) Try.underlying22 hi h0 (by rw [hs]; decide) (by rw [hs]; decide) (by rw [hs]; exact hf)
  simp [execOp, hx, hy, hz, hu, hv, hb, Byt.row]
end
/-- A row of bytes with the run-time's mark behind it. -/
def Byt.rowz (m : Nat) (l : Bs) (fr : Nat × Nat) : Byt where
  o := some ⟨m, 0, none⟩
  n := l.length
  cap := l.length
  l := l
  L := [(m, .cells (bcs l).toArray 5 fr)]
  hl := rfl
  hc := Nat.le_refl _
  hs := fun _ => rfl
  h := fun w hw i hi => by
    have h1 := hw _ (List.mem_singleton.2 rfl)
    simp only at h1
    simp only [Option.getD_some, add_none, Nat.zero_add]
    simp only [World.cell?, h1]
    rw [List.getElem?_toArray]
    exact bcs_get hi
section
variable {ρ : Operand → Value} {dst : Option Tmp} {type : TypeId} {pos : String} {after : Array Edge} {guard : Option (Nat × Bool)}
/-- An operation that makes one block: the block is a thing. -/
theorem thg_alloc {m : Sem Next} {A : Facts} {ret : Nat → Value} {M : Nat → Facts} (obj : Obj) (hr : ∀ w, m.run Try.prog w = .ok (.value (ret w.heap.size)) (w.alloc obj)) (hM : ∀ k, M k = [(k, obj)]) : GivesT Try.prog m A (fun F => F = []) Nat ret (fun _ => []) (fun k G => G = M k) := by
  intro w F hT hw hF hap
  subst hT
  unfold OpRunT
  rw [hr]
  have hh : (w.alloc obj).heap = w.heap.push obj := rfl
  refine ⟨w.heap.size, _, rfl, rfl, fun _ h => (by cases h), ?_, fun _ h => (by cases h), fun _ h => (by cases h), ?_, ⟨rfl, rfl, rfl, by rw [hh, Array.size_push]; exact Nat.le_succ _, fun k hk _ => by rw [hh, Array.getElem?_push, if_neg (Nat.ne_of_lt hk)]⟩⟩
  · rw [hM]
    intro q hq
    obtain rfl := List.mem_singleton.1 hq
    rw [hh, Array.getElem?_push, if_pos rfl]
  · rw [hM]
    intro q hq
    obtain rfl := List.mem_singleton.1 hq
    exact .inl (Nat.le_refl _)
theorem thg_build {n : Nat} {ps : Array (Nat × Operand)} (l : Bs) (hf : ∀ ρ : Operand → Value, (∀ v, ρ (.const v) = v) → Instr.fill (fun j => some (j * 1, 1)) ((Array.range (n * 1)).map ((Value.int .u8 0).cells[· % (Value.int .u8 0).cells.size]!)) (ps.toList.map fun q => (q.1, ρ q.2)) = some (bcs l).toArray) (hn : n = l.length) (hn2 : 0 < n ∧ n ≤ 1000) (A : Facts) (hρ : ∀ v, ρ (.const v) = v := by exact fun _ => rfl) :
    GivesT Try.prog (execOp ρ ⟨dst, .buildSlice 22 n ps, type, pos, after, guard⟩) A (fun F => F = []) Nat (fun m => (Byt.row m l).v) (fun _ => []) (fun m G => G = (Byt.row m l).L) := by
  subst hn
  obtain ⟨i, hi, hs, hb, h0⟩ := info_u8
  refine thg_alloc (.cells (bcs l).toArray 5) (fun w => ?_) (fun k => rfl)
  have hb := run_buildSlice w 22 5 l.length (ps.map fun q => (q.1, ρ q.2)) (bcs l).toArray i (.int .u8 0) Try.underlying22 hi h0 (by rw [hs]; have e : (2 : Nat) ^ 24 = 16777216 := rfl; omega) (by rw [hs]; omega) (by rw [hs, Array.toList_map]; exact hf ρ hρ)
  simp [execOp, hb, Byt.row]
/-- The conversion of a constant's bytes: the run-time's mark is set behind them. -/
theorem thg_mark {m : Nat} {l : Bs} (A : Facts) {X : Operand} (hx : ρ X = (Byt.row m l).v := by rfl) : GivesT Try.prog (execOp ρ ⟨dst, .convert 22 22 X, type, pos, after, guard⟩) A (fun G => G = (Byt.row m l).L) Nat (fun k => (Byt.rowz k l (l.length, l.length + 1)).v) (fun _ => []) (fun k G => G = (Byt.rowz k l (l.length, l.length + 1)).L) := by
  intro w F hT hw hF hap
  subst hT
  have h1 : w.heap[m]? = some (.cells (bcs l).toArray 5) := hF _ (List.mem_singleton.2 rfl)
  have hlt : m < w.heap.size := lt_of_some h1
  have hsh : w.shape? m = some (5, l.length) := by
    unfold World.shape?
    rw [h1]
    simp [bcs_length]
  have hrun : (execOp ρ ⟨dst, .convert 22 22 X, type, pos, after, guard⟩).run Try.prog w = .ok (.value (Byt.row m l).v) (w.freeze ⟨m, l.length, none⟩ 1) := by
    rw [show execOp ρ ⟨dst, .convert 22 22 X, type, pos, after, guard⟩ = (do let v ← convert 22 22 (ρ X); pure (.value v)) from rfl, hx]
    simp [convert, run_underlying Try.underlying22, run_underlying Try.underlying5, markStringish, hsh, Byt.row]
  have hh : (w.freeze ⟨m, l.length, none⟩ 1).heap = w.heap.modify m fun
      | .cells c elem (lo, hi) => .cells c elem (if lo == hi then (l.length, l.length + 1) else (min lo l.length, max hi (l.length + 1)))
      | o => o := by
    unfold World.freeze
    rw [if_neg (by decide)]
    rfl
  have hm : (w.freeze ⟨m, l.length, none⟩ 1).heap[m]? = some (.cells (bcs l).toArray 5 (l.length, l.length + 1)) := by
    rw [hh, Array.getElem?_modify, if_pos rfl, h1]
    rfl
  have ho : ∀ j, j ≠ m → (w.freeze ⟨m, l.length, none⟩ 1).heap[j]? = w.heap[j]? := fun j hj => by
    rw [hh, Array.getElem?_modify, if_neg (Ne.symm hj)]
  have hz : (w.freeze ⟨m, l.length, none⟩ 1).heap.size = w.heap.size := by rw [hh, Array.size_modify]
  have hw' : (w.freeze ⟨m, l.length, none⟩ 1).os = w.os ∧ (w.freeze ⟨m, l.length, none⟩ 1).tape = w.tape ∧ (w.freeze ⟨m, l.length, none⟩ 1).output = w.output := by
    unfold World.freeze
    rw [if_neg (by decide)]
    exact ⟨rfl, rfl, rfl⟩
  unfold OpRunT
  rw [hrun]
  refine ⟨m, _, rfl, rfl, fun _ h => (by cases h), ?_, fun _ h => (by cases h), fun _ h => (by cases h), ?_, ⟨hw'.1, hw'.2.1, hw'.2.2, by rw [hz]; exact Nat.le_refl _, fun k hk hq => ho k fun e => hq _ (List.mem_singleton.2 rfl) e.symm⟩⟩
  · intro q hq
    obtain rfl := List.mem_singleton.1 hq
    exact hm
  · intro q hq
    obtain rfl := List.mem_singleton.1 hq
    exact .inr ⟨_, List.mem_singleton.2 rfl, rfl⟩
end
section
variable {P : Program} {f : FuncId} {l : List Value} {A F : Facts} {X : Type} {ret : X → Value}
/-- A call that makes a thing of nothing, while it reads the thing F. -/
theorem callT_new {T' : X → TP} {M : X → Facts} (h : CallT P f l (A ++ F) (fun G => G = []) X ret (fun _ => []) T') (hT : ∀ x G, T' x G → G = M x) : CallR P f l A F X ret M := by
  intro w hA hF _
  refine Sx.CallRun.mono (h w [] rfl (fun q hq => (List.mem_append.1 hq).elim (hA q) (hF q)) (fun _ h => by cases h) (fun _ _ _ h => by cases h)) ?_
  rintro v w' ⟨x, F', e, g1, g2, g3, g4, g5, g6, g7⟩
  obtain rfl := hT x F' g1
  exact ⟨x, e, g3, fun q hq => .inl ((g6 q hq).resolve_right fun ⟨_, h, _⟩ => by cases h), g7.below⟩
theorem gives_rd (h : Gives P f l (A ++ F) X ret (fun _ => [])) : CallR P f l A F X ret (fun _ => []) := by
  intro w hA hF _
  refine Sx.CallRun.mono (h w (fun q hq => (List.mem_append.1 hq).elim (hA q) (hF q))) ?_
  rintro v w' ⟨x, e, g1, g2, g3⟩
  exact ⟨x, e, fun _ h => (by cases h), fun _ h => (by cases h), g3⟩
end
def aw4 : Bs := [97, 98, 99, 100]
def aw5 : Bs := [4, 97, 98, 99, 100]
def aw6 : Bs := [97, 97, 97, 97, 97, 97]
theorem aw_c4 : comp aw4 = aw5 := by decide +kernel
theorem aw_c6 : comp aw6 = [1, 97, 129, 0, 0] := by decide +kernel
theorem aw_d : dec [0] = (3, []) := rfl
theorem aw_fin : Value.bool ((((dec [0]).1 : Nat) : Int) == 3) = .bool true := rfl
theorem rt_dec {l : Bs} (h : l.length ≤ 65536) : (dec (comp l)).2 = l := by rw [dec_comp l h]
theorem rt_code {l : Bs} (h : l.length ≤ 65536) : ((((dec (comp l)).1 : Nat) : Int) == 0) = true := by rw [dec_comp l h]; rfl
theorem rt_add {n : Nat} (h : n ≤ 1500) : IntKind.i64.wrap ((n : Int) + IntKind.i64.wrap (((n + 126 : Nat) : Int).tdiv 127)) = ((n + (n + 126) / 127 : Nat) : Int) := by
  rw [show (((n + 126 : Nat) : Int).tdiv 127) = (((n + 126) / 127 : Nat) : Int) from rfl, wrap_nat (by omega), show ((n : Int) + (((n + 126) / 127 : Nat) : Int)) = ((n + (n + 126) / 127 : Nat) : Int) by omega, wrap_nat (by omega)]
theorem rt_len (y : Byt) : decide ((((comp y.l).length : Nat) : Int) ≤ ((y.n + (y.n + 126) / 127 : Nat) : Int)) = true := by
  have := comp_bound y.l
  rw [y.hl] at this
  exact len_t this
theorem cc_dec {a b : Bs} (h : a.length + b.length ≤ 65536) : (dec (comp a ++ comp b)).2 = a ++ b := by rw [dec_comp2 a b h]
theorem cc_code {a b : Bs} (h : a.length + b.length ≤ 65536) : ((((dec (comp a ++ comp b)).1 : Nat) : Int) == 0) = true := by rw [dec_comp2 a b h]; rfl
theorem comp_le (y : Byt) {k : Nat} (h : y.n ≤ k) : (comp y.l).length ≤ k + (k + 126) / 127 := by
  have := comp_bound y.l
  rw [y.hl] at this
  have : (y.n + 126) / 127 ≤ (k + 126) / 127 := Nat.div_le_div_right (by omega)
  omega
abbrev frB (c : List Value) (l : Bs) (e : c = bcs l) (x : FrX c) : Byt := Byt.ofFr c l e x
theorem frB_n (c : List Value) (l : Bs) (e : c = bcs l) (x : FrX c) : (frB c l e x).n = l.length := (frB c l e x).hl.symm
theorem good_pontagelaw9_awake : Good Try.prog 11 Try.f11 0 := ⟨Try.func11, by kernel_rfl, by kernel_rfl⟩
theorem z_aw0 (A : Facts) : Gives Try.prog 11 [] A (Unit) (fun _ => .bool true) (fun _ => []) :=
  gives_of_vcF Try.mixed good_pontagelaw9_awake (args := []) (B := A) (O := [.reg [(0, .thg 1 Nat 0 (fun m => (Byt.row m aw4).v) (fun _ => []) (fun m G => G = (Byt.row m aw4).L)), (1, .thg 1 Nat 0 (fun m => (Byt.rowz m aw4 (4, 5)).v) (fun _ => []) (fun m G => G = (Byt.rowz m aw4 (4, 5)).L)), (2, .rdT 1 (PV (comp aw4)) (pv0 _) (fun p => bV (comp aw4) p) (fun p => pL (comp aw4) p.1)), (3, .thg 2 Nat 0 (fun m => (Byt.row m aw6).v) (fun _ => []) (fun m G => G = (Byt.row m aw6).L)), (4, .thg 2 Nat 0 (fun m => (Byt.rowz m aw6 (6, 7)).v) (fun _ => []) (fun m G => G = (Byt.rowz m aw6 (6, 7)).L)), (5, .rdT 2 (PV (comp aw6)) (pv0 _) (fun p => bV (comp aw6) p) (fun p => pL (comp aw6) p.1))], .reg [(0, .call Nat 0 (fun m => (Byt.row m [0]).v) (fun m => (Byt.row m [0]).L)), (1, .call (PV (dec [0]).2) (pv0 _) (fun p => .tuple #[bV (dec [0]).2 p, .int .i64 (((dec [0]).1 : Nat) : Int)]) (fun p => pL (dec [0]).2 p.1))], .reg [(1, .thg 3 Nat 0 (fun m => (Byt.row m aw5).v) (fun _ => []) (fun m G => G = (Byt.row m aw5).L)), (2, .thg 3 Nat 0 (fun m => (Byt.rowz m aw5 (5, 6)).v) (fun _ => []) (fun m G => G = (Byt.rowz m aw5 (5, 6)).L)), (3, .rdT 3 Unit () (fun _ => .bool (decide (comp aw4 = aw5))) (fun _ => [])), (5, .yes), (6, .call Nat 0 (fun m => (Byt.row m [1, 97, 129, 0, 0]).v) (fun m => (Byt.row m [1, 97, 129, 0, 0]).L)), (7, det (.bool (decide (comp aw6 = [1, 97, 129, 0, 0])))), (8, .yes), (10, .yes), (11, .yes), (12, .yes)]]) (.app ((.refl _)) (.nil _)) (⟨thg_build aw4 (fun ρ h => by simp only [List.map, h]; kernel_rfl) rfl (by decide) _, fun r4a => ⟨thg_mark (m := r4a) (l := aw4) _, fun r4 => ⟨fun _ g => by subst g; exact callR_op (callT_new (z_comp (Byt.rowz r4 aw4 (4, 5)) (show 4 ≤ 100000000 by decide) _ (fun _ h => List.mem_append.2 (.inr h))) (fun _ _ h => h)) rfl rfl, fun p4 => ⟨thg_build aw6 (fun ρ h => by simp only [List.map, h]; kernel_rfl) rfl (by decide) _, fun r6a => ⟨thg_mark (m := r6a) (l := aw6) _, fun r6 => ⟨fun _ g => by subst g; exact callR_op (callT_new (z_comp (Byt.rowz r6 aw6 (6, 7)) (show 6 ≤ 100000000 by decide) _ (fun _ h => List.mem_append.2 (.inr h))) (fun _ _ h => h)) rfl rfl, fun p6 => ⟨build_1 0 _, fun r1 => ⟨z_dec (Byt.row r1 [0]) _ (by intro zz h; have h : zz ∈ (Byt.row r1 [0]).L := h; exact List.mem_append.2 (.inr (by simpa using h))), fun q1 => ⟨thg_build aw5 (fun ρ h => by simp only [List.map, h]; kernel_rfl) rfl (by decide) _, fun e4a => ⟨thg_mark (m := e4a) (l := aw5) _, fun e4 => ⟨fun _ g => by subst g; exact callR_op (gives_rd (c_eqb (Byt.ofP (comp aw4) p4) (Byt.rowz e4 aw5 (5, 6)) _ (by intro zz h; have h : zz ∈ pL (comp aw4) p4.1 := h; simp [h]) (fun _ h => List.mem_append.2 (.inr h)))) rfl rfl, fun _ => ⟨gtt (decide_eq_true aw_c4), ⟨⟨gtt (decide_eq_true aw_c4), build_5 1 97 129 0 0 _⟩, fun e6 => ⟨⟨gtt (decide_eq_true aw_c4), c_eqb (Byt.ofP (comp aw6) p6) (Byt.row e6 [1, 97, 129, 0, 0]) _ (by intro zz h; have h : zz ∈ pL (comp aw6) p6.1 := h; simp [h]) (by intro zz h; have h : zz ∈ (Byt.row e6 [1, 97, 129, 0, 0]).L := h; simp [h])⟩, fun _ => ⟨(decide_eq_true aw_c4), ⟨gtt (decide_eq_true aw_c6), ⟨gtt (decide_eq_true aw_c6), ⟨(decide_eq_true aw_c6), ⟨(), aw_fin, nofun⟩⟩⟩⟩⟩⟩⟩⟩⟩⟩⟩⟩⟩⟩⟩⟩⟩⟩⟩)
theorem good_pontagelaw9_LZCompress : Good Try.prog 3 Try.f3 1 := ⟨Try.func3, by kernel_rfl, by kernel_rfl⟩
theorem good_pontagelaw9_LZRoundTrip : Good Try.prog 6 Try.f6 1 := ⟨Try.func6, by kernel_rfl, by kernel_rfl⟩
theorem good_pontagelaw9_LZConcatenation : Good Try.prog 10 Try.f10 2 := ⟨Try.func10, by kernel_rfl, by kernel_rfl⟩
theorem l_co_a (y : Byt) (A : Facts) (_hy : Sub y.L A) (h : 1500 < y.n) : Gives Try.prog 3 [y.v] A (Unit) (fun _ => .bool true) (fun _ => []) :=
  gives_of_vcF Try.mixed good_pontagelaw9_LZCompress (args := [(y.v, y.L)]) (B := A) (O := [.yes, .reg [(0, det (.bool true))]]) (.app ((.refl _)) (.app (_hy) (.nil _))) (⟨(gtn_t (b := 1500) h), ⟨z_aw0 _, fun _ => ⟨(), rfl, nofun⟩⟩⟩)
theorem l_co_b (y : Byt) (A : Facts) (hy : Sub y.L A) (h : y.n ≤ 1500) : Gives Try.prog 3 [y.v] A (Unit) (fun _ => .bool true) (fun _ => []) :=
  gives_of_vcF Try.mixed good_pontagelaw9_LZCompress (args := [(y.v, y.L)]) (B := A) (O := [.no, .reg [(1, .call (PV (comp y.l)) (pv0 _) (fun p => bV (comp y.l) p) (fun p => pL (comp y.l) p.1)), (3, .call (PV (comp y.l)) (pv0 _) (fun p => bV (comp y.l) p) (fun p => pL (comp y.l) p.1)), (4, det (.bool (decide (comp y.l = comp y.l)))), (6, det (.bool true)), (7, .yes)]]) (.app ((.refl _)) (.app (hy) (.nil _))) (⟨(gtn_f (b := 1500) h), ⟨zc_comp y (by omega) _ (by intro q h; simp [h]), fun p => ⟨tc_comp y (by omega) _ (by intro q h; simp [h]), fun q => ⟨c_eqb (Byt.ofP (comp y.l) p) (Byt.ofP (comp y.l) q) _ (by intro zz h; have h : zz ∈ pL (comp y.l) p.1 := h; simp [h]) (by intro zz h; have h : zz ∈ pL (comp y.l) q.1 := h; simp [h]), fun _ => ⟨⟨gtt (decide_eq_true rfl), z_aw0 _⟩, fun _ => ⟨(decide_eq_true rfl), ⟨(), rfl, nofun⟩⟩⟩⟩⟩⟩⟩)
theorem l_rt_a (y : Byt) (A : Facts) (_hy : Sub y.L A) (h : 1500 < y.n) : Gives Try.prog 6 [y.v] A (Unit) (fun _ => .bool true) (fun _ => []) :=
  gives_of_vcF Try.mixed good_pontagelaw9_LZRoundTrip (args := [(y.v, y.L)]) (B := A) (O := [.yes, .reg [(0, det (.bool true))]]) (.app ((.refl _)) (.app (_hy) (.nil _))) (⟨(gtn_t (b := 1500) h), ⟨z_aw0 _, fun _ => ⟨(), rfl, nofun⟩⟩⟩)
theorem l_rt_b (y : Byt) (A : Facts) (hy : Sub y.L A) (h : y.n ≤ 1500) : Gives Try.prog 6 [y.v] A (Unit) (fun _ => .bool true) (fun _ => []) :=
  gives_of_vcF Try.mixed good_pontagelaw9_LZRoundTrip (args := [(y.v, y.L)]) (B := A) (O := [.no, .reg [(1, .call (PV (comp y.l)) (pv0 _) (fun p => bV (comp y.l) p) (fun p => pL (comp y.l) p.1))], .reg [(1, .call (PV (dec (comp y.l)).2) (pv0 _) (fun p => .tuple #[bV (dec (comp y.l)).2 p, .int .i64 (((dec (comp y.l)).1 : Nat) : Int)]) (fun p => pL (dec (comp y.l)).2 p.1))], .reg [(2, det (.bool (decide ((dec (comp y.l)).2 = y.l)))), (4, .yes), (5, .yes), (6, .yes), (8, .yes), (9, .yes), (10, .yes), (11, .yes), (12, .yes), (13, .yes), (14, .ld (.int .i64 ((y.n + 126 : Nat) : Int))), (15, .yes), (16, .ld (.int .i64 ((y.n + (y.n + 126) / 127 : Nat) : Int))), (17, .yes), (18, .yes), (20, det (.bool true)), (21, .yes)]]) (.app ((.refl _)) (.app (hy) (.nil _))) (⟨(gtn_f (b := 1500) h), ⟨zc_comp y (by omega) _ (by intro q h; simp [h]), fun p => ⟨z_dec (Byt.ofP (comp y.l) p) _ (by intro zz h; have h : zz ∈ pL (comp y.l) p.1 := h; simp [h]), fun q => ⟨c_eqb (Byt.ofP (dec (comp y.l)).2 q) y _ (by intro zz h; have h : zz ∈ pL (dec (comp y.l)).2 q.1 := h; simp [h]) (by intro q h; simp [h]), fun _ => ⟨gtt (decide_eq_true (rt_dec (by rw [y.hl]; omega))), ⟨gtt (decide_eq_true (rt_dec (by rw [y.hl]; omega))), ⟨(decide_eq_true (rt_dec (by rw [y.hl]; omega))), ⟨gtt (rt_code (by rw [y.hl]; omega)), ⟨gtt (rt_code (by rw [y.hl]; omega)), ⟨gtt (rt_code (by rw [y.hl]; omega)), ⟨gtt (rt_code (by rw [y.hl]; omega)), ⟨gtt (rt_code (by rw [y.hl]; omega)), ⟨gtt (rt_code (by rw [y.hl]; omega)), ⟨⟨gtt (rt_code (by rw [y.hl]; omega)), ld_add (add_n9 (b := 126) (by omega)) _⟩, ⟨⟨gtt (rt_code (by rw [y.hl]; omega)), ⟨by decide, rfl⟩⟩, ⟨⟨gtt (rt_code (by rw [y.hl]; omega)), ld_add (rt_add h) _⟩, ⟨gtt (rt_code (by rw [y.hl]; omega)), ⟨(rt_code (by rw [y.hl]; omega)), ⟨⟨gtt (rt_len y), z_aw0 _⟩, fun _ => ⟨(rt_len y), ⟨(), rfl, nofun⟩⟩⟩⟩⟩⟩⟩⟩⟩⟩⟩⟩⟩⟩⟩⟩⟩⟩⟩⟩⟩)
theorem l_cc_a (y z : Byt) (A : Facts) (_hy : Sub y.L A) (_hz : Sub z.L A) (h : 600 < y.n) : Gives Try.prog 10 [y.v, z.v] A (Unit) (fun _ => .bool true) (fun _ => []) :=
  gives_of_vcF Try.mixed good_pontagelaw9_LZConcatenation (args := [(y.v, y.L), (z.v, z.L)]) (B := A) (O := [.reg [(4, .no), (5, .no), (6, .no), (7, .yes)], .yes, .reg [(0, det (.bool true))]]) (.app ((.refl _)) (.app (_hy) (.app (_hz) (.nil _)))) (⟨gft (gtn_t (b := 600) h), ⟨gft (gtn_t (b := 600) h), ⟨gft (gtn_t (b := 600) h), ⟨(gtn_t (b := 600) h), ⟨rfl, ⟨z_aw0 _, fun _ => ⟨(), rfl, nofun⟩⟩⟩⟩⟩⟩⟩)
theorem l_cc_b (y z : Byt) (A : Facts) (_hy : Sub y.L A) (_hz : Sub z.L A) (h0 : y.n ≤ 600) (h : 600 < z.n) : Gives Try.prog 10 [y.v, z.v] A (Unit) (fun _ => .bool true) (fun _ => []) :=
  gives_of_vcF Try.mixed good_pontagelaw9_LZConcatenation (args := [(y.v, y.L), (z.v, z.L)]) (B := A) (O := [.reg [(4, .yes), (5, .yes), (6, .yes), (7, .no)], .yes, .reg [(0, det (.bool true))]]) (.app ((.refl _)) (.app (_hy) (.app (_hz) (.nil _)))) (⟨gff (gtn_f (b := 600) h0), ⟨gff (gtn_f (b := 600) h0), ⟨gff (gtn_f (b := 600) h0), ⟨(gtn_f (b := 600) h0), ⟨(gtn_t (b := 600) h), ⟨z_aw0 _, fun _ => ⟨(), rfl, nofun⟩⟩⟩⟩⟩⟩⟩)
theorem l_cc_c (y z : Byt) (A : Facts) (hy : Sub y.L A) (hz : Sub z.L A) (h0 : y.n ≤ 600) (h : z.n ≤ 600) : Gives Try.prog 10 [y.v, z.v] A (Unit) (fun _ => .bool true) (fun _ => []) :=
  gives_of_vcF Try.mixed good_pontagelaw9_LZConcatenation (args := [(y.v, y.L), (z.v, z.L)]) (B := A) (O := [.reg [(4, .yes), (5, .yes), (6, .yes), (7, .no)], .no, .reg [(0, .call Nat 0 (fun m => (Byt.row m []).v) (fun m => (Byt.row m []).L)), (2, .call (PV (comp y.l)) (pv0 _) (fun p => bV (comp y.l) p) (fun p => pL (comp y.l) p.1)), (3, .own Unit () 5 1 (fun _ => bcs (comp y.l))), (5, .call (PV (comp z.l)) (pv0 _) (fun p => bV (comp z.l) p) (fun p => pL (comp z.l) p.1)), (6, .appf (comp z.l).length (bcs (comp z.l))), (7, .call (PV (dec (comp y.l ++ comp z.l)).2) (pv0 _) (fun p => .tuple #[bV (dec (comp y.l ++ comp z.l)).2 p, .int .i64 (((dec (comp y.l ++ comp z.l)).1 : Nat) : Int)]) (fun p => pL (dec (comp y.l ++ comp z.l)).2 p.1))], .reg [(1, .call Nat 0 (fun m => (Byt.row m []).v) (fun m => (Byt.row m []).L)), (3, .own Unit () 5 1 (fun _ => bcs y.l)), (5, .appf z.n (bcs z.l)), (6, det (.bool (decide ((dec (comp y.l ++ comp z.l)).2 = y.l ++ z.l)))), (8, .yes), (9, .yes), (10, .yes), (12, det (.bool true)), (13, .yes)]]) (.app ((.refl _)) (.app (hy) (.app (hz) (.nil _)))) (⟨gff (gtn_f (b := 600) h0), ⟨gff (gtn_f (b := 600) h0), ⟨gff (gtn_f (b := 600) h0), ⟨(gtn_f (b := 600) h0), ⟨(gtn_f (b := 600) h), ⟨build_0 _, fun r0 => ⟨zc_comp y (by omega) _ (by intro q h; simp [h]), fun p => ⟨own_app (Byt.ofP (comp y.l) p) (by intro zz h; have h : zz ∈ pL (comp y.l) p.1 := h; simp [h]) (by have := comp_le y h0; show (comp y.l).length ≤ _; omega), fun _ => ⟨zc_comp z (by omega) _ (by intro q h; simp [h]), fun q => ⟨⟨(Byt.ofP (comp z.l) q).src (by intro zz h; have h : zz ∈ pL (comp z.l) q.1 := h; simp [h]), by have := comp_le y h0; have := comp_le z h; show (bcs (comp y.l)).length + (bcs (comp z.l)).length ≤ _; rw [bcs_length, bcs_length]; omega⟩, fun x => ⟨z_dec (frB _ (comp y.l ++ comp z.l) (bcs_append _ _) x) _ (by intro zz h; have h : zz ∈ frL 5 x := h; simp [h]), fun u => ⟨build_0 _, fun r2 => ⟨own_app y (by intro q h; simp [h]) (by omega), fun _ => ⟨⟨z.src (by intro q h; simp [h]), by show (bcs y.l).length + (bcs z.l).length ≤ _; rw [bcs_length, bcs_length, y.hl, z.hl]; omega⟩, fun v => ⟨c_eqb (Byt.ofP (dec (comp y.l ++ comp z.l)).2 u) (frB _ (y.l ++ z.l) (bcs_append _ _) v) _ (by intro zz h; have h : zz ∈ pL (dec (comp y.l ++ comp z.l)).2 u.1 := h; simp [h]) (by intro zz h; have h : zz ∈ frL 5 v := h; simp [h]), fun _ => ⟨gtt (decide_eq_true (cc_dec (by rw [y.hl, z.hl]; omega))), ⟨gtt (decide_eq_true (cc_dec (by rw [y.hl, z.hl]; omega))), ⟨(decide_eq_true (cc_dec (by rw [y.hl, z.hl]; omega))), ⟨⟨gtt (cc_code (by rw [y.hl, z.hl]; omega)), z_aw0 _⟩, fun _ => ⟨(cc_code (by rw [y.hl, z.hl]; omega)), ⟨(), rfl, nofun⟩⟩⟩⟩⟩⟩⟩⟩⟩⟩⟩⟩⟩⟩⟩⟩⟩⟩⟩⟩⟩)
theorem co_law9 (y : Byt) (A : Facts) (hy : Sub y.L A) : Gives Try.prog 3 [y.v] A Unit (fun _ => .bool true) (fun _ => []) := by
  rcases Nat.lt_or_ge 1500 y.n with h | h
  · exact l_co_a y A hy h
  · exact l_co_b y A hy h
theorem rt_law9 (y : Byt) (A : Facts) (hy : Sub y.L A) : Gives Try.prog 6 [y.v] A Unit (fun _ => .bool true) (fun _ => []) := by
  rcases Nat.lt_or_ge 1500 y.n with h | h
  · exact l_rt_a y A hy h
  · exact l_rt_b y A hy h
theorem cc_law9 (y z : Byt) (A : Facts) (hy : Sub y.L A) (hz : Sub z.L A) : Gives Try.prog 10 [y.v, z.v] A Unit (fun _ => .bool true) (fun _ => []) := by
  rcases Nat.lt_or_ge 600 y.n with h0 | h0
  · exact l_cc_a y z A hy hz h0
  · rcases Nat.lt_or_ge 600 z.n with h | h
    · exact l_cc_b y z A hy hz h0 h
    · exact l_cc_c y z A hy hz h0 h
end Go.Proofs.Ytmgjlfcoikobaaa

