/- Layer 11: the accounts of a map, one after the other: the library's iterator over a map's values, for every loop body. No conditions. -/
import Derived.Test.YtkibbcomfjhgpaaDoorK1c
import Derived.Test.YtkibbcomfjhgpaaDoorK1t
import Derived.RangeFuncNested
import Derived.RangeFuncBound
import Derived.RangeFuncCalls
import Derived.RangeFuncLeaves
import Derived.RangeFuncStops
import Derived.RangeFuncWrites
import Derived.RangeFuncFrom
import Derived.RangeFuncBox
import Derived.OwnWalkIn
import Derived.TacticsInMore
import Derived.LoopNIn
import Derived.LoopIn
import Derived.Maps.OwnIn
import Derived.Maps.AppendAt
import Derived.Maps.RangeRun
namespace Go.Proofs.YtkibbcomfjhgpaaDoor
set_option maxRecDepth 100000
open Go.RowKit Go.Maps Go.ChangeMaps

theorem info_A : ∃ i, Tryd.prog.info? 58 = some i ∧ i.size = 6 := by
  have h1 : (Tryd.prog.info? 58).map (fun i => i.size) = some 6 := by kernel_rfl
  cases h : Tryd.prog.info? 58 with
  | none => rw [h] at h1; cases h1
  | some i => rw [h] at h1; simp at h1; exact ⟨i, rfl, h1⟩
section
variable {F : Fence} {nF : Nat} {ops : Array Oper} {rest : List Oper} {o : Oper} {a : Act} {Q : Exit → Act → World → Prop} {w : World}
/-- One operation whose run is known. -/
theorem in_op {w' : World} {v : Value} (hg : o.guard = none) (hc : ∀ c, o.op ≠ .defer c) (hab : o.about Tryd.prog w a.eval = none) (hrun : (execOp a.eval o).run Tryd.prog w = .ok (.value v) w') (h : wpListIn F nF Tryd.prog ops Q rest (a.put o.dst v) w') :
    wpListIn F nF Tryd.prog ops Q (o :: rest) a w := by
  refine wpListIn_plain hg fun K hK => ?_
  unfold Oper.wpIn
  refine ⟨fun f hf => (by rw [hab] at hf; cases hf), ?_⟩
  rw [Oper.semAt_plain F _ _ hc, hrun]
  exact hK _ _ h
theorem in_op0 {w' : World} (hg : o.guard = none) (hc : ∀ c, o.op ≠ .defer c) (hab : o.about Tryd.prog w a.eval = none) (hrun : (execOp a.eval o).run Tryd.prog w = .ok .skip w') (h : wpListIn F nF Tryd.prog ops Q rest (a.put o.dst undef) w') :
    wpListIn F nF Tryd.prog ops Q (o :: rest) a w := by
  refine wpListIn_plain hg fun K hK => ?_
  unfold Oper.wpIn
  refine ⟨fun f hf => (by rw [hab] at hf; cases hf), ?_⟩
  rw [Oper.semAt_plain F _ _ hc, hrun]
  exact hK _ _ h
theorem in_range {d : Option Tmp} {ty : TypeId} {pos : String} {af : Array Edge} {X : Operand} {b clock : Nat} {es : Array MapEntry} (hm : a.eval X = .map (some b)) (hb : w.heap[b]? = some (.map es clock))
    (h : wpListIn F nF Tryd.prog ops Q rest (a.put d (.pointer (some ⟨w.heap.size, 0, none⟩))) (w.alloc (.mapIter (some b) clock #[] clock))) :
    wpListIn F nF Tryd.prog ops Q (⟨d, .range 65 X, ty, pos, af, none⟩ :: rest) a w := by
  refine in_op rfl (fun c h => by cases h) rfl ?_ h
  simp only [execOp, Instr.range, Sem.run_bind, run_underlying Tryd.underlying65, Result.andThen_ok, hm, MapKept.run_getObj_map hb]
  rfl
theorem in_range0 {d : Option Tmp} {ty : TypeId} {pos : String} {af : Array Edge} {X : Operand} (hm : a.eval X = .map none)
    (h : wpListIn F nF Tryd.prog ops Q rest (a.put d (.pointer (some ⟨w.heap.size, 0, none⟩))) (w.alloc (.mapIter none 0 #[] 0))) :
    wpListIn F nF Tryd.prog ops Q (⟨d, .range 65 X, ty, pos, af, none⟩ :: rest) a w := by
  refine in_op rfl (fun c h => by cases h) rfl ?_ h
  simp only [execOp, Instr.range, Sem.run_bind, run_underlying Tryd.underlying65, Result.andThen_ok, hm]
  rfl
/-- A range over the entries l under way, of which those of ps have come. -/
structure RG (W : World) (b r : Nat) (l : List (Ac × Nat)) (clock : Nat) (ps : List (Ac × Nat)) : Prop where
  map : W.heap[b]? = some (.map (ents l).toArray clock)
  it : ∃ seen c0, W.heap[r]? = some (.mapIter (some b) clock seen c0) ∧ clock ≤ c0 ∧ seen.toList = ps.map (·.2)
  mem : ∀ q ∈ ps, q ∈ l
  once : (ps.map (·.2)).Nodup
theorem inj_of_nodup {l : List (Ac × Nat)} (h : (l.map (·.2)).Nodup) {x y : Ac × Nat} (hx : x ∈ l) (hy : y ∈ l) (e : x.2 = y.2) : x = y := by
  induction l with
  | nil => cases hx
  | cons z r ih =>
    have h' : z.2 ∉ r.map (·.2) ∧ (r.map (·.2)).Nodup := List.nodup_cons.1 h
    rcases List.mem_cons.1 hx with hx2 | hx2
    · rcases List.mem_cons.1 hy with hy2 | hy2
      · rw [hx2, hy2]
      · exact absurd (by rw [← hx2, e]; exact List.mem_map_of_mem (f := (·.2)) hy2) h'.1
    · rcases List.mem_cons.1 hy with hy2 | hy2
      · exact absurd (by rw [← hy2, ← e]; exact List.mem_map_of_mem (f := (·.2)) hx2) h'.1
      · exact ih h'.2 hx2 hy2
theorem nodup_of_map {l : List (Ac × Nat)} (h : (l.map (·.2)).Nodup) : l.Nodup := by
  induction l with
  | nil => exact List.nodup_nil
  | cons z r ih =>
    have h' : z.2 ∉ r.map (·.2) ∧ (r.map (·.2)).Nodup := List.nodup_cons.1 h
    exact List.nodup_cons.2 ⟨fun hm => h'.1 (List.mem_map_of_mem hm), ih h'.2⟩
theorem filter_len {α : Type} (p : α → Bool) (l : List α) : (l.filter p).length + (l.filter fun x => !p x).length = l.length := by
  induction l with
  | nil => rfl
  | cons x r ih =>
    cases h : p x with
    | true => rw [List.filter_cons_of_pos h, List.filter_cons_of_neg (by simp [h])]; simp only [List.length_cons]; omega
    | false => rw [List.filter_cons_of_neg (by simp [h]), List.filter_cons_of_pos (by simp [h])]; simp only [List.length_cons]; omega
theorem left_size {l ps : List (Ac × Nat)} {seen : Array Nat} (hb : (l.map (·.2)).Nodup) (hs : seen.toList = ps.map (·.2)) (hm : ∀ q ∈ ps, q ∈ l) (ho : (ps.map (·.2)).Nodup) : (leftOf (ents l).toArray seen).size + ps.length = l.length := by
  have e1 : (leftOf (ents l).toArray seen).size = (l.filter fun q => !seen.contains q.2).length := by
    unfold leftOf
    rw [← Array.length_toList, Array.toList_filter]
    show ((ents l).filter _).length = _
    unfold ents
    rw [List.filter_map, List.length_map]
    rfl
  have hin : ∀ q, q ∈ l → (seen.contains q.2 = true ↔ q ∈ ps) := fun q hq => by
    rw [← Array.contains_toList, hs, List.contains_iff_mem]
    refine ⟨fun h => ?_, fun h => List.mem_map_of_mem h⟩
    obtain ⟨z, hz, e⟩ := List.mem_map.1 h
    exact inj_of_nodup hb (hm z hz) hq e ▸ hz
  have hp : (l.filter fun q => seen.contains q.2).Perm ps := by
    refine (List.perm_ext_iff_of_nodup ((nodup_of_map hb).sublist List.filter_sublist) (nodup_of_map ho)).2 fun q => ?_
    rw [List.mem_filter]
    exact ⟨fun h => (hin q h.1).1 h.2, fun h => ⟨hm q h, (hin q (hm q h)).2 h⟩⟩
  have h2 := filter_len (fun q : Ac × Nat => seen.contains q.2) l
  rw [hp.length_eq] at h2
  rw [e1]
  omega
theorem perm_len {ps l : List (Ac × Nat)} (h1 : ps.Nodup) (h2 : ∀ q ∈ ps, q ∈ l) (h3 : ps.length = l.length) : ps.Perm l := by
  induction ps generalizing l with
  | nil =>
    cases l with
    | nil => exact .nil
    | cons _ _ => simp at h3
  | cons x r ih =>
    obtain ⟨n1, n2⟩ := List.nodup_cons.1 h1
    obtain ⟨s, t, rfl⟩ := List.append_of_mem (h2 x List.mem_cons_self)
    have := ih (l := s ++ t) n2 (fun q hq => by
      have h4 := h2 q (List.mem_cons_of_mem _ hq)
      rw [List.mem_append, List.mem_cons] at h4
      rw [List.mem_append]
      rcases h4 with h4 | rfl | h4
      · exact .inl h4
      · exact absurd hq n1
      · exact .inr h4) (by simp at h3 ⊢; omega)
    exact (this.cons x).trans List.perm_middle.symm
theorem RG.left {W : World} {b r clock : Nat} {l ps : List (Ac × Nat)} (h : RG W b r l clock ps) (hb : (l.map (·.2)).Nodup) : W.rangeLeft b r + ps.length = l.length := by
  obtain ⟨hm, ⟨seen, c0, hr, _, hs⟩, h1, h2⟩ := h
  unfold World.rangeLeft
  rw [hm, hr]
  exact left_size hb hs h1 h2
theorem RG.of_walks {W W' : World} {b r clock : Nat} {l ps : List (Ac × Nat)} (h : RG W b r l clock ps) (hk : KeepsWalks W W') : RG W' b r l clock ps := by
  obtain ⟨hm, ⟨seen, c0, hr, hc, hs⟩, h1, h2⟩ := h
  exact ⟨hk.same _ _ hm rfl, ⟨seen, c0, hk.same _ _ hr rfl, hc, hs⟩, h1, h2⟩
theorem in_next {d : Option Tmp} {ty : TypeId} {pos : String} {af : Array Edge} {X : Operand} {b r clock : Nat} {l ps : List (Ac × Nat)} (hb : (l.map (·.2)).Nodup) (hold : ∀ q ∈ l, q.2 < clock) (hx : a.eval X = .pointer (some ⟨r, 0, none⟩)) (hR : RG w b r l clock ps)
    (hDone : ps.length = l.length → wpListIn F nF Tryd.prog ops Q rest (a.put d (.tuple #[.bool false])) w)
    (hMore : ∀ q w', q ∈ l → ps.length < l.length → RG w' b r l clock (ps ++ [q]) → w.grownBy w' (some r) → (∃ o, w.heap[r]? = some o ∧ o.isWalk = true) → w'.heap.size = w.heap.size → (Instr.entry (.pointer (some ⟨r, 0, none⟩))).run Tryd.prog w' = .ok (.tuple #[.int .u64 (q.1.a : Int), AV q.1]) w' → wpListIn F nF Tryd.prog ops Q rest (a.put d (.tuple #[.bool true, .int .u64 (q.1.a : Int), AV q.1])) w') :
    wpListIn F nF Tryd.prog ops Q (⟨d, .next X false, ty, pos, af, none⟩ :: rest) a w := by
  obtain ⟨hm, ⟨seen, c0, hr, hc, hs⟩, h1, h2⟩ := hR
  have hold' : ∀ x ∈ (ents l).toArray.toList, x.born < clock := fun x hx => by
    obtain ⟨q, hq, rfl⟩ := List.mem_map.1 (show x ∈ ents l from hx)
    exact hold q hq
  have hlen := left_size hb hs h1 h2
  rcases run_next_at (P := Tryd.prog) w ty r b clock c0 seen _ clock hr hm hold' hc with ⟨h0, hrun⟩ | ⟨e, he, w1, hw1, hrun⟩
  · refine in_op (v := .tuple #[.bool false]) rfl (fun c h => by cases h) rfl ?_ (hDone (by omega))
    simp [execOp, hx, hrun]
  · have he2 : e ∈ ents l ∧ seen.contains e.born = false := by
      unfold leftOf at he
      rw [Array.toList_filter, List.mem_filter] at he
      exact ⟨he.1, by simpa using he.2⟩
    obtain ⟨q, hq, rfl⟩ := List.mem_map.1 he2.1
    have hnew : q.2 ∉ ps.map (·.2) := by
      have := he2.2
      intro hm2
      have h3 : seen.contains q.2 = true := by rw [← Array.contains_toList, hs, List.contains_iff_mem]; exact hm2
      rw [show (ent q).born = q.2 from rfl, h3] at this
      cases this
    have hlt : ps.length < l.length := by
      have : 0 < (leftOf (ents l).toArray seen).size := by
        rw [← Array.length_toList]
        exact List.length_pos_of_mem he
      omega
    have hrb : r ≠ b := fun e => by rw [e, hm] at hr; cases hr
    have hrl : r < w.heap.size := Sx.lt_of_some hr
    obtain ⟨w2, hw2⟩ : ∃ w2, setBlock w1 r (.mapIter (some b) clock (seen.push (ent q).born) clock) = w2 := ⟨_, rfl⟩
    have hh1 : w1.heap = w.heap := by rcases hw1 with rfl | rfl <;> rfl
    have hsame : w2.heap[r]? = some (.mapIter (some b) clock (seen.push (ent q).born) clock) := by
      rw [← hw2]; simp [setBlock, hh1, hrl]
    have hoth : ∀ k, k ≠ r → w2.heap[k]? = w.heap[k]? := fun k hk => by
      rw [← hw2]; simp only [setBlock, hh1]; rw [Array.getElem?_setIfInBounds, if_neg (Ne.symm hk)]
    have hsz : w2.heap.size = w.heap.size := by rw [← hw2]; simp [setBlock, hh1]
    have hg : w.grownBy w2 (some r) := by
      refine ⟨?_, ?_, ?_, by omega, fun k _ hk => hoth k fun e => hk (by rw [e])⟩
      all_goals (rw [← hw2]; rcases hw1 with rfl | rfl <;> rfl)
    have hmap : w2.heap[b]? = some (.map (ents l).toArray clock) := (hoth b (Ne.symm hrb)).trans hm
    rw [hw2] at hrun
    refine in_op (v := .tuple #[.bool true, .int .u64 (q.1.a : Int), AV q.1]) rfl (fun c h => by cases h) rfl ?_ (hMore q w2 hq hlt ⟨hmap, ⟨_, _, hsame, Nat.le_refl _, by simp [hs, ent]⟩, fun z hz => ?_, ?_⟩ hg ⟨_, hr, rfl⟩ hsz ?_)
    · simp [execOp, hx, hrun, ent]
    · rcases List.mem_append.1 hz with hz | hz
      · exact h1 z hz
      · obtain rfl := List.mem_singleton.1 hz; exact hq
    · rw [List.map_append, List.nodup_append]
      refine ⟨h2, by simp, fun x hx y hy e => ?_⟩
      simp at hy
      subst hy
      exact hnew (e ▸ hx)
    · exact run_entry_at w2 r b clock seen _ clock (ent q) hsame hmap (show ent q ∈ ents l from List.mem_map_of_mem hq) (by
        show ((ents l).map (·.born)).Nodup
        simpa [ents, List.map_map, Function.comp_def, ent] using hb)
/-- A new variable that holds an account. -/
theorem in_newA {d : Nat} {X : Operand} {x : Ac} {t1 t2 : TypeId} {p1 p2 : String} {a1 a2 : Array Edge} (hx : (a.put (some d) (.pointer (some ⟨w.heap.size, 0, none⟩))).eval X = AV x) (hd : (a.put (some d) (.pointer (some ⟨w.heap.size, 0, none⟩))).eval (.tmp d) = .pointer (some ⟨w.heap.size, 0, none⟩))
    (h : wpListIn F nF Tryd.prog ops Q rest (a.put (some d) (.pointer (some ⟨w.heap.size, 0, none⟩))) (w.alloc (.cells (acw x).toArray 58))) :
    wpListIn F nF Tryd.prog ops Q (⟨some d, .alloc 58, t1, p1, a1, none⟩ :: ⟨none, .store 58 (.tmp d) X, t2, p2, a2, none⟩ :: rest) a w := by
  have h1 : (execOp a.eval ⟨some d, .alloc 58, t1, p1, a1, none⟩).run Tryd.prog w = .ok (.value (.pointer (some ⟨w.heap.size, 0, none⟩))) (w.alloc (.cells (acw ⟨0, 0, 0⟩).toArray 58)) := by kernel_rfl
  refine in_op rfl (fun c h => by cases h) rfl h1 ?_
  have hn : (w.alloc (.cells (acw ⟨0, 0, 0⟩).toArray 58)).heap[w.heap.size]? = some (.cells (acw ⟨0, 0, 0⟩).toArray 58) := World.alloc_heap_new w _
  have hst := run_storeCells_at Tryd.prog w.heap.size 0 58 (acw x) 0 (acw ⟨0, 0, 0⟩).toArray _ hn (by simp) (acw_one x)
  refine in_op0 (w' := w.alloc (.cells (acw x).toArray 58)) rfl (fun c h => by cases h) rfl ?_ h
  have e1 : (w.alloc (.cells (acw ⟨0, 0, 0⟩).toArray 58)).setRow w.heap.size (acw x).toArray = w.alloc (.cells (acw x).toArray 58) := by
    unfold World.setRow World.alloc
    congr 1
    apply Array.ext_getElem?
    intro k
    rw [Array.getElem?_modify, Array.getElem?_push, Array.getElem?_push]
    by_cases hk : w.heap.size = k
    · subst hk; simp
    · simp [hk, Ne.symm hk]
  obtain ⟨i, hi, hs⟩ := info_A
  have e2 : (AV x).cells = (acw x).toArray := rfl
  have e3 : ¬ ((acw x).toArray.size ≠ i.size) := by rw [hs]; simp
  have e4 : (List.take (0 + 0) (acw ⟨0, 0, 0⟩).toArray.toList ++ acw x ++ List.drop (0 + 0 + (acw x).length) (acw ⟨0, 0, 0⟩).toArray.toList).toArray = (acw x).toArray := by simp
  rw [e4, e1] at hst
  simp only [execOp, Instr.storeAt, hd, hx, Instr.sureAddr, Sem.run_bind, Sem.run_pure, Result.andThen_ok, storeVar, Sx.run_size hi, if_neg e3, e2, hst]
theorem in_ldA {d : Option Tmp} {X : Operand} {x : Ac} {k : Nat} {t1 : TypeId} {p1 : String} {a1 : Array Edge} (hx : a.eval X = .pointer (some ⟨k, 0, none⟩)) (hk : w.heap[k]? = some (.cells (acw x).toArray 58))
    (h : wpListIn F nF Tryd.prog ops Q rest (a.put d (AV x)) w) : wpListIn F nF Tryd.prog ops Q (⟨d, .load 58 X, t1, p1, a1, none⟩ :: rest) a w := by
  refine in_op rfl (fun c h => by cases h) rfl ?_ h
  have hr : World.rangeAt w k 0 (acw x) := fun j u hj => by rw [cell_of_heap hk, Nat.zero_add]; exact hj
  have hl := run_loadVar_mid w k 0 _ _ _ hr Tryd.underlying58 rfl (by kernel_rfl)
  simp [execOp, Instr.loadAt, hx, Instr.sureAddr, hl]
end

set_option maxHeartbeats 2000000 in
/-- The iterator over a map's values, for every loop body: the accounts come, each once. -/
theorem kd_values1 (F : Fence) (n : Nat) (hf : F.fn 69) (hro : F.round = none) (hn : 1 ≤ n) (lp Bm b : Nat) (l : List (Ac × Nat)) (clock : Nat) (hb : (l.map (·.2)).Nodup) (hold : ∀ q ∈ l, q.2 < clock) (J Jx : List Ac → World → Prop)
    (hY : ∀ pre x W, J pre W → pre.length < l.length → YieldAt F (n - 1) Tryd.prog lp #[AV x] W fun e W' => (e = .returned (.bool true) ∧ J (pre ++ [x]) W' ∧ KeepsWalks W W') ∨ (e = .returned (.bool false) ∧ Jx (pre ++ [x]) W'))
    (W : World) (hJ : AbidesFrom W.heap.size J) (hm : W.cell? ⟨Bm, 0, none⟩ = some (.map (some b))) (hmap : W.heap[b]? = some (.map (ents l).toArray clock)) (h0 : J [] W) :
    CallsIn F n Tryd.prog 69 #[.func (.yield lp) #[] #[], .pointer (some ⟨Bm, 0, none⟩)] W fun e W' => (∃ v, e = .returned v) ∧ ((∃ xs, xs.Perm (l.map (·.1)) ∧ J xs W') ∨ (∃ pre, True ∧ Jx pre W')) := by
  refine callsIn_of_wp Tryd.func69 rfl hf ?_ hro
  simp only [Tryd.ntmps69, List.size_toArray, List.length_cons, List.length_nil, Nat.reduceAdd, Nat.reduceSub, Array.replicate_succ, Array.replicate_zero, List.push_toArray, List.append_toArray, List.nil_append, List.cons_append]
  gi_wp2_with (first | (with_reducible refine in_range rfl hmap ?_) | gi_in)
  go_frame
  gi_loopw [4] (fun _ wr => ∃ ps, RG wr b W.heap.size l clock ps ∧ J (ps.map (·.1)) wr) (fun _ wr => wr.rangeLeft b W.heap.size)
  case atStart =>
    have hlt := Sx.lt_of_some hmap
    exact ⟨[], ⟨(Below.heap_alloc _ _ b hlt).trans hmap, ⟨#[], clock, World.alloc_heap_new W _, Nat.le_refl _, rfl⟩, fun _ h => (by cases h), List.nodup_nil⟩, hJ [] W _ none h0 (World.grownBy_alloc W _ none) (fun r e => by cases e)⟩
  case round =>
    obtain ⟨ps, hrg, hJs⟩ := hrel
    gi_wp2_with (first | (with_reducible refine in_next hb hold rfl hrg ?_ ?_) | gi_in)
    · intro hl
      gi_wp2
      go_end0
      exact ⟨⟨_, rfl⟩, .inl ⟨_, (perm_len (nodup_of_map hrg.once) hrg.mem hl).map _, hJs⟩⟩
    · intro q w2 hq hlt hrg2 hg2 hw2 hs2 hen
      have hJ2 : J (ps.map (·.1)) w2 := hJ _ wr w2 (some W.heap.size) hJs hg2 (fun r e => by cases e; exact ⟨Nat.le_refl _, hw2⟩)
      have hJ3 : J (ps.map (·.1)) (w2.alloc (.cells (acw q.1).toArray 58)) := hJ _ w2 _ none hJ2 (World.grownBy_alloc w2 _ none) (fun r e => by cases e)
      have hnew : (w2.alloc (.cells (acw q.1).toArray 58)).heap[w2.heap.size]? = some (.cells (acw q.1).toArray 58) := World.alloc_heap_new w2 _
      have hrg3 : RG (w2.alloc (.cells (acw q.1).toArray 58)) b W.heap.size l clock (ps ++ [q]) := hrg2.of_walks (KeepsWalks.alloc w2 _)
      obtain ⟨fn, tmps, assign, body, hy, hR⟩ := hY (ps.map (·.1)) q.1 _ hJ3 (by simpa using hlt)
      clear hs2
      gi_wp2_with (first | (with_reducible refine in_newA rfl rfl ?_) | (with_reducible refine in_ldA rfl hnew ?_) | gi_in)
      refine hR.mono ?_
      rintro e W3 (⟨rfl, hJ4, hk3⟩ | ⟨rfl, hJx3⟩)
      · gi_wp2
        have hrg4 := hrg3.of_walks hk3
        go_roundw
        case rel => exact ⟨ps ++ [q], hrg4, by simpa using hJ4⟩
        case measure =>
          have h1 := hrg.left hb
          have h2 := hrg4.left hb
          simp at h2
          omega
      · gi_wp2
        refine bodyPost_ret (results_none rfl _ _ _) rfl ?_
        exact ⟨⟨_, rfl⟩, .inr ⟨_, trivial, hJx3⟩⟩
section
variable {F : Fence} {nF : Nat} {ops : Array Oper} {rest : List Oper} {a : Act} {Q : Exit → Act → World → Prop} {w : World}
theorem in_next0 {d : Option Tmp} {ty : TypeId} {pos : String} {af : Array Edge} {X : Operand} {r : Nat} (hx : a.eval X = .pointer (some ⟨r, 0, none⟩)) (hr : w.heap[r]? = some (.mapIter none 0 #[] 0))
    (h : wpListIn F nF Tryd.prog ops Q rest (a.put d (.tuple #[.bool false])) w) : wpListIn F nF Tryd.prog ops Q (⟨d, .next X false, ty, pos, af, none⟩ :: rest) a w := by
  refine in_op (v := .tuple #[.bool false]) rfl (fun c h => by cases h) rfl ?_ h
  simp [execOp, hx, Instr.next, getObj, Sem.run, hr, Result.andThen]
end
set_option maxHeartbeats 2000000 in
/-- The same over a map that is nil: none comes. -/
theorem kd_values0 (F : Fence) (n : Nat) (hf : F.fn 69) (hro : F.round = none) (lp Bm : Nat) (J : List Ac → World → Prop)
    (W : World) (hJ : AbidesFrom W.heap.size J) (hm : W.cell? ⟨Bm, 0, none⟩ = some (.map none)) (h0 : J [] W) :
    CallsIn F n Tryd.prog 69 #[.func (.yield lp) #[] #[], .pointer (some ⟨Bm, 0, none⟩)] W fun e W' => (∃ v, e = .returned v) ∧ J [] W' := by
  refine callsIn_of_wp Tryd.func69 rfl hf ?_ hro
  simp only [Tryd.ntmps69, List.size_toArray, List.length_cons, List.length_nil, Nat.reduceAdd, Nat.reduceSub, Array.replicate_succ, Array.replicate_zero, List.push_toArray, List.append_toArray, List.nil_append, List.cons_append]
  gi_wp2_with (first | (with_reducible refine in_range0 rfl ?_) | gi_in)
  go_frame
  gi_loopw [4] (fun _ wr => wr.heap[W.heap.size]? = some (.mapIter none 0 #[] 0) ∧ J [] wr) (fun _ _ => 0)
  case atStart =>
    exact ⟨World.alloc_heap_new W _, hJ [] W _ none h0 (World.grownBy_alloc W _ none) (fun r e => by cases e)⟩
  case round =>
    obtain ⟨hr, hJs⟩ := hrel
    gi_wp2_with (first | (with_reducible refine in_next0 rfl hr ?_) | gi_in)
    go_end0
    exact ⟨⟨_, rfl⟩, hJs⟩
end Go.Proofs.YtkibbcomfjhgpaaDoor

