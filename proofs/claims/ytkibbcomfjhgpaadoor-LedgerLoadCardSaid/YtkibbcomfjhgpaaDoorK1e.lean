/- Layer 11: the accounts of a map, collected and sorted. No conditions. -/
import Derived.Test.YtkibbcomfjhgpaaDoorK1d
namespace Go.Proofs.YtkibbcomfjhgpaaDoor
set_option maxRecDepth 100000
open Go.RowKit Go.Maps Go.ChangeMaps

theorem infoA : (Tryd.prog.info? 58).map (fun i => (i.zero, i.size, i.bytes)) = some (some (AV ⟨0, 0, 0⟩), 6, 48) := by kernel_rfl
theorem MOk.perm {l : List (Ac × Nat)} {clock : Nat} {acc : List Ac} (h : MOk l clock acc) (ha : Asc acc) (hf : ∀ x ∈ acc, ¬ x.emp) : (l.map (·.1)).Perm acc := by
  have nd : ∀ {m : List Ac}, Once m → m.Nodup := fun {m} hm => by
    induction m with
    | nil => exact List.nodup_nil
    | cons x r ih =>
      have h' : x.a ∉ r.map (·.a) ∧ Once r := List.nodup_cons.1 hm
      exact List.nodup_cons.2 ⟨fun hx => h'.1 (List.mem_map_of_mem hx), ih h'.2⟩
  refine (List.perm_ext_iff_of_nodup (nd h.once) (nd (asc_once ha))).2 fun x => ⟨fun hx => ?_, fun hx => ?_⟩
  · have h1 := getA_mem h.once hx
    rw [h.get] at h1
    rcases getA_in (l := acc) (a := x.a) with h2 | ⟨h2, _⟩
    · rwa [h1] at h2
    · rw [h1] at h2
      obtain ⟨q, hq, rfl⟩ := List.mem_map.1 hx
      exact absurd (show q.1.emp by rw [h2]; exact ⟨rfl, rfl⟩) (h.full q hq)
  · have h1 := getA_mem (asc_once ha) hx
    rw [← h.get] at h1
    rcases getA_in (l := l.map (·.1)) (a := x.a) with h2 | ⟨h2, _⟩
    · rwa [h1] at h2
    · rw [h1] at h2
      exact absurd (show x.emp by rw [h2]; exact ⟨rfl, rfl⟩) (hf x hx)
/-- The iterator's value, as the library's callers take it. -/
theorem ke_seq (F : Fence) (n : Nat) (hf : F.fn 69) (hro : F.round = none) (hn : 1 ≤ n) (q : Option Nat) (acc : List Ac) (ha : Asc acc) (hfl : ∀ x ∈ acc, ¬ x.emp) (Bm : Nat) (w : World) (hm : w.cell? ⟨Bm, 0, none⟩ = some (.map q)) (G : Sx.Facts) (hG : mapT q acc G) (hw : Sx.Holds w G) :
    SeqStops F n Tryd.prog 69 #[.pointer (some ⟨Bm, 0, none⟩)] AV (fun xs => xs.Perm acc) (fun _ => True) acc.length w := by
  intro l J Jx W hW hJ _ hY h0
  have hBm : Bm < w.heap.size := World.block_lt_of_cell? w ⟨Bm, 0, none⟩ hm
  have hm' : W.cell? ⟨Bm, 0, none⟩ = some (.map q) := (hW.cell (p := ⟨Bm, 0, none⟩) hBm).trans hm
  cases q with
  | none =>
    obtain ⟨rfl, _⟩ := hG
    refine (kd_values0 F n hf hro l Bm J W hJ hm' h0).mono ?_
    rintro e W' ⟨h1, h2⟩
    exact ⟨h1, .inl ⟨[], .nil, h2⟩⟩
  | some b =>
    obtain ⟨es, clock, hok, rfl⟩ := hG
    have hb : w.heap[b]? = some (.map (ents es).toArray clock) := hw _ (List.mem_singleton.2 rfl)
    have hp := hok.perm ha hfl
    have hlen : es.length = acc.length := by rw [← hp.length_eq, List.length_map]
    refine (kd_values1 F n hf hro hn l Bm b es clock hok.born hok.old J Jx (fun pre x W1 h1 h2 => hY pre x W1 h1 (by omega)) W hJ hm' ((hW.block b (Sx.lt_of_some hb)).trans hb) h0).mono ?_
    rintro e W' ⟨h1, h2⟩
    refine ⟨h1, h2.imp (fun ⟨xs, h3, h4⟩ => ⟨xs, h3.trans hp, h4⟩) id⟩
theorem cells_new6 (W : World) (x : Ac) : ∀ j u, (acw x)[j]? = some u → (W.alloc (.cells (acw x).toArray 58)).cell? ((⟨W.heap.size, 0, none⟩ : Addr).add j) = some u := by
  intro j u hj
  rw [show (⟨W.heap.size, 0, none⟩ : Addr).add j = ⟨W.heap.size, j, none⟩ by rw [add_off rfl]; simp]
  rw [cell_of_heap (World.alloc_heap_new W _)]
  exact hj
section
variable {F : Fence} {nF : Nat} {ops : Array Oper} {rest : List Oper} {a : Act} {Q : Exit → Act → World → Prop} {w : World}
theorem in_build {d : Option Tmp} {X : Operand} {x : Ac} {t1 : TypeId} {p1 : String} {a1 : Array Edge} (hx : a.eval X = AV x)
    (h : wpListIn F nF Tryd.prog ops Q rest (a.put d (.slice (some ⟨w.heap.size, 0, none⟩) 1 1)) (w.alloc (.cells (acw x).toArray 58))) :
    wpListIn F nF Tryd.prog ops Q (⟨d, .buildSlice 40 1 #[(0, X)], t1, p1, a1, none⟩ :: rest) a w := by
  refine in_op rfl (fun c h => by cases h) rfl ?_ h
  obtain ⟨i, hi, hz0, hz1, hz2⟩ := info_parts infoA
  have hf : Instr.fill (fun j => some (j * 6, 6)) ((Array.range (1 * 6)).map ((AV ⟨0, 0, 0⟩).cells[· % (AV ⟨0, 0, 0⟩).cells.size]!)) [(0, AV x)] = some (acw x).toArray := by kernel_rfl
  have hb := run_buildSlice w 40 58 1 #[(0, AV x)] (acw x).toArray i (AV ⟨0, 0, 0⟩) Tryd.underlying40 hi hz0 (by rw [hz1]; decide) (by rw [hz1]; decide) (by rw [hz1]; exact hf)
  simp [execOp, hx, hb]
theorem in_ldB {d : Option Tmp} {X : Operand} {v : Value} {k : Nat} {t1 : TypeId} {p1 : String} {a1 : Array Edge} (hx : a.eval X = .pointer (some ⟨k, 0, none⟩)) (hk : Boxed w k 40 v)
    (h : wpListIn F nF Tryd.prog ops Q rest (a.put d v) w) : wpListIn F nF Tryd.prog ops Q (⟨d, .load 40 X, t1, p1, a1, none⟩ :: rest) a w := by
  refine in_op rfl (fun c h => by cases h) rfl ?_ h
  simp [execOp, Instr.loadAt, hx, Instr.sureAddr, loadVar, Tryd.isAgg40, run_load, hk.cell]
end
set_option maxHeartbeats 4000000 in
/-- slices.AppendSeq(nil, seq) over that value: the accounts in some order, in a new row; nil just where there is none. -/
theorem ke_append (F : Fence) (n : Nat) (hf : F.fn 76) (hf1 : F.fn 69) (hro : F.round = none) (hn : 3 ≤ n) (q : Option Nat) (acc : List Ac) (ha : Asc acc) (hfl : ∀ x ∈ acc, ¬ x.emp) (hlen : acc.length ≤ 1000000000) (Bm : Nat) (w : World) (hm : w.cell? ⟨Bm, 0, none⟩ = some (.map q)) (G : Sx.Facts) (hG : mapT q acc G) (hw : Sx.Holds w G) :
    CallsIn F n Tryd.prog 76 #[.slice none 0 0, .func (.func 69) #[] #[.pointer (some ⟨Bm, 0, none⟩)]] w fun e w' => ∃ v ys, e = .returned v ∧ ys.Perm acc ∧ w'.ownsRow w.heap.size 58 6 v ys.length (acws ys) ∧ (v = .slice none 0 0 ↔ ys = []) ∧ Below w.heap.size w w' := by
  have h1 : 1 ≤ n := by omega
  obtain ⟨i0, hi, hz0, hz1, hz2⟩ := info_parts infoA
  have hBm : Bm < w.heap.size := World.block_lt_of_cell? w ⟨Bm, 0, none⟩ hm
  refine callsIn_of_wp_marks Tryd.func76 rfl hf ?_ hro
  simp only [Tryd.ntmps76, List.size_toArray, List.length_cons, List.length_nil, Nat.reduceAdd, Nat.reduceSub, Array.replicate_succ, Array.replicate_zero, List.push_toArray, List.append_toArray, List.nil_append, List.cons_append]
  gi_wp2
  have bO := Boxed.new w 40 (.slice none 0 0)
  have hB0 : Below w.heap.size w (w.alloc (.cells #[.slice none 0 0] 40)) := (Below.refl _ w).alloc (Nat.le_refl _) _
  have hw0 : Sx.Holds (w.alloc (.cells #[.slice none 0 0] 40)) G := fun z hz => (hB0.block z.1 (Sx.lt_of_some (hw z hz))).trans (hw z hz)
  refine wpIn_rangeFunc_ownH hro h1 (gf := 69) (lb := #[.pointer (some ⟨Bm, 0, none⟩)]) rfl hf1 (enters_of Tryd.func69 (by kernel_rfl) rfl)
    (ke_seq F (n - 1) hf1 hro (by omega) q acc ha hfl Bm (w.alloc (.cells #[.slice none 0 0] 40)) ((hB0.cell (p := ⟨Bm, 0, none⟩) hBm).trans hm) G hG hw0) walksK_t walksK_b (Below.refl _ _) (fun _ => rfl)
    (fun pre W => (∃ v, Boxed W w.heap.size 40 v ∧ W.ownsRow w.heap.size 58 6 v pre.length (acws pre) ∧ (v = .slice none 0 0 ↔ pre = [])) ∧ Below w.heap.size w W)
    (fun _ _ _ => False)
    (OwnFrom.and (Own.from (holdsRow_own w.heap.size w.heap.size 40 58 6 (fun pre : List Ac => pre.length) (fun pre => acws pre) (fun pre v => v = .slice none 0 0 ↔ pre = [])) _) (ownFrom_below (Nat.le_refl _) (by simp)))
    (fun _ _ _ _ _ hs _ _ => hs)
    ⟨⟨_, bO, World.ownsRow_nil _ _ _ _, by simp⟩, hB0⟩
    (fun x a' W => ∃ Bx, w.heap.size < Bx ∧ W.heap[Bx]? = some (.cells (acw x).toArray 58) ∧ a' = { tmps := #[.slice none 0 0, .func (.func 69) #[] #[.pointer (some ⟨Bm, 0, none⟩)], .pointer (some ⟨w.heap.size, 0, none⟩), undef, .slice none 0 0, .pointer (some ⟨Bx, 0, none⟩), .func (.func 69) #[] #[.pointer (some ⟨Bm, 0, none⟩)], AV x, undef, undef, undef, undef, undef], defers := [] })
    (fun x a' => ?hax) ?assign ?body ?done ?stop
  case hax =>
    rintro _ W W' row ⟨Bx, h2, h3, h4⟩ hg hr
    refine ⟨Bx, h2, (hg.block Bx (Sx.lt_of_some h3) fun e => ?_).trans h3, h4⟩
    obtain ⟨_, o, ho, hc⟩ := hr Bx e.symm
    rw [h3] at ho; cases ho; cases hc
  case assign =>
    rintro l pre x W K ⟨⟨v, hv, hrow, hnil⟩, hB⟩ hK
    simp only [List.zip_toArray, List.zip_cons_cons, List.zip_nil_right, List.foldl_toArray, List.foldl_cons, List.foldl_nil, List.setIfInBounds_toArray, List.set_cons_succ, List.set_cons_zero]
    gi_wp2_with (with_reducible refine in_newA rfl rfl ?_)
    exact hK _ _ ((KeepsOthers.alloc W _).from _) (KeepsWalks.alloc W _) ⟨⟨v, hv.alloc _, hrow.alloc _, hnil⟩, hB.alloc hB.size _⟩ ⟨W.heap.size, hv.lt, World.alloc_heap_new W _, rfl⟩
  case body =>
    rintro l pre x a' W hl ⟨r, hr⟩ ⟨⟨v, hv, hrow, hnil⟩, hB⟩ ⟨Bx, hBx, hx, rfl⟩ hlt
    have hpl : pre.length < 1000000000 := by omega
    gi_wp2_with (first
      | (with_reducible refine in_ldB rfl hv ?_)
      | (with_reducible refine in_ldA rfl hx ?_)
      | (with_reducible refine in_build rfl ?_)
      | (gi_at_builtin; refine wpListIn_append_own _ rfl _ _ 40 rfl w.heap.size 58 i0 (AV ⟨0, 0, 0⟩) 6 48 Tryd.underlying40 hi hz0 hz1 hz2 rfl (by decide) _ _ _ rfl (hrow.alloc _) ⟨W.heap.size, 0, none⟩ 1 1 (acw x) rfl rfl (cells_new6 W x) (acw_one x) (by unfold maxLen; omega) (by omega) (by have := hB.size; simp; omega) ?_; intro v' w1 hown' hgrow _; obtain ⟨g', cap', rfl⟩ := ownsRow_succ hown'; obtain ⟨hv1, hv2, hr2, hk2, hb2⟩ := hv.appended (by decide) hrow hB.size (Nat.le_refl _) hown' hgrow; have hc1 := hv1.cell; have hf1' := hv1.frozen)
      | (rw [Oper.semAt_eq _ _ _ (fun c h => by cases h)]; go_simp; try go_bits))
    exact ⟨hk2.from _, hk2.walks, ⟨_, hv2, by rw [acws_app, List.length_append]; exact hr2, by simp⟩, hB.trans hb2⟩
  case done =>
    rintro D ys W hD hS ⟨⟨v, hv, hrow, hnil⟩, hB⟩ hK
    have hc := hv.cell
    gi_wp2
    refine ⟨by simp, .inl ⟨_, _, rfl, run_takeDeferred hK, ?_⟩⟩
    exact ⟨_, results_tmp rfl _ _ _, v, ys, rfl, hS, ownsRow_putObj hrow _ hK rfl, hnil, hB.trans (belowK_b (w := w) (Nat.le_refl _) W D _ _ (by simp at hD; omega) hK rfl rfl)⟩
  case stop =>
    rintro D c pre W _ _ h _
    exact h.elim
end Go.Proofs.YtkibbcomfjhgpaaDoor

