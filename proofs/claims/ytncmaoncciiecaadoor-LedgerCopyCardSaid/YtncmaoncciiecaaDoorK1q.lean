/- Copy: two ledgers that share nothing. No conditions. -/
import Derived.Test.YtncmaoncciiecaaDoorK1k
namespace Go.Proofs.YtncmaoncciiecaaDoor
open Go.RowKit Sx
set_option maxRecDepth 100000

theorem below_holds {w w' : World} {F : Facts} (b : Below w.heap.size w w') (h : Sx.Holds w F) : Sx.Holds w' F := fun q hq => by
  have h1 := h q hq
  rw [b.block q.1 (Array.getElem?_eq_some_iff.1 h1).1]; exact h1
theorem two_t1 {p m : Nat} {L L' K : Led} {f : FuncId} {l : List Value} {A : Facts} {X : Type} {ret : X → Value} {M : X → Facts} (h : CallT Tryd.prog f l A (led p L) X ret M (fun _ => led p L')) : CallT Tryd.prog f l A (two p m L K) X ret M (fun _ => two p m L' K) := by
  intro w F hT hA hF hap
  obtain ⟨F1, F2, h1, h2, ha, rfl⟩ := hT
  refine (h w F1 h1 hA (fun q hq => hF q (List.mem_append_left _ hq)) (fun a ha b hb => hap a ha b (List.mem_append_left _ hb))).mono ?_
  rintro v w' ⟨x, F', e, g1, g2, g3, g4, g5, g6, g7⟩
  have lt2 : ∀ q ∈ F2, q.1 < w.heap.size := fun q hq => (Array.getElem?_eq_some_iff.1 (hF q (List.mem_append_right _ hq))).1
  refine ⟨x, F' ++ F2, e, ⟨F', F2, g1, h2, fun a ha' b hb hab => ?_, rfl⟩, g2, fun q hq => ?_, fun a ha' b hb hab => ?_, g5, fun q hq => ?_, ⟨g7.os, g7.tape, g7.output, g7.size, fun k hk hn => g7.block k hk (fun q hq => hn q (List.mem_append_left _ hq))⟩⟩
  · have := lt2 b hb
    rcases g6 a ha' with h | ⟨q', hq', e'⟩
    · omega
    · exact ha q' hq' b hb (by omega)
  · rcases List.mem_append.1 hq with hq | hq
    · exact g3 q hq
    · rw [g7.block q.1 (lt2 q hq) (fun q' hq' e' => ha q' hq' q hq e'.symm)]
      exact hF q (List.mem_append_right _ hq)
  · rcases List.mem_append.1 hb with hb | hb
    · exact g4 a ha' b hb hab
    · have := lt2 b hb
      rcases g5 a ha' with h | ⟨q', hq', e'⟩
      · omega
      · exact hap q' hq' b (List.mem_append_right _ hb) (by omega)
  · rcases List.mem_append.1 hq with hq | hq
    · exact (g6 q hq).imp id fun ⟨q', h, e⟩ => ⟨q', List.mem_append_left _ h, e⟩
    · exact .inr ⟨q, List.mem_append_right _ hq, rfl⟩
theorem two_t2 {p m : Nat} {L L' K : Led} {f : FuncId} {l : List Value} {A : Facts} {X : Type} {ret : X → Value} {M : X → Facts} (h : CallT Tryd.prog f l A (led m L) X ret M (fun _ => led m L')) : CallT Tryd.prog f l A (two p m K L) X ret M (fun _ => two p m K L') := by
  intro w F hT hA hF hap
  obtain ⟨F1, F2, h1, h2, ha, rfl⟩ := hT
  refine (h w F2 h2 hA (fun q hq => hF q (List.mem_append_right _ hq)) (fun a ha b hb => hap a ha b (List.mem_append_right _ hb))).mono ?_
  rintro v w' ⟨x, F', e, g1, g2, g3, g4, g5, g6, g7⟩
  have lt1 : ∀ q ∈ F1, q.1 < w.heap.size := fun q hq => (Array.getElem?_eq_some_iff.1 (hF q (List.mem_append_left _ hq))).1
  refine ⟨x, F1 ++ F', e, ⟨F1, F', h1, g1, fun a ha' b hb hab => ?_, rfl⟩, g2, fun q hq => ?_, fun a ha' b hb hab => ?_, g5, fun q hq => ?_, ⟨g7.os, g7.tape, g7.output, g7.size, fun k hk hn => g7.block k hk (fun q hq => hn q (List.mem_append_right _ hq))⟩⟩
  · have := lt1 a ha'
    rcases g6 b hb with h | ⟨q', hq', e'⟩
    · omega
    · exact ha a ha' q' hq' (by omega)
  · rcases List.mem_append.1 hq with hq | hq
    · rw [g7.block q.1 (lt1 q hq) (fun q' hq' e' => ha q hq q' hq' e')]
      exact hF q (List.mem_append_left _ hq)
    · exact g3 q hq
  · rcases List.mem_append.1 hb with hb | hb
    · have := lt1 b hb
      rcases g5 a ha' with h | ⟨q', hq', e'⟩
      · omega
      · exact hap q' hq' b (List.mem_append_left _ hb) (by omega)
    · exact g4 a ha' b hb hab
  · rcases List.mem_append.1 hq with hq | hq
    · exact .inr ⟨q, List.mem_append_left _ hq, rfl⟩
    · exact (g6 q hq).imp id fun ⟨q', h, e⟩ => ⟨q', List.mem_append_right _ h, e⟩

theorem kq_copy_n (p : Nat) (L : Led) (F : Facts) (hT : ledQ p none L F) (A : Facts) : CallR Tryd.prog 29 [.pointer (some ⟨p, 0, none⟩)] A (F) (Nat) (fun x => .pointer (some ⟨x, 0, none⟩)) (fun x => [(x, .cells (ledC none L.v L.s).toArray 75)]) :=
  reads_of_vcF Tryd.mixed good_ledger_Ledger_Copy (args := [(.pointer (some ⟨p, 0, none⟩), [])]) (B := A) (F := F) (O := [.no, .reg [(3, .rdT 0 Unit () (fun _ => .map none) (fun _ => [])), (4, .rdT 0 Unit () (fun _ => .map none) (fun _ => [])), (8, .rdT 0 Unit () (fun _ => VV4 L.v) (fun _ => [])), (12, .rdT 0 Unit () (fun _ => U L.s) (fun _ => []))], .pub 1000000 [17] (fun | [m] => [] | _ => [])]) (.app ((.refl _)) (.app (.nil _) (.nil _))) (⟨rfl, ⟨fun _ g => by subst g; exact kt_ldm hT, fun _ => ⟨fun _ g => callR_op (k_mclone0 _ _) rfl rfl, fun _ => ⟨fun _ g => by subst g; exact kt_ldvs hT, fun _ => ⟨fun _ g => by subst g; exact kt_lds hT, fun _ => fun m => ⟨m, rfl, fun _ h => by simp at h ⊢; exact h, fun _ g => g, trivial⟩⟩⟩⟩⟩⟩)
theorem kq_copy_s (p r : Nat) (L : Led) (F : Facts) (hT : ledQ p (some r) L F) (es : Array MapEntry) (clock : Nat) (hm : (r, Obj.map es clock) ∈ F) (A : Facts) : CallR Tryd.prog 29 [.pointer (some ⟨p, 0, none⟩)] A (F) (Nat × Nat) (fun x => .pointer (some ⟨x.1, 0, none⟩)) (fun x => [(x.1, .cells (ledC (some x.2) L.v L.s).toArray 75), (x.2, .map es clock)]) :=
  reads_of_vcF Tryd.mixed good_ledger_Ledger_Copy (args := [(.pointer (some ⟨p, 0, none⟩), [])]) (B := A) (F := F) (O := [.no, .reg [(3, .rdT 0 Unit () (fun _ => .map (some r)) (fun _ => [])), (4, .rdT 0 Nat 0 (fun c => .map (some c)) (fun c => [(c, .map es clock)])), (8, .rdT 0 Unit () (fun _ => VV4 L.v) (fun _ => [])), (12, .rdT 0 Unit () (fun _ => U L.s) (fun _ => []))], .pub 1000000 [17] (fun | [m] => [] | _ => [])]) (.app ((.refl _)) (.app (.nil _) (.nil _))) (⟨rfl, ⟨fun _ g => by subst g; exact kt_ldm hT, fun _ => ⟨fun _ g => by subst g; exact callR_op (k_mclone r es clock _ _ hm) rfl rfl, fun c => ⟨fun _ g => by subst g; exact kt_ldvs hT, fun _ => ⟨fun _ g => by subst g; exact kt_lds hT, fun _ => fun m => ⟨(m, c), rfl, fun _ h => by simp at h ⊢; exact h, fun _ g => g, trivial⟩⟩⟩⟩⟩⟩)
theorem k_copy (p : Nat) (L : Led) (A : Facts) : CallT Tryd.prog 29 [.pointer (some ⟨p, 0, none⟩)] A (led p L) Nat (fun m => .pointer (some ⟨m, 0, none⟩)) (fun _ => []) (fun m => two p m L L) := by
  rintro w F ⟨q, hT⟩ hA hF hap
  have lt : ∀ q ∈ F, q.1 < w.heap.size := fun q hq => (Array.getElem?_eq_some_iff.1 (hF q hq)).1
  cases q with
  | none =>
    refine (kq_copy_n p L F hT [] w (fun _ h => by cases h) hF (fun _ h => by cases h)).mono ?_
    rintro v w' ⟨x, e, g2, g5, g7⟩
    have hnew : ∀ q ∈ [(x, Obj.cells (ledC none L.v L.s).toArray 75)], w.heap.size ≤ q.1 := fun q hq => (g5 q hq).resolve_right fun ⟨_, h, _⟩ => by cases h
    obtain ⟨G, hG, hp, rfl⟩ := hT
    refine ⟨x, _, e, ⟨_, _, ⟨none, G, hG, hp, rfl⟩, ⟨none, [], ⟨hG.1, rfl⟩, (fun _ h => by cases h), rfl⟩, fun a ha b hb hab => ?_, rfl⟩, (fun _ h => by cases h), fun q hq => (List.mem_append.1 hq).elim (below_holds g7 hF q) (g2 q), (fun _ h => by cases h), (fun _ h => by cases h), fun q hq => (List.mem_append.1 hq).elim (fun h => .inr ⟨q, h, rfl⟩) (fun h => .inl (hnew q h)), ⟨g7.os, g7.tape, g7.output, g7.size, fun k hk _ => g7.block k hk⟩⟩
    have := lt a ha; have := hnew b hb; omega
  | some r =>
    obtain ⟨G, ⟨l, clock, hok, rfl⟩, hp, rfl⟩ := hT
    refine (kq_copy_s p r L _ ⟨_, ⟨l, clock, hok, rfl⟩, hp, rfl⟩ (ents l).toArray clock (List.mem_cons_of_mem _ (List.mem_singleton.2 rfl)) [] w (fun _ h => by cases h) hF (fun _ h => by cases h)).mono ?_
    rintro v w' ⟨⟨m, c⟩, e, g2, g5, g7⟩
    have hnew : ∀ q ∈ [(m, Obj.cells (ledC (some c) L.v L.s).toArray 75), (c, Obj.map (ents l).toArray clock)], w.heap.size ≤ q.1 := fun q hq => (g5 q hq).resolve_right fun ⟨_, h, _⟩ => by cases h
    have hcm : c ≠ m := fun e => by
      have h1 := g2 _ List.mem_cons_self
      have h2 := g2 _ (List.mem_cons_of_mem _ (List.mem_singleton.2 rfl))
      simp only at h1 h2
      rw [e, h1] at h2
      cases h2
    refine ⟨m, _, e, ⟨_, _, ⟨some r, _, ⟨l, clock, hok, rfl⟩, hp, rfl⟩, ⟨some c, _, ⟨l, clock, hok, rfl⟩, (fun g hg => by obtain rfl := List.mem_singleton.1 hg; exact hcm), rfl⟩, fun a ha b hb hab => ?_, rfl⟩, (fun _ h => by cases h), fun q hq => (List.mem_append.1 hq).elim (below_holds g7 hF q) (g2 q), (fun _ h => by cases h), (fun _ h => by cases h), fun q hq => (List.mem_append.1 hq).elim (fun h => .inr ⟨q, h, rfl⟩) (fun h => .inl (hnew q h)), ⟨g7.os, g7.tape, g7.output, g7.size, fun k hk _ => g7.block k hk⟩⟩
    have := lt a ha; have := hnew b hb; omega
end Go.Proofs.YtncmaoncciiecaaDoor

