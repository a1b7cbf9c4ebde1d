/- applyReference, agree: the package and its reference side by side. No conditions. -/
import Derived.Test.YtkibbcomfjhgpaaDoorK2c
import Derived.Test.YtkibbcomfjhgpaaDoorK1r
import Derived.Test.YtkibbcomfjhgpaaDoorK1j
namespace Go.Proofs.YtkibbcomfjhgpaaDoor
open Go.RowKit Sx
set_option maxRecDepth 100000

/-! Two things that share nothing, as one. -/
def pairT (T1 T2 : TP) : TP := fun F => ∃ F1 F2, T1 F1 ∧ T2 F2 ∧ Apart F1 F2 ∧ F = F1 ++ F2
section
variable {f : FuncId} {l : List Value} {A : Facts} {X : Type} {ret : X → Value} {M : X → Facts} {T1 T2 : TP} {m : Sem Next}
theorem pair_r1 {F : Facts} (h : pairT T1 T2 F) (hr : ∀ F1, T1 F1 → CallR Tryd.prog f l A F1 X ret M) : CallR Tryd.prog f l A F X ret M := by
  obtain ⟨F1, F2, h1, h2, ha, rfl⟩ := h
  intro w hA hF hap
  exact hr F1 h1 w hA (fun q hq => hF q (List.mem_append_left _ hq)) (fun a ha b hb => hap a ha b (List.mem_append_left _ hb))
theorem pair_r2 {F : Facts} (h : pairT T1 T2 F) (hr : ∀ F2, T2 F2 → CallR Tryd.prog f l A F2 X ret M) : CallR Tryd.prog f l A F X ret M := by
  obtain ⟨F1, F2, h1, h2, ha, rfl⟩ := h
  intro w hA hF hap
  exact hr F2 h2 w hA (fun q hq => hF q (List.mem_append_right _ hq)) (fun a ha b hb => hap a ha b (List.mem_append_right _ hb))
theorem pair_o2 {F : Facts} (h : pairT T1 T2 F) (hr : ∀ F2, T2 F2 → ReadsOp Tryd.prog m A F2 X ret M) : ReadsOp Tryd.prog m A F X ret M := by
  obtain ⟨F1, F2, h1, h2, ha, rfl⟩ := h
  intro w hA hF hap
  exact hr F2 h2 w hA (fun q hq => hF q (List.mem_append_right _ hq)) (fun a ha b hb => hap a ha b (List.mem_append_right _ hb))
theorem pair_t1 {T' : X → TP} (h : CallT Tryd.prog f l A T1 X ret M T') : CallT Tryd.prog f l A (pairT T1 T2) X ret M (fun x => pairT (T' x) T2) := by
  intro w F hT hA hF hap
  obtain ⟨F1, F2, h1, h2, ha, rfl⟩ := hT
  refine (h w F1 h1 hA (fun q hq => hF q (List.mem_append_left _ hq)) (fun a ha b hb => hap a ha b (List.mem_append_left _ hb))).mono ?_
  rintro v w' ⟨x, F', e, g1, g2, g3, g4, g5, g6, g7⟩
  have lt2 : ∀ q ∈ F2, q.1 < w.heap.size := fun q hq => (Array.getElem?_eq_some_iff.1 (hF q (List.mem_append_right _ hq))).1
  refine ⟨x, F' ++ F2, e, ⟨F', F2, g1, h2, fun a ha' b hb hab => ?_, rfl⟩, g2, fun q hq => ?_, fun a ha' b hb hab => ?_, g5, fun q hq => ?_, ⟨g7.os, g7.tape, g7.output, g7.size, fun k hk hn => g7.block k hk (fun q hq => hn q (List.mem_append_left _ hq))⟩⟩
  · have := lt2 b hb
    rcases g6 a ha' with h | ⟨q', hq', e'⟩
    · omega
    · exact ha q' hq' b hb (by omega)
  · rcases List.mem_append.1 hq with hq | hq
    · exact g3 q hq
    · rw [g7.block q.1 (lt2 q hq) (fun q' hq' e' => ha q' hq' q hq e'.symm)]
      exact hF q (List.mem_append_right _ hq)
  · rcases List.mem_append.1 hb with hb | hb
    · exact g4 a ha' b hb hab
    · have := lt2 b hb
      rcases g5 a ha' with h | ⟨q', hq', e'⟩
      · omega
      · exact hap q' hq' b (List.mem_append_right _ hb) (by omega)
  · rcases List.mem_append.1 hq with hq | hq
    · exact (g6 q hq).imp id fun ⟨q', h, e⟩ => ⟨q', List.mem_append_left _ h, e⟩
    · exact .inr ⟨q, List.mem_append_right _ hq, rfl⟩
theorem pair_t2 {T' : X → TP} (h : CallT Tryd.prog f l A T2 X ret M T') : CallT Tryd.prog f l A (pairT T1 T2) X ret M (fun x => pairT T1 (T' x)) := by
  intro w F hT hA hF hap
  obtain ⟨F1, F2, h1, h2, ha, rfl⟩ := hT
  refine (h w F2 h2 hA (fun q hq => hF q (List.mem_append_right _ hq)) (fun a ha b hb => hap a ha b (List.mem_append_right _ hb))).mono ?_
  rintro v w' ⟨x, F', e, g1, g2, g3, g4, g5, g6, g7⟩
  have lt1 : ∀ q ∈ F1, q.1 < w.heap.size := fun q hq => (Array.getElem?_eq_some_iff.1 (hF q (List.mem_append_left _ hq))).1
  refine ⟨x, F1 ++ F', e, ⟨F1, F', h1, g1, fun a ha' b hb hab => ?_, rfl⟩, g2, fun q hq => ?_, fun a ha' b hb hab => ?_, g5, fun q hq => ?_, ⟨g7.os, g7.tape, g7.output, g7.size, fun k hk hn => g7.block k hk (fun q hq => hn q (List.mem_append_right _ hq))⟩⟩
  · have := lt1 a ha'
    rcases g6 b hb with h | ⟨q', hq', e'⟩
    · omega
    · exact ha a ha' q' hq' (by omega)
  · rcases List.mem_append.1 hq with hq | hq
    · rw [g7.block q.1 (lt1 q hq) (fun q' hq' e' => ha q hq q' hq' e')]
      exact hF q (List.mem_append_left _ hq)
    · exact g3 q hq
  · rcases List.mem_append.1 hb with hb | hb
    · have := lt1 b hb
      rcases g5 a ha' with h | ⟨q', hq', e'⟩
      · omega
      · exact hap q' hq' b (List.mem_append_left _ hb) (by omega)
    · exact g4 a ha' b hb hab
  · rcases List.mem_append.1 hq with hq | hq
    · exact .inr ⟨q, List.mem_append_left _ hq, rfl⟩
    · exact (g6 q hq).imp id fun ⟨q', h, e⟩ => ⟨q', List.mem_append_right _ h, e⟩
/-- A call that makes a thing of nothing, beside one that is there. -/
theorem pair_new {T' : X → TP} (h : CallT Tryd.prog f l A (fun G => G = []) X ret M T') : CallT Tryd.prog f l A T1 X ret M (fun x => pairT T1 (T' x)) := by
  intro w F hT hA hF hap
  have h2 := pair_t2 (T1 := T1) h w (F ++ []) ⟨F, [], hT, rfl, (fun _ _ _ h => by cases h), rfl⟩ hA (by rw [List.append_nil]; exact hF) (by rw [List.append_nil]; exact hap)
  rwa [List.append_nil] at h2
end
theorem vi_mu {x : Int} (h : decide (x < 7) = true) (h2 : -1 ≤ x) : (7 - (x + 1)).toNat < (7 - x).toNat := by have := of_decide_eq_true h; omega
abbrev VI7 : Type := { v : Int // -1 ≤ v ∧ v ≤ 7 }
def vi0 : VI7 := ⟨-1, by decide, by decide⟩
theorem vi_nx (x : VI7) (h : decide (x.1 < 7) = true) : -1 ≤ x.1 + 1 ∧ x.1 + 1 ≤ 7 := by have := of_decide_eq_true h; have := x.2; omega
def viN (x : VI7) (h : decide (x.1 < 7) = true) : VI7 := ⟨x.1 + 1, vi_nx x h⟩
theorem vi_w (x : VI7) : IntKind.i64.wrap (x.1 + 1) = x.1 + 1 := by
  have h := x.2
  simp [IntKind.wrap, IntKind.bits, IntKind.signed]
  omega
theorem isv_o {v : Int} (h : ¬ isv v = true) : v < 1 ∨ 4 < v := by
  by_cases h1 : v < 1
  · exact .inl h1
  · by_cases h2 : 4 < v
    · exact .inr h2
    · exact absurd (isv_y h1 h2) h
theorem z5_self : (!cellsEq [Value.int .u64 0, .int .u64 0, .int .u64 0, .int .u64 0] [.int .u64 0, .int .u64 0, .int .u64 0, .int .u64 0]) = false := by decide +kernel
theorem eqz (z : Int) : (z == z) = true := by simp
theorem good_pontagelaw11_applyReference : Good Tryd.prog 10 Tryd.f10 2 := ⟨Tryd.func10, by kernel_rfl, by kernel_rfl⟩
theorem good_pontagelaw11_agree : Good Tryd.prog 11 Tryd.f11 3 := ⟨Tryd.func11, by kernel_rfl, by kernel_rfl⟩
theorem good_pontagelaw11_LedgerCalls : Good Tryd.prog 3 Tryd.f3 1 := ⟨Tryd.func3, by kernel_rfl, by kernel_rfl⟩
set_option maxHeartbeats 4000000 in
theorem r_apply (p : Nat) (L : Led) (hL : LOk L) (c : Nat) (hc : c + 2 ≤ 1000000) (d : Cd) (hd : CdOk d) (A : Facts) : CallT Tryd.prog 10 [.pointer (some ⟨p, 0, none⟩), CV d] A (rqL p L c) (Unit) (fun _ => .int .i64 (app L d).1) (fun _ => []) (fun _ => rqL p (app L d).2 (c + 2)) :=
  givesT_of_vcF Tryd.mixed good_pontagelaw11_applyReference (args := [(.pointer (some ⟨p, 0, none⟩), []), (CV d, [])]) (B := A) (O := [.both [.yes, .reg [(5, .thg 0 Unit () (fun _ => .int .i64 (mint L d.a d.n).1) (fun _ => []) (fun _ => rqL p (mint L d.a d.n).2 (c + 2)))]] [.both [.reg [(5, .thg 0 Unit () (fun _ => .int .i64 (mint L d.a d.n).1) (fun _ => []) (fun _ => rqL p (mint L d.a d.n).2 (c + 2)))]] [.both [.yes, .reg [(7, .thg 0 Unit () (fun _ => .int .i64 (trans L d.a d.b d.n).1) (fun _ => []) (fun _ => rqL p (trans L d.a d.b d.n).2 (c + 2)))]] [.both [.reg [(7, .thg 0 Unit () (fun _ => .int .i64 (trans L d.a d.b d.n).1) (fun _ => []) (fun _ => rqL p (trans L d.a d.b d.n).2 (c + 2)))]] [.both [.reg [(7, .thg 0 Unit () (fun _ => .int .i64 (payv L d.a d.v d.n).1) (fun _ => []) (fun _ => rqL p (payv L d.a d.v d.n).2 (c + 2)))]] [.both [.reg [(5, .thg 0 Unit () (fun _ => .int .i64 (withd L d.a d.n).1) (fun _ => []) (fun _ => rqL p (withd L d.a d.n).2 (c + 2)))]] [.both [.reg [(5, .thg 0 Unit () (fun _ => .int .i64 (withv L d.v d.n).1) (fun _ => []) (fun _ => rqL p (withv L d.v d.n).2 (c + 2)))]] [.reg [(3, .thg 0 Unit () (fun _ => .int .i64 (incn L d.a).1) (fun _ => []) (fun _ => rqL p (incn L d.a).2 (c + 2)))]]]]]]]]]) (.app ((.refl _)) (.app (.nil _) (.app (.nil _) (.nil _)))) (rSeqK (fun _ hK48 => hK48 _ _ _ (rSeqK (fun _ hK49 => rSeqK (fun _ hK50 => hK50 _ _ _ (rBlkK (fun _ hK51 => rSeqK (fun _ hK52 => rSeqK (fun _ hK53 => hK53 _ _ _ (⟨fun h0 => hK52 _ _ _ (⟨h0, rSeqK (fun _ hK54 => ⟨callT_op (rs_mint p L hL c hc d.a d.n hd.n _) rfl rfl, fun _ => hK54 _ _ _ (hK51 _ _ _ (hK49 _ _ _ (⟨(), (by rw [app_m (.inl (eI h0))]; rfl), nofun, fun _ g => by rw [app_m (.inl (eI h0))]; exact g, trivial⟩)))⟩)⟩), fun h0 => hK52 _ _ _ (⟨fun h1 => rSeqK (fun _ hK55 => ⟨callT_op (rs_mint p L hL c hc d.a d.n hd.n _) rfl rfl, fun _ => hK55 _ _ _ (hK51 _ _ _ (hK49 _ _ _ (⟨(), (by rw [app_m (.inr (eI h1))]; rfl), nofun, fun _ g => by rw [app_m (.inr (eI h1))]; exact g, trivial⟩)))⟩), fun h1 => rSeqK (fun _ hK56 => rSeqK (fun _ hK57 => hK57 _ _ _ (⟨fun h2 => hK56 _ _ _ (⟨h2, rSeqK (fun _ hK58 => ⟨callT_op (rs_trans p L hL c hc d.a d.b d.n hd.a hd.n _) rfl rfl, fun _ => hK58 _ _ _ (hK51 _ _ _ (hK49 _ _ _ (⟨(), (by rw [app_t (nI h0) (nI h1) (.inl (eI h2))]; rfl), nofun, fun _ g => by rw [app_t (nI h0) (nI h1) (.inl (eI h2))]; exact g, trivial⟩)))⟩)⟩), fun h2 => hK56 _ _ _ (⟨fun h3 => rSeqK (fun _ hK59 => ⟨callT_op (rs_trans p L hL c hc d.a d.b d.n hd.a hd.n _) rfl rfl, fun _ => hK59 _ _ _ (hK51 _ _ _ (hK49 _ _ _ (⟨(), (by rw [app_t (nI h0) (nI h1) (.inr (eI h3))]; rfl), nofun, fun _ g => by rw [app_t (nI h0) (nI h1) (.inr (eI h3))]; exact g, trivial⟩)))⟩), fun h3 => rSeqK (fun _ hK60 => hK60 _ _ _ (⟨fun h4 => rSeqK (fun _ hK61 => ⟨callT_op (rs_payv p L hL c hc d.a d.n d.v hd.n _) rfl rfl, fun _ => hK61 _ _ _ (hK51 _ _ _ (hK49 _ _ _ (⟨(), (by rw [app_p (nI h0) (nI h1) (nI h2) (nI h3) (eI h4)]; rfl), nofun, fun _ g => by rw [app_p (nI h0) (nI h1) (nI h2) (nI h3) (eI h4)]; exact g, trivial⟩)))⟩), fun h4 => rSeqK (fun _ hK62 => hK62 _ _ _ (⟨fun h5 => rSeqK (fun _ hK63 => ⟨callT_op (rs_withd p L hL c hc d.a d.n hd.n _) rfl rfl, fun _ => hK63 _ _ _ (hK51 _ _ _ (hK49 _ _ _ (⟨(), (by rw [app_w (nI h0) (nI h1) (nI h2) (nI h3) (nI h4) (eI h5)]; rfl), nofun, fun _ g => by rw [app_w (nI h0) (nI h1) (nI h2) (nI h3) (nI h4) (eI h5)]; exact g, trivial⟩)))⟩), fun h5 => rSeqK (fun _ hK64 => hK64 _ _ _ (⟨fun h6 => rSeqK (fun _ hK65 => ⟨callT_op (rs_withv p L hL c hc d.n d.v hd.n _) rfl rfl, fun _ => hK65 _ _ _ (hK51 _ _ _ (hK49 _ _ _ (⟨(), (by rw [app_v (nI h0) (nI h1) (nI h2) (nI h3) (nI h4) (nI h5) (eI h6)]; rfl), nofun, fun _ g => by rw [app_v (nI h0) (nI h1) (nI h2) (nI h3) (nI h4) (nI h5) (eI h6)]; exact g, trivial⟩)))⟩), fun h6 => hK51 _ _ _ (hK49 _ _ _ (rSeqK (fun _ hK66 => ⟨callT_op (rs_incn p L hL c hc d.a _) rfl rfl, fun _ => hK66 _ _ _ (⟨(), (by rw [app_n (nI h0) (nI h1) (nI h2) (nI h3) (nI h4) (nI h5) (nI h6)]; rfl), nofun, fun _ g => by rw [app_n (nI h0) (nI h1) (nI h2) (nI h3) (nI h4) (nI h5) (nI h6)]; exact g, trivial⟩)⟩)))⟩))⟩))⟩))⟩)⟩)))⟩)⟩))))))))))
theorem rs_vault_i {p : Nat} {acc : List Ac} {v : Nat → Nat} {c : Nat} {F : Facts} (g : rs p acc v c F) (z : Int) (k : Nat) (e : z = (k : Int) + 1) (hk : k < 4) (A : Facts) : CallR Tryd.prog 37 [.pointer (some ⟨p, 0, none⟩), .int .i64 z] A F Unit (fun _ => U (v k)) (fun _ => []) := by
  obtain ⟨l, _, _, x, _, _, rfl⟩ := g
  exact r_vault_i p l x v z k e hk A
theorem rs_vault_o {p : Nat} {acc : List Ac} {v : Nat → Nat} {c : Nat} {F : Facts} (g : rs p acc v c F) (z : Int) (hz : z < 1 ∨ 4 < z) (A : Facts) : CallR Tryd.prog 37 [.pointer (some ⟨p, 0, none⟩), .int .i64 z] A F Unit (fun _ => .agg #[.int .u64 0, .int .u64 0, .int .u64 0, .int .u64 0]) (fun _ => []) := by
  obtain ⟨l, _, _, x, _, _, rfl⟩ := g
  exact r_vault_o p l x v z hz A
set_option maxHeartbeats 8000000 in
theorem k_agree (p q : Nat) (L : Led) (hL : LOk L) (c : Nat) (hc : c ≤ 400000) (hlen : L.acc.length ≤ 1000000000) (F : Facts) (hT : pairT (led p L) (rqL q L c) F) (a : Nat) (A : Facts) : CallR Tryd.prog 11 [.pointer (some ⟨p, 0, none⟩), .pointer (some ⟨q, 0, none⟩), .int .u64 (a : Int)] A (F) (Unit) (fun _ => .bool true) (fun _ => []) :=
  reads_of_vcF Tryd.mixed good_pontagelaw11_agree (args := [(.pointer (some ⟨p, 0, none⟩), []), (.pointer (some ⟨q, 0, none⟩), []), (.int .u64 (a : Int), [])]) (B := A) (F := F) (O := [.reg [(2, .rdT 0 Unit () (fun _ => AV (getA L.acc a)) (fun _ => []))], .invT (VI7) (fun x : VI7 => ⟨61, [(0, .v (.pointer (some ⟨p, 0, none⟩)) []), (1, .v (.pointer (some ⟨q, 0, none⟩)) []), (2, .v (.int .u64 (a : Int)) []), (7, .p 4 0), (8, .v (.int .i64 x.1) [])], [(4, ⟨58, acw (getA L.acc a), []⟩)], 90⟩) (fun _ => [(0, fun G => G = F)]) (fun x => (7 - x.1).toNat) (fun x => [.both [.alt [(isv x.1 = true, [(2, .rdT 0 Unit () (fun _ => U (L.v (vix x.1))) (fun _ => [])), (5, .rdT 0 Unit () (fun _ => U (L.v (vix x.1))) (fun _ => []))], [.no]), (True, [(2, .rdT 0 Unit () (fun _ => .agg #[.int .u64 0, .int .u64 0, .int .u64 0, .int .u64 0]) (fun _ => [])), (5, .rdT 0 Unit () (fun _ => .agg #[.int .u64 0, .int .u64 0, .int .u64 0, .int .u64 0]) (fun _ => []))], [.no])]] [.reg ((2, .rdT 0 Unit () (fun _ => U (getA L.acc a).b) (fun _ => [])) :: (7, .yes) :: (8, .yes) :: (9, .rdT 0 Unit () (fun _ => .int .u64 (((getA L.acc a).n : Nat) : Int)) (fun _ => [])) :: (10, .yes) :: (11, .yes) :: (12, .yes) :: (13, .yes) :: (15, .yes) :: (16, .rdT 0 Unit () (fun _ => U L.s) (fun _ => [])) :: (17, .yes) :: (18, .rdT 0 (BigX L.s) (bigX0 L.s) (fun b => b.v) (fun b => b.L)) :: (19, det (U L.s)) :: (20, .yes) :: (21, .yes) :: (23, .yes) :: (24, .rdT 0 (FrX (acws L.acc)) (.inr (0, [])) (fun z => .slice (frO z) (lenB (acws L.acc) 6) (frC 6 z)) (fun z => frL 58 z)) :: (25, .yes) :: (26, .rdT 0 (FrX (acws L.acc)) (.inr (0, [])) (fun z => .slice (frO z) (lenB (acws L.acc) 6) (frC 6 z)) (fun z => frL 58 z)) :: (27, .call Unit () (fun _ => .bool true) (fun _ => [])) :: (28, .yes) :: (30, .yes) :: (31, .rdT 0 Unit () (fun _ => VV4 L.v) (fun _ => [])) :: (32, .yes) :: (33, .yes) :: (34, .yes) :: (35, .rdT 0 Unit () (fun _ => VV4 L.v) (fun _ => [])) :: (36, .yes) :: (37, .yes) :: [])]])]) (.app ((.refl _)) (.app (.nil _) (.app (.nil _) (.app (.nil _) (.nil _))))) (rSeqK (fun _ hK67 => hK67 _ _ _ (rSeqK (fun _ hK68 => ⟨fun _ g => by subst g; exact callR_op (pair_r2 hT fun F1 g1 => rs_get g1 (by omega) a _) rfl rfl, fun _ => hK68 _ _ _ (rSeqK (fun _ hK69 => rSeqK (fun _ hK70 => hK70 _ _ _ (rBlkK (fun _ hK71 => rInvTK (⟨vi0, ⟨rfl, ⟨⟨rfl, nofun⟩, ⟨rfl, nofun⟩, ⟨rfl, nofun⟩, ⟨rfl, rfl, rfl⟩, ⟨rfl, nofun⟩, trivial⟩, ⟨⟨rfl, rfl, nofun⟩, trivial⟩⟩, ⟨fun _ g => g, trivial⟩⟩) (fun x _ hK72 => rSeqK (fun _ hK73 => rSeqK (fun _ hK74 => hK74 _ _ _ (⟨fun h => hK73 _ _ _ (rSeqK (fun _ hK75 => rBlkK (fun _ hK76 => rSeqK (fun _ hK77 => ⟨fun h2 => ⟨fun _ g => by subst g; exact callR_op (pair_r1 hT fun F1 g1 => k_vault_i p L _ g1 x.1 (vix x.1) (isv_ix h2).1 (isv_ix h2).2 h2 _) rfl rfl, fun _ => ⟨fun _ g => by subst g; exact callR_op (pair_r2 hT fun F1 g1 => rs_vault_i g1 x.1 (vix x.1) (isv_ix h2).1 (isv_ix h2).2 _) rfl rfl, fun _ => ⟨eqT_api_Uint256 rfl rfl, hK77 _ _ _ (⟨(neU_self _), hK76 _ _ _ (hK75 _ _ _ (hK72 _ _ _ (⟨viN x h, vi_mu h x.2.1, ⟨rfl, ⟨⟨rfl, nofun⟩, ⟨rfl, nofun⟩, ⟨rfl, nofun⟩, ⟨rfl, rfl, rfl⟩, ⟨congrArg _ (vi_w x), nofun⟩, trivial⟩, ⟨⟨rfl, rfl, nofun⟩, trivial⟩⟩, ⟨fun _ g => g, trivial⟩⟩)))⟩)⟩⟩⟩, fun h2 => ⟨fun _ => ⟨fun _ g => by subst g; exact callR_op (pair_r1 hT fun F1 g1 => k_vault_o p L _ g1 x.1 (Bool.eq_false_iff.2 h2) _) rfl rfl, fun _ => ⟨fun _ g => by subst g; exact callR_op (pair_r2 hT fun F1 g1 => rs_vault_o g1 x.1 (isv_o h2) _) rfl rfl, fun _ => ⟨eqT_api_Uint256 rfl rfl, hK77 _ _ _ (⟨z5_self, hK76 _ _ _ (hK75 _ _ _ (hK72 _ _ _ (⟨viN x h, vi_mu h x.2.1, ⟨rfl, ⟨⟨rfl, nofun⟩, ⟨rfl, nofun⟩, ⟨rfl, nofun⟩, ⟨rfl, rfl, rfl⟩, ⟨congrArg _ (vi_w x), nofun⟩, trivial⟩, ⟨⟨rfl, rfl, nofun⟩, trivial⟩⟩, ⟨fun _ g => g, trivial⟩⟩)))⟩)⟩⟩⟩, fun h => (h trivial).elim⟩⟩)))), fun h => hK73 _ _ _ (hK72 _ _ _ (hK71 _ _ _ (hK69 _ _ _ (rSeqK (fun _ hK78 => ⟨fun _ g => by subst g; exact callR_op (pair_r1 hT fun F1 g1 => k_bal g1 a _) rfl rfl, fun _ => ⟨eqT_api_Uint256 rfl rfl, ⟨gtt (eqU_self _), ⟨gtt (eqU_self _), ⟨⟨gtt (eqU_self _), fun _ g => by subst g; exact callR_op (pair_r1 hT fun F1 g1 => k_nonce g1 a _) rfl rfl⟩, fun _ => ⟨gtt (eqU_self _), ⟨gtt (eqU_self _), ⟨gtt (eqU_self _), ⟨(eqU_self _), ⟨gtt (eqz _), ⟨⟨gtt (eqz _), fun _ g => by subst g; exact callR_op (pair_r1 hT fun F1 g1 => k_supply0 p L _ g1 _) rfl rfl⟩, fun _ => ⟨gtt (eqz _), ⟨⟨gtt (eqz _), fun _ g => by subst g; exact callR_op (pair_r2 hT fun F1 g1 => rs_supply g1 hL (by omega) _) rfl rfl⟩, fun b0 => ⟨⟨gtt (eqz _), c_to b0 hL.s _ (by intro q h; simp [h])⟩, fun _ => ⟨⟨gtt (eqz _), eqT_api_Uint256 rfl rfl⟩, ⟨(eqz _), ⟨gtt (eqU_self _), ⟨⟨gtt (eqU_self _), fun _ g => by subst g; exact callR_op (pair_r1 hT fun F1 g1 => k_accounts g1 hL hlen _) rfl rfl⟩, fun fa => ⟨gtt (eqU_self _), ⟨⟨gtt (eqU_self _), fun _ g => by subst g; exact callR_op (pair_r2 hT fun F1 g1 => rs_accounts g1 hL hc _) rfl rfl⟩, fun fb => ⟨⟨gtt (eqU_self _), k_eqacc (Ass.fr L.acc fa) (Ass.fr L.acc fb) rfl (frN _ _ hlen) _ (by intro q h; have h : q ∈ frL 58 fa := h; simp [h]) (by intro q h; have h : q ∈ frL 58 fb := h; simp [h])⟩, fun _ => ⟨(eqU_self _), ⟨gtt rfl, ⟨⟨gtt rfl, fun _ g => by subst g; exact callR_op (pair_r1 hT fun F1 g1 => k_vaults0 p L _ g1 _) rfl rfl⟩, fun _ => ⟨gtt rfl, ⟨gtt rfl, ⟨gtt rfl, ⟨⟨gtt rfl, fun _ g => by subst g; exact pair_o2 hT fun F1 g1 => rs_ldvs g1⟩, fun _ => ⟨⟨gtt rfl, eqT_vaults rfl rfl⟩, ⟨rfl, hK78 _ _ _ (⟨(), congrArg Value.bool (vv_eq L.v), nofun, fun _ g => g, trivial⟩)⟩⟩⟩⟩⟩⟩⟩⟩⟩⟩⟩⟩⟩⟩⟩⟩⟩⟩⟩⟩⟩⟩⟩⟩⟩⟩⟩⟩⟩⟩)))))⟩)))))))))⟩))))
end Go.Proofs.YtkibbcomfjhgpaaDoor

