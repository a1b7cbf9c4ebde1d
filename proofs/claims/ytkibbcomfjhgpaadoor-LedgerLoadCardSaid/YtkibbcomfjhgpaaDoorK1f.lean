/- Layer 11: the library's sorted list of a map's accounts, as the ledger's Accounts asks for it. No conditions. -/
import Derived.Test.YtkibbcomfjhgpaaDoorK1e
namespace Go.Proofs.YtkibbcomfjhgpaaDoor
set_option maxRecDepth 100000
open Go.RowKit Go.Shelf Go.Lib Go.Sort

theorem getA_perm {l m : List Ac} (h : l.Perm m) (ho : Once l) (a : Nat) : getA l a = getA m a := by
  have hm : Once m := (h.map (·.a)).nodup_iff.1 ho
  rcases getA_in (l := l) (a := a) with h1 | ⟨h1, h2⟩
  · have := getA_mem hm (h.mem_iff.1 h1)
    rw [getA_a] at this
    exact this.symm
  · rw [h1, getA_no fun y hy => h2 y (h.mem_iff.2 hy)]
theorem asc_perm {l m : List Ac} (h : l.Perm m) (hl : Asc l) (hm : Asc m) (hf : ∀ x ∈ m, ¬ x.emp) : l = m :=
  asc_ext hl hm (fun x hx => hf x (h.mem_iff.1 hx)) hf fun a => getA_perm h (asc_once hl) a
set_option maxHeartbeats 4000000 in
theorem kf_collect (q : Option Nat) (acc : List Ac) (ha : Asc acc) (hfl : ∀ x ∈ acc, ¬ x.emp) (hlen : acc.length ≤ 1000000000) (Bm : Nat) (w : World) (hm : w.cell? ⟨Bm, 0, none⟩ = some (.map q)) (G : Sx.Facts) (hG : mapT q acc G) (hw : Sx.Holds w G) :
    CallsIn Fence.wide 8 Tryd.prog 67 #[.func (.func 69) #[] #[.pointer (some ⟨Bm, 0, none⟩)]] w fun e w' => ∃ v ys, e = .returned v ∧ ys.Perm acc ∧ w'.ownsRow w.heap.size 58 6 v ys.length (acws ys) ∧ (v = .slice none 0 0 ↔ ys = []) ∧ Below w.heap.size w w' := by
  refine callsIn_of_wp Tryd.func67 rfl trivial ?_ rfl
  simp only [Tryd.ntmps67, List.size_toArray, List.length_cons, List.length_nil, Nat.reduceAdd, Nat.reduceSub, Array.replicate_succ, Array.replicate_zero, List.push_toArray, List.append_toArray, List.nil_append, List.cons_append]
  gi_wp2_with (first | (refine ⟨trivial, ?_⟩; gi_at_call 76; refine (ke_append Fence.wide _ trivial trivial rfl (by decide) q acc ha hfl hlen Bm w hm G hG hw).mono ?_; rintro e w' ⟨v, ys, rfl, h1, h2, h3, h4⟩) | gi_in)
  go_ret
  exact ⟨v, ys, rfl, h1, h2, h3, h4⟩
/-- The sort of a row of accounts. -/
theorem kf_sort (ys acc : List Ac) (hp : ys.Perm acc) (ha : Asc acc) (hfl : ∀ x ∈ acc, ¬ x.emp) (hlen : acc.length ≤ 1000000000) (n0 : Nat) (v : Value) (w : World) (h : w.ownsRow n0 58 6 v ys.length (acws ys)) (hnil : v = .slice none 0 0 ↔ ys = []) :
    Calls Tryd.prog 68 #[v, .func (.func 46) #[] #[]] w fun e w' => e = .returned (.tuple #[]) ∧ w'.ownsRow n0 58 6 v acc.length (acws acc) ∧ (v = .slice none 0 0 ↔ acc = []) ∧ (∀ k, k < n0 → k < w.heap.size → w'.heap[k]? = w.heap[k]?) ∧ w.heap.size ≤ w'.heap.size ∧ w'.os = w.os ∧ w'.tape = w.tape ∧ w'.output = w.output := by
  have hlen2 : ys.length = acc.length := hp.length_eq
  have ho : Once ys := (hp.map (·.a)).nodup_iff.2 (asc_once ha)
  rcases h.2 with ⟨rfl, h0⟩ | ⟨g, cap, cur, rfl, hb, hg, h1, h2, h3, h4⟩
  · have hy : ys = [] := hnil.1 rfl
    subst hy
    have hacc : acc = [] := by cases acc with
      | nil => rfl
      | cons x r => simp at hlen2
    subst hacc
    refine (show Calls Tryd.prog 68 #[.slice none 0 0, .func (.func 46) #[] #[]] w _ from AnyF.slices_SortFunc_none (ρ := renS) laysS none 0 (.func (.func 46) #[] #[]) w).mono ?_
    rintro e w' ⟨rfl, rfl⟩
    exact ⟨rfl, h, hnil, fun _ _ _ => rfl, Nat.le_refl _, rfl, rfl, rfl⟩
  · have hlt : g < w.heap.size := Sx.lt_of_some hg
    have hH := holds_acws hg h4
    have hc : CmpLays Tryd.prog 46 #[] acw 6 cfA g 0 ys.toArray.size w := fun m os dk _ x y => by simpa using cmp_lays x y _
    have hs := AnyQ.slices_SortFunc (ρ := renS) laysS 6 Tryd.isAgg58 Tryd.sizeOf58 acw (fun _ => rfl) acw_one cfA swo_A 46 #[] g 0 cap ys.toArray w (enters_of Tryd.func46 (by kernel_rfl) rfl) hc hH hlt (by simp; omega)
    simp only [List.size_toArray] at hs
    refine Calls.mono (f := 68) hs ?_
    rintro e w' ⟨rfl, d', n, os, hp', hso, hw⟩
    obtain ⟨cur', g1, g2, g3, g4, g5, g6, g7, g8, g9, g10⟩ := sort_acws hg h4 (by simpa using hp') (by simpa using hso) hw ho
    have e2 : d'.toList = acc := asc_perm (g3.trans hp) g4 ha hfl
    rw [e2] at g5
    refine ⟨rfl, ⟨by rw [acws_len], .inr ⟨g, cap, cur', by rw [hlen2], hb, g1, by omega, h2, by rw [g2, h3], by rw [← hlen2]; exact g5⟩⟩, ?_, fun k hk hk2 => g6 k hk2 (by omega), g7, g8, g9, g10⟩
    refine ⟨fun e => (by cases e), fun e => ?_⟩
    subst e
    have : ys = [] := by cases ys with
      | nil => rfl
      | cons x r => simp at hlen2
    exact hnil.2 this
set_option maxHeartbeats 4000000 in
theorem kf_sorted (q : Option Nat) (acc : List Ac) (ha : Asc acc) (hfl : ∀ x ∈ acc, ¬ x.emp) (hlen : acc.length ≤ 1000000000) (Bm : Nat) (w : World) (hm : w.cell? ⟨Bm, 0, none⟩ = some (.map q)) (G : Sx.Facts) (hG : mapT q acc G) (hw : Sx.Holds w G) :
    Calls Tryd.prog 44 #[.func (.func 69) #[] #[.pointer (some ⟨Bm, 0, none⟩)], .func (.func 46) #[] #[]] w fun e w' => ∃ v, e = .returned v ∧ w'.ownsRow w.heap.size 58 6 v acc.length (acws acc) ∧ (v = .slice none 0 0 ↔ acc = []) ∧ Below w.heap.size w w' := by
  go_enter Tryd.func44, Tryd.ntmps44
  go_wp2_with (first
    | (go_at_call 67; refine (callsIn_wide.1 (kf_collect q acc ha hfl hlen Bm w hm G hG hw)).mono ?_; rintro e w1 ⟨v, ys, rfl, h1, h2, h3, h4⟩)
    | (go_at_call 68; refine (kf_sort ys acc h1 ha hfl hlen w.heap.size v w1 h2 h3).mono ?_; rintro e w2 ⟨rfl, g1, g2, g3, g4, g5, g6, g7⟩)
    | go_in)
  go_ret
  exact ⟨v, rfl, g1, g2, ⟨g5.trans h4.os, g6.trans h4.tape, g7.trans h4.output, Nat.le_trans h4.size g4, fun k hk => (g3 k hk (Nat.lt_of_lt_of_le hk h4.size)).trans (h4.block k hk)⟩⟩
end Go.Proofs.YtkibbcomfjhgpaaDoor

