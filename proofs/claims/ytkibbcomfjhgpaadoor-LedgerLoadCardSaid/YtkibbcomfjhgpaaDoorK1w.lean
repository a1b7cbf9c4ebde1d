/- Load of what a ledger holds. No conditions. -/
import Derived.Test.YtkibbcomfjhgpaaDoorK1v
namespace Go.Proofs.YtkibbcomfjhgpaaDoor
open Go.RowKit Sx
set_option maxRecDepth 100000

/-! Accounts put one after another. -/
def puts (l : List Ac) : List Ac := l.foldl putA []
theorem puts_next (l : List Ac) {k : Nat} (h : k < l.length) : puts (l.take (k + 1)) = putA (puts (l.take k)) (l.getD k default) := by
  have e : l.take (k + 1) = l.take k ++ [l.getD k default] := by
    rw [List.take_succ_eq_append_getElem h]
    simp [List.getD, h]
  rw [e]
  unfold puts
  rw [List.foldl_append]
  rfl
theorem fold_asc (l acc : List Ac) (h : Asc acc) : Asc (l.foldl putA acc) := by
  induction l generalizing acc with
  | nil => exact h
  | cons x r ih => exact ih _ (asc_put h x)
theorem fold_full (l acc : List Ac) (h : ∀ x ∈ acc, ¬ x.emp) : ∀ x ∈ l.foldl putA acc, ¬ x.emp := by
  induction l generalizing acc with
  | nil => exact h
  | cons x r ih => exact ih _ (fun y hy => (mem_putA hy).elim (fun e => by rw [e.1]; exact e.2) (fun e => h y e.1))
theorem fold_get (l acc : List Ac) (h : Once l) (c : Nat) : getA (l.foldl putA acc) c = if c ∈ l.map (·.a) then getA l c else getA acc c := by
  induction l generalizing acc with
  | nil => rfl
  | cons x r ih =>
    have h' : x.a ∉ r.map (·.a) ∧ Once r := List.nodup_cons.1 h
    show getA (r.foldl putA (putA acc x)) c = _
    rw [ih _ h'.2, getA_put]
    by_cases e : c = x.a
    · subst e
      rw [if_neg h'.1, if_pos rfl, if_pos (by simp), getA, if_pos rfl]
    · rw [if_neg e, getA, if_neg (fun h2 : x.a = c => e h2.symm)]
      by_cases hr : c ∈ r.map (·.a)
      · rw [if_pos hr, if_pos (show c ∈ (x :: r).map (·.a) from List.mem_cons_of_mem _ hr)]
      · rw [if_neg hr, if_neg (show ¬ c ∈ (x :: r).map (·.a) from fun hm => (List.mem_cons.1 hm).elim e hr)]
theorem puts_self {l : List Ac} (h : Asc l) (hf : ∀ x ∈ l, ¬ x.emp) : puts l = l := by
  refine asc_ext (fold_asc l [] List.Pairwise.nil) h (fold_full l [] fun _ h => (by cases h)) hf fun a => ?_
  unfold puts
  rw [fold_get l [] (asc_once h)]
  split
  · rfl
  · rename_i hn
    rw [getA_no fun y hy e => hn (List.mem_map.2 ⟨y, hy, e⟩)]
    rfl
theorem okA_asc {l : List Ac} {p : Nat} (h : Asc l) (hf : ∀ x ∈ l, ¬ x.emp) (hp : ∀ x ∈ l, p < x.a) : okA p l = true := by
  induction l generalizing p with
  | nil => rfl
  | cons x r ih =>
    have h' := List.pairwise_cons.1 h
    have := hp x List.mem_cons_self
    rw [okA_2 (by omega) (hf x List.mem_cons_self)]
    exact ih h'.2 (fun y hy => hf y (List.mem_cons_of_mem _ hy)) (fun y hy => h'.1 y hy)
theorem LOk.okA {L : Led} (h : LOk L) : okA 0 L.acc = true := okA_asc h.asc h.full fun x hx => Nat.pos_of_ne_zero (h.ok x hx).1
theorem LOk.getD {L : Led} (h : LOk L) (i : Nat) : (L.acc.getD i default).b < B256 := by
  by_cases hi : i < L.acc.length
  · have e : L.acc.getD i default = L.acc[i] := by simp [List.getD, hi]
    rw [e]; exact (h.ok _ (List.getElem_mem hi)).2.2.1
  · have e : L.acc.getD i default = default := by simp [List.getD, hi]
    rw [e]; exact B256_pos
theorem tot_sum (l : List Ac) : (l.map (·.b)).sum = totA l := by
  induction l with
  | nil => rfl
  | cons x r ih => rw [List.map_cons, List.sum_cons, ih]; rfl
theorem tl_sum {L : Led} (h : LOk L) (y : Ass) (e : y.l = L.acc) : (tl y L.v y.n).sum = L.s := by
  unfold tl
  rw [List.sum_append, List.take_of_length_le (by rw [y.hl]; exact Nat.le_refl _), e, tot_sum, h.sum]
  show (L.v 0 + (L.v 1 + (L.v 2 + (L.v 3 + 0)))) + _ = _
  omega

theorem k_total_k (y : Ass) (v : Nat → Nat) (hv : ∀ k, v k < B256) (hb : ∀ i, (y.l.getD i default).b < B256) (hn : y.n ≤ 100000) (hs : (tl y v y.n).sum < B256) (A : Facts) (hy : Sub y.L A) : Gives Tryd.prog 40 [y.v, VV4 v] A Unit (fun _ => .tuple #[U (tl y v y.n).sum, .int .i64 0]) (fun _ => []) := by
  have := k_total y v hv hb hn A hy
  unfold totR at this
  rwa [if_pos hs] at this
theorem k_valid_k (y : Ass) (hb : ∀ i, (y.l.getD i default).b < B256) (hn : y.n ≤ 1000000000) (hok : okA 0 y.l = true) (A : Facts) (hy : Sub y.L A) : Gives Tryd.prog 39 [y.v] A Unit (fun _ => .bool true) (fun _ => []) := by
  have := k_valid y hb hn A hy
  rwa [hok] at this
theorem l_fin {y : Ass} {v : Nat → Nat} {s p k : Nat} (g : decide ((k : Int) < (y.n : Int)) = false) : ∀ F, led p ⟨puts (y.l.take k), v, s⟩ F → led p ⟨puts y.l, v, s⟩ F := by
  intro F h
  rwa [List.take_of_length_le (by have := of_decide_eq_false g; rw [y.hl]; omega)] at h
set_option maxHeartbeats 4000000 in
theorem k_load (y : Ass) (v : Nat → Nat) (hv : ∀ k, v k < B256) (hb : ∀ i, (y.l.getD i default).b < B256) (hn : y.n ≤ 100000) (hok : okA 0 y.l = true) (hs : (tl y v y.n).sum < B256) (A : Facts) (hy : Sub y.L A) : CallT Tryd.prog 12 [y.v, VV4 v] A (fun G => G = []) (Nat) (fun m => .tuple #[.pointer (some ⟨m, 0, none⟩), .int .i64 0]) (fun _ => []) (fun m => led m ⟨puts y.l, v, (tl y v y.n).sum⟩) :=
  givesT_of_vcF Tryd.mixed good_ledger_Load (args := [(y.v, y.L), (VV4 v, [])]) (B := A) (O := [.reg [(1, .call Unit () (fun _ => .bool true) (fun _ => []))], .no, .reg [(2, .call Unit () (fun _ => .tuple #[U (tl y v y.n).sum, .int .i64 0]) (fun _ => []))], .no, .pubt 7 20 0 (fun p => [.invT (KU y.n) (fun k : KU y.n => ⟨38, [(8, .v (.pointer (some ⟨p, 0, none⟩)) []), (27, .v y.v y.L), (28, .v (.int .i64 ((y.n : Nat) : Int)) []), (29, .v (.int .i64 ((k.1 : Nat) : Int)) [])], [], 190⟩) (fun k => [(0, led p ⟨puts (y.l.take k.1), v, (tl y v y.n).sum⟩)]) (fun k => y.n - k.1) (fun k => [.both [.opt 9 [(1, .ld (AV (y.l.getD k.1 default)))], .reg [(2, .thg 0 Unit () (fun _ => .tuple #[]) (fun _ => []) (fun _ => led p ⟨putA (puts (y.l.take k.1)) (y.l.getD k.1 default), v, (tl y v y.n).sum⟩))]] []])])]) (.app ((.refl _)) (.app (hy) (.app (.nil _) (.nil _)))) (⟨k_valid_k y hb (by omega) hok _ (by intro q h; simp [h]), fun _ => ⟨rfl, ⟨k_total_k y v hv hb hn hs _ (by intro q h; simp [h]), fun _ => ⟨rfl, fun p => ⟨⟨⟨0, Nat.zero_le _⟩, ⟨rfl, ⟨⟨rfl, nofun⟩, ⟨rfl, fun _ h => h⟩, ⟨rfl, nofun⟩, ⟨rfl, nofun⟩, trivial⟩, trivial⟩, ⟨fun _ g => ⟨none, [], ⟨rfl, rfl⟩, nofun, g⟩, trivial⟩⟩, fun k => ⟨fun g => ⟨y.idx (Int.natCast_nonneg _) (Int.ofNat_lt.2 (lt_t g)), ⟨y.load k.1 rfl (lt_t g) (by intro q h; simp [h]), ⟨callT_op (k_store p ⟨puts (y.l.take k.1), v, (tl y v y.n).sum⟩ (y.l.getD k.1 default) (hb _) _) rfl rfl, fun _ => ⟨⟨k.1 + 1, lt_t g⟩, by have := lt_t g; show y.n - (k.1 + 1) < y.n - k.1; omega, ⟨rfl, ⟨⟨rfl, nofun⟩, ⟨rfl, fun _ h => h⟩, ⟨rfl, nofun⟩, ⟨congrArg _ (add1 (by have := lt_t g; omega)), nofun⟩, trivial⟩, trivial⟩, ⟨fun _ h => by rw [puts_next _ (by rw [y.hl]; exact lt_t g)]; exact h, trivial⟩⟩⟩⟩⟩, fun g => ⟨p, rfl, nofun, l_fin g, trivial⟩⟩⟩⟩⟩⟩⟩)
end Go.Proofs.YtkibbcomfjhgpaaDoor

