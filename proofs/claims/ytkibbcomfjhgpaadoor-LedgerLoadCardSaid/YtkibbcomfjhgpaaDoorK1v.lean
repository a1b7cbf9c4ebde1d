/- slices.Clone of the vaults; the sum of vaults and balances. No conditions. -/
import Derived.Test.YtkibbcomfjhgpaaDoorK1u
namespace Go.Proofs.YtkibbcomfjhgpaaDoor
open Go.RowKit Sx
set_option maxRecDepth 100000

/-! The sum of vaults and balances. -/
def v4 (v : Nat → Nat) : List Nat := [v 0, v 1, v 2, v 3]
def tl (y : Ass) (v : Nat → Nat) (k : Nat) : List Nat := v4 v ++ (y.l.take k).map (·.b)
theorem tl_next (y : Ass) (v : Nat → Nat) {k : Nat} (h : k < y.n) : ucs (tl y v k) ++ ucs [(y.l.getD k default).b] = ucs (tl y v (k + 1)) := by
  have hk : k < y.l.length := by rw [y.hl]; exact h
  have e : y.l.take (k + 1) = y.l.take k ++ [y.l.getD k default] := by
    rw [List.take_succ_eq_append_getElem hk]
    simp [List.getD, hk]
  unfold tl
  rw [e, List.map_append, ← List.append_assoc, ← ucs_app]
  rfl
theorem tl_0 (y : Ass) (v : Nat → Nat) : ucs (v4 v) = ucs (tl y v 0) := by unfold tl; rw [List.take_zero, List.map_nil, List.append_nil]
theorem tl_len (y : Ass) (v : Nat → Nat) (k : Nat) : (tl y v k).length ≤ 4 + y.n := by
  unfold tl
  rw [List.length_append, List.length_map, List.length_take, y.hl]
  show 4 + _ ≤ _
  omega
theorem tl_b (y : Ass) (v : Nat → Nat) (k : Nat) (hv : ∀ k, v k < B256) (hb : ∀ i, (y.l.getD i default).b < B256) (i : Nat) : (tl y v k).getD i 0 < B256 := by
  by_cases hi : i < (tl y v k).length
  · have hm : (tl y v k).getD i 0 ∈ tl y v k := by
      have e : (tl y v k).getD i 0 = (tl y v k)[i] := by simp [List.getD, hi]
      rw [e]; exact List.getElem_mem hi
    rcases List.mem_append.1 hm with h | h
    · unfold v4 at h
      simp only [List.mem_cons, List.not_mem_nil, or_false] at h
      rcases h with h | h | h | h <;> rw [h] <;> exact hv _
    · obtain ⟨x, hx, e⟩ := List.mem_map.1 h
      have hx := List.mem_of_mem_take hx
      obtain ⟨j, hj, e2⟩ := List.getElem_of_mem hx
      have := hb j
      have e3 : y.l.getD j default = x := by rw [← e2]; simp [List.getD, hj]
      rw [e3] at this
      rw [← e]; exact this
  · have e : (tl y v k).getD i 0 = 0 := by simp [List.getD, hi]
    rw [e]; exact B256_pos
def Uss.fr (l : List Nat) (hb : ∀ i, l.getD i 0 < B256) (x : FrX (ucs l)) : Uss where
  o := frO x
  n := lenB (ucs l) 4
  cap := frC 4 x
  l := l
  L := frL 31 x
  hl := (lenB_u l).symm
  hs := fun h => by
    cases x with
    | inl q =>
      have h0 : lenB (ucs l) 4 = 0 := by rw [q.1.down]; rfl
      omega
    | inr q => rfl
  hb := hb
  h := fun w hw i hi => by
    cases x with
    | inl q =>
      have h0 : lenB (ucs l) 4 = 0 := by rw [q.1.down]; rfl
      omega
    | inr q =>
      have h1 := hw _ (List.mem_singleton.2 rfl)
      simp only at h1
      refine ⟨q.1, i * 4, by simp only [frO, Option.getD_some, add_none, Nat.zero_add], fun j u hj => ?_⟩
      have hi : i < l.length := by rw [← lenB_u]; exact hi
      have hj4 : j < 4 := (List.getElem?_eq_some_iff.1 hj).1
      rw [cell_of_heap h1, List.getElem?_append_left (by rw [ucs_len]; omega), ucs_get l i hi j hj4]
      exact hj
structure TS (l : List Nat) where
  k : Nat
  hk : k ≤ l.length
  s : Nat
  hs : s < B256
  e : s = (l.take k).sum
def totR (l : List Nat) : Value := if l.sum < B256 then .tuple #[U l.sum, .int .i64 0] else .tuple #[.agg #[.int .u64 0, .int .u64 0, .int .u64 0, .int .u64 0], .int .i64 4]
section
variable {l : List Nat}
def ts0 (l : List Nat) : TS l := ⟨0, Nat.zero_le _, 0, B256_pos, by rw [List.take_zero]; rfl⟩
theorem TS.step (t : TS l) (g : t.k < l.length) : (l.take (t.k + 1)).sum = t.s + l.getD t.k 0 := by
  rw [t.e, List.take_succ_eq_append_getElem g, List.sum_append]
  simp [List.getD, g]
def TS.next (t : TS l) (g : t.k < l.length) (h : t.s + l.getD t.k 0 < B256) : TS l := ⟨t.k + 1, g, t.s + l.getD t.k 0, h, (t.step g).symm⟩
theorem ts_lt {k : Nat} (g : decide ((k : Int) < ((lenB (ucs l) 4 : Nat) : Int)) = true) : k < l.length := by rw [← lenB_u]; exact lt_t g
theorem ts_ge {k : Nat} (g : decide ((k : Int) < ((lenB (ucs l) 4 : Nat) : Int)) = false) : ¬ k < l.length := by have := of_decide_eq_false g; rw [← lenB_u]; omega
theorem ts_mu {k : Nat} (g : k < l.length) : l.length - (k + 1) < l.length - k := by omega
theorem ts_a1 {k : Nat} (g : k < l.length) (h : l.length ≤ 200000) : IntKind.i64.wrap ((k : Int) + 1) = ((k + 1 : Nat) : Int) := add1 (by omega)
theorem tl_l2 (y : Ass) (v : Nat → Nat) (k : Nat) (h : y.n ≤ 100000) : (tl y v k).length ≤ 200000 := by have := tl_len y v k; omega
theorem TS.r0 (t : TS l) (g : t.k < l.length) (h : ¬ t.s + l.getD t.k 0 < B256) : Value.tuple #[.agg #[.int .u64 0, .int .u64 0, .int .u64 0, .int .u64 0], .int .i64 4] = totR l := by
  have h1 : l.sum = (l.take (t.k + 1)).sum + (l.drop (t.k + 1)).sum := by rw [← List.sum_append, List.take_append_drop]
  unfold totR
  rw [if_neg (by rw [h1, t.step g]; omega)]
theorem TS.r1 (t : TS l) (g : ¬ t.k < l.length) : Value.tuple #[U t.s, .int .i64 0] = totR l := by
  have e : t.s = l.sum := by rw [t.e, List.take_of_length_le (by omega)]
  have h := t.hs
  unfold totR
  rw [e] at h ⊢
  rw [if_pos h]
end

theorem good_slicesCloneU : Good Tryd.prog 66 Tryd.f66 1 := ⟨Tryd.func66, by kernel_rfl, by kernel_rfl⟩
theorem k_clone (p : Nat) (v : Nat → Nat) (A : Facts) (hp : Sub [(p, .cells (cV v).toArray 41)] A) : GivesA Tryd.prog 66 [.slice (some ⟨p, 0, none⟩) 4 4] A Unit 31 4 (fun _ => ucs (v4 v)) :=
  givesA_of_vcF Tryd.mixed good_slicesCloneU (args := [(.slice (some ⟨p, 0, none⟩) 4 4, [(p, .cells (cV v).toArray 41)])]) (B := []) (O := [.opt 1 [(1, .ld (.bool false))], .no, .opt 3 [(0, .call Nat 0 (fun m => .slice (some ⟨m, 0, none⟩) 0 0) (fun m => [(m, .cells #[] 31)])), (2, .own Unit () 31 4 (fun _ => ucs (v4 v)))]]) (.app (.nil _) (.app (hp) (.nil _))) (⟨ld_isnilU (some ⟨p, 0, none⟩) 4 4 _, ⟨rfl, ⟨build_u0 _, fun _ => ⟨own_appU p (v4 v) 41 (by intro q h; have h : q = (p, Obj.cells (cV v).toArray 41) := List.mem_singleton.1 h; subst h; first | (simp; done) | (simp; rfl)) (by show 4 ≤ _; omega), fun _ => ⟨(), rfl⟩⟩⟩⟩⟩)
theorem t_fin {y : Ass} {v : Nat → Nat} {k : Nat} {a : Value} (g : decide ((k : Int) < (y.n : Int)) = false) (h : a = totR (tl y v k)) : a = totR (tl y v y.n) := by
  have hk := of_decide_eq_false g
  have e : tl y v k = tl y v y.n := by unfold tl; rw [List.take_of_length_le (by rw [y.hl]; omega), List.take_of_length_le (by rw [y.hl]; exact Nat.le_refl _)]
  rw [← e]; exact h
set_option maxHeartbeats 4000000 in
theorem k_total (y : Ass) (v : Nat → Nat) (hv : ∀ k, v k < B256) (hb : ∀ i, (y.l.getD i default).b < B256) (hn : y.n ≤ 100000) (A : Facts) (hy : Sub y.L A) : Gives Tryd.prog 40 [y.v, VV4 v] A (Unit) (fun _ => totR (tl y v y.n)) (fun _ => []) :=
  gives_of_vcF Tryd.mixed good_ledger_total (args := [(y.v, y.L), (VV4 v, [])]) (B := []) (O := [.pub 1 [0] (fun | [p] => [.reg [(0, .call Unit () (fun _ => .slice (some ⟨p, 0, none⟩) 4 4) (fun _ => [(p, .cells (cV v).toArray 41)])), (1, .own Unit () 31 4 (fun _ => ucs (v4 v)))], .inv (KU y.n) (fun k : KU y.n => ⟨47, [(4, .p 1 0), (6, .a 4 1 4), (16, .v y.v y.L), (17, .v (.int .i64 ((y.n : Nat) : Int)) []), (18, .v (.int .i64 ((k.1 : Nat) : Int)) [])], [(1, ⟨31, [.int .u64 0, .int .u64 0, .int .u64 0, .int .u64 0], []⟩), (4, ⟨bufT 31 1, ucs (tl y v k.1), []⟩)], 90⟩) (fun k => y.n - k.1) (fun k => [.both [.opt 4 [(1, .ld (AV (y.l.getD k.1 default)))], .opt 5 [(3, .call Nat 0 (fun m => .slice (some ⟨m, 0, none⟩) 1 1) (fun m => [(m, .cells (ucs [(y.l.getD k.1 default).b]).toArray 31)])), (4, .app 1 (ucs [(y.l.getD k.1 default).b]))]] [.puba 8 6 (ucs (tl y v k.1)) (fun xb => [.inv (TS (tl y v k.1)) (fun t : TS (tl y v k.1) => ⟨47, [(4, .p 1 0), (9, .p 91 0), (28, .v (.slice (frO xb) (lenB (ucs (tl y v k.1)) 4) (frC 4 xb)) (frL 31 xb)), (29, .v (.int .i64 ((lenB (ucs (tl y v k.1)) 4 : Nat) : Int)) []), (30, .v (.int .i64 ((t.k : Nat) : Int)) [])], [(1, ⟨31, [.int .u64 0, .int .u64 0, .int .u64 0, .int .u64 0], []⟩), (91, ⟨31, cU t.s, []⟩)], 190⟩) (fun t => (tl y v k.1).length - t.k) (fun t => [.both [.opt 10 [(1, .ld (U ((tl y v k.1).getD t.k 0)))], .alt [((t.s + (tl y v k.1).getD t.k 0) < B256, [(2, det (.tuple #[U (t.s + (tl y v k.1).getD t.k 0), .int .i64 0]))], [.no]), (True, [(2, det (.tuple #[U 0, .int .i64 4]))], [.yes])]] []])])]])] | _ => [])]) (.app (.nil _) (.app (hy) (.app (.nil _) (.nil _)))) (fun p => ⟨give_v4 p v (by intro q h; have h : q = (p, Obj.cells (cV v).toArray 41) := List.mem_singleton.1 h; subst h; first | (simp; done) | (simp; rfl)), fun _ => ⟨(k_clone p v _ (by intro q h; have h : q = (p, Obj.cells (cV v).toArray 41) := List.mem_singleton.1 h; subst h; first | (simp; done) | (simp; rfl))).op rfl rfl, fun _ => ⟨⟨⟨0, Nat.zero_le _⟩, rfl, ⟨⟨rfl, rfl, rfl⟩, ⟨rfl, rfl, rfl⟩, ⟨rfl, fun _ h => h⟩, ⟨rfl, nofun⟩, ⟨rfl, nofun⟩, trivial⟩, ⟨rfl, rfl, nofun⟩, ⟨⟨rfl, rfl⟩, tl_0 y v, nofun⟩, trivial⟩, fun k => ⟨fun g => ⟨y.idx (Int.natCast_nonneg _) (Int.ofNat_lt.2 (lt_t g)), ⟨y.load k.1 rfl (lt_t g) (by intro q h; simp [h]), ⟨build_u (y.l.getD k.1 default).b _, fun m => ⟨⟨u_src m [(y.l.getD k.1 default).b] 31 (by intro z h; simp at h; simp [h]), by rw [ucs_len, ucs_len]; have := tl_len y v k.1; show _ + 1 * 4 ≤ _; omega⟩, fun _ => ⟨⟨k.1 + 1, lt_t g⟩, by have := lt_t g; show y.n - (k.1 + 1) < y.n - k.1; omega, rfl, ⟨⟨rfl, rfl, rfl⟩, ⟨rfl, rfl, rfl⟩, ⟨rfl, fun _ h => h⟩, ⟨rfl, nofun⟩, ⟨congrArg _ (add1 (by have := lt_t g; omega)), nofun⟩, trivial⟩, ⟨rfl, rfl, nofun⟩, ⟨⟨rfl, rfl⟩, tl_next y v (lt_t g), nofun⟩, trivial⟩⟩⟩⟩⟩, fun g => ⟨rfl, fun xb => ⟨⟨ts0 _, rfl, ⟨⟨rfl, rfl, rfl⟩, ⟨rfl, rfl, rfl⟩, ⟨rfl, fun z h => List.mem_append.2 (.inl h)⟩, ⟨rfl, nofun⟩, ⟨rfl, nofun⟩, trivial⟩, ⟨rfl, rfl, nofun⟩, ⟨rfl, cu0, nofun⟩, trivial⟩, fun t => ⟨fun g2 => ⟨(Uss.fr (tl y v k.1) (tl_b y v k.1 hv hb) xb).idx (Int.natCast_nonneg _) (Int.ofNat_lt.2 (lt_t g2)), ⟨(Uss.fr (tl y v k.1) (tl_b y v k.1 hv hb) xb).load t.k rfl (lt_t g2) (by intro q h; have h : q ∈ frL 31 xb := h; simp [h]), ⟨fun h1 => ⟨d_add_k t.hs (tl_b y v k.1 hv hb _) h1 _, fun _ => ⟨rfl, ⟨t.next (ts_lt g2) h1, ts_mu (ts_lt g2), rfl, ⟨⟨rfl, rfl, rfl⟩, ⟨rfl, rfl, rfl⟩, ⟨rfl, fun _ h => h⟩, ⟨rfl, nofun⟩, ⟨congrArg _ (ts_a1 (ts_lt g2) (tl_l2 y v k.1 hn)), nofun⟩, trivial⟩, ⟨rfl, rfl, nofun⟩, ⟨rfl, rfl, nofun⟩, trivial⟩⟩⟩, fun h1 => ⟨fun _ => ⟨d_add_o t.hs (tl_b y v k.1 hv hb _) h1 _, fun _ => ⟨rfl, ⟨(), t_fin g (t.r0 (ts_lt g2) h1), nofun⟩⟩⟩, fun h => (h trivial).elim⟩⟩⟩⟩, fun g2 => ⟨(), t_fin g (t.r1 (ts_ge g2)), nofun⟩⟩⟩⟩⟩⟩⟩⟩)
end Go.Proofs.YtkibbcomfjhgpaaDoor

