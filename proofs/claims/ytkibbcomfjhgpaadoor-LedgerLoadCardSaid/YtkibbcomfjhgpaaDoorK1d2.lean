/- The reference ledger: Supply. No conditions. -/
import Derived.Test.YtkibbcomfjhgpaaDoorK1c2
import Derived.Test.YtkibbcomfjhgpaaDoorSxr
namespace Go.Proofs.YtkibbcomfjhgpaaDoor
open Go.RowKit Sx
set_option maxRecDepth 100000

section
variable {ρ : Operand → Value} {dst : Option Tmp} {type : TypeId} {pos : String} {after : Array Edge} {guard : Option (Nat × Bool)} {p : Nat} {l : List Ac} {x : FrX (acws l)} {v : Nat → Nat} {A : Facts} {X Y Z : Operand}
theorem acw_bal (x : Ac) : ∀ j u, (cU x.b)[j]? = some u → (acw x)[1 + j]? = some u := by
  intro j u hj
  have hj4 : j < 4 := (List.getElem?_eq_some_iff.1 hj).1
  rcases (by omega : j = 0 ∨ j = 1 ∨ j = 2 ∨ j = 3) with rfl | rfl | rfl | rfl <;> exact hj
theorem rr_bal {j : Int} (i : Nat) (e : j = i) (hi : i < l.length) (hx : ρ X = .pointer (some ((((frO x).getD ⟨0, 0, none⟩).add (j.toNat * 6)).add 1)) := by rfl) : ReadsOp Tryd.prog (execOp ρ ⟨dst, .load 31 X, type, pos, after, guard⟩) A (rF p l x v) Unit (fun _ => U (l.getD i default).b) (fun _ => []) := by
  refine rd_of fun w hF => ?_
  subst e
  obtain ⟨b, k, h1, h2⟩ := rF_row hF hi
  rw [Int.toNat_natCast, h1] at hx
  have hr : World.rangeAt w b (k + 1) (cU (l.getD i default).b) := fun j u hj => by
    have := h2 (1 + j) u (acw_bal _ j u hj)
    rwa [← Nat.add_assoc] at this
  have hl := run_loadVar_mid w b (k + 1) _ _ _ hr Tryd.underlying31 rfl (by kernel_rfl)
  have e0 : (⟨b, k, none⟩ : Addr).add 1 = ⟨b, k + 1, none⟩ := by rw [add_none]
  rw [e0] at hx
  simp [execOp, Instr.loadAt, hx, Instr.sureAddr, hl]
end
theorem nd_s {s k : Nat} (h : s ≤ k * B256) (hk : k ≤ 2000000) : nd s ≤ 1048576 := by
  have h1 : nd s ≤ 18 := nd_le.2 (by
    have e : 65536 ^ 18 = B256 * 4294967296 := by decide +kernel
    have e2 := Nat.mul_le_mul_right B256 hk
    have := B256_pos
    rw [e]; omega)
  omega
theorem nd_w {n : Nat} (h : n < B256) : nd n ≤ 1048576 := by have := nd_16.2 h; omega
def bigNilR : BigX 0 := ⟨none, 0, [], fun _ _ => ⟨none, 0, rfl, by rw [nd_zero]; omega, by rw [nd_zero]; omega, by rw [nd_zero]; omega, fun h => by rw [nd_zero] at h; omega⟩⟩
structure SS (l : List Ac) where
  k : Nat
  hk : k ≤ l.length
  s : Nat
  b : BigX s
  e : s = totA (l.take k)
  le : s ≤ k * B256
theorem tot_take {l : List Ac} {k : Nat} (h : k < l.length) : totA (l.take (k + 1)) = totA (l.take k) + (l.getD k default).b := by
  have e : l.take (k + 1) = l.take k ++ [l.getD k default] := by
    rw [List.take_succ_eq_append_getElem h]
    simp [List.getD, h]
  rw [e, ← tot_sum, ← tot_sum, List.map_append, List.sum_append]
  simp
def ss0 (l : List Ac) : SS l := ⟨0, Nat.zero_le _, 0, bigNilR, by rw [List.take_zero]; rfl, Nat.zero_le _⟩
theorem nilR_v (l : List Ac) : Value.slice none 0 0 = (ss0 l).b.v := by
  show Value.slice none 0 0 = bigNilR.v
  simp [bigNilR, BigX.v, nd_zero]
def SS.next {l : List Ac} (t : SS l) (g : t.k < l.length) (hb : (l.getD t.k default).b < B256) (b : BigX (t.s + (l.getD t.k default).b)) : SS l := ⟨t.k + 1, g, _, b, by rw [tot_take g, ← t.e], by have := t.le; rw [Nat.add_mul]; omega⟩
def sv (v : Nat → Nat) : Nat → Nat
  | 0 => 0
  | k + 1 => sv v k + v k
structure TV (s0 : Nat) (v : Nat → Nat) where
  k : Nat
  hk : k ≤ 4
  s : Nat
  b : BigX s
  e : s = s0 + sv v k
theorem sv_le {v : Nat → Nat} (hv : ∀ k, v k < B256) : ∀ k, sv v k ≤ k * B256
  | 0 => Nat.zero_le _
  | k + 1 => by
    have h1 := sv_le hv k
    have h2 := hv k
    show sv v k + v k ≤ (k + 1) * B256
    rw [Nat.add_mul]; omega
def TV.next {s0 : Nat} {v : Nat → Nat} (t : TV s0 v) (g : t.k < 4) (b : BigX (t.s + v t.k)) : TV s0 v := ⟨t.k + 1, g, _, b, by rw [t.e, sv]; omega⟩
theorem TV.nd {s0 : Nat} {v : Nat → Nat} (t : TV s0 v) (hv : ∀ k, v k < B256) {n : Nat} (h : s0 ≤ n * B256) (hn : n ≤ 1000000) : nd t.s ≤ 1048576 := by
  refine nd_s (k := n + t.k) ?_ (by have := t.hk; omega)
  have := sv_le hv t.k
  rw [t.e, Nat.add_mul]; omega
theorem lt4_t {k : Nat} (h : decide ((k : Int) < 4) = true) : k < 4 := by have := of_decide_eq_true h; omega

theorem good_pontageref11_Ledger_Supply : Good Tryd.prog 20 Tryd.f20 1 := ⟨Tryd.func20, by kernel_rfl, by kernel_rfl⟩
theorem tv_fin {l : List Ac} {t : SS l} {v : Nat → Nat} {u : TV t.s v} (h1 : decide ((t.k : Int) < ((lenB (acws l) 6 : Nat) : Int)) = false) (h2 : decide ((u.k : Int) < 4) = false) : u.s = totA l + sv v 4 := by
  have a1 := of_decide_eq_false h1
  have a2 := of_decide_eq_false h2
  rw [lenB_a] at a1
  have := u.hk
  have e1 : t.s = totA l := by rw [t.e, List.take_of_length_le (by omega)]
  have e3 : sv v u.k = sv v 4 := by rw [show u.k = 4 by omega]
  have := u.e
  omega
def BigX.cast {a b : Nat} (e : a = b) (x : BigX a) : BigX b := e ▸ x
theorem BigX.cast_v {a b : Nat} (e : a = b) (x : BigX a) : x.v = (x.cast e).v := by subst e; rfl
theorem BigX.cast_L {a b : Nat} (e : a = b) (x : BigX a) : (x.cast e).L = x.L := by subst e; rfl
set_option maxHeartbeats 4000000 in
theorem r_supply (p : Nat) (l : List Ac) (x : FrX (acws l)) (v : Nat → Nat) (hl : l.length ≤ 1000000) (hb : ∀ i, (l.getD i default).b < B256) (hv : ∀ k, v k < B256) (A : Facts) : CallR Tryd.prog 20 [.pointer (some ⟨p, 0, none⟩)] A ((rF p l x v)) (BigX (totA l + sv v 4)) (fun b => b.v) (fun b => b.L) :=
  reads_of_vcF Tryd.mixed good_pontageref11_Ledger_Supply (args := [(.pointer (some ⟨p, 0, none⟩), [])]) (B := A) (F := (rF p l x v)) (O := [.invT (SS l) (fun t : SS l => ⟨40, [(0, .v (.pointer (some ⟨p, 0, none⟩)) []), (3, .v t.b.v t.b.L), (4, .v (.int .i64 ((t.k : Nat) : Int)) [])], [], 190⟩) (fun _ => [(0, fun G => G = (rF p l x v))]) (fun t => l.length - t.k) (fun t => [.opt 3 [(4, .rdT 0 Unit () (fun _ => .slice (frO x) (lenB (acws l) 6) (frC 6 x)) (fun _ => []))], .both [.reg [(4, .rdT 0 Unit () (fun _ => .slice (frO x) (lenB (acws l) 6) (frC 6 x)) (fun _ => [])), (8, .rdT 0 Unit () (fun _ => U (l.getD t.k default).b) (fun _ => [])), (9, big ((l.getD t.k default).b)), (10, big (t.s + (l.getD t.k default).b))]] [.invT (TV t.s v) (fun u : TV t.s v => ⟨40, [(0, .v (.pointer (some ⟨p, 0, none⟩)) []), (3, .v u.b.v u.b.L), (5, .v (.int .i64 ((u.k : Nat) : Int)) [])], [], 190⟩) (fun _ => [(0, fun G => G = (rF p l x v))]) (fun u => 4 - u.k) (fun u => [.both [.reg [(5, .ld (.pointer (some ⟨p, 1 + u.k * 4, none⟩))), (6, .rdT 0 Unit () (fun _ => U (v u.k)) (fun _ => [])), (7, big (v u.k)), (8, big (u.s + v u.k))]] []])]])]) (.app ((.refl _)) (.app (.nil _) (.nil _))) (⟨⟨ss0 l, ⟨rfl, ⟨⟨rfl, nofun⟩, ⟨nilR_v l, nofun⟩, ⟨rfl, nofun⟩, trivial⟩, trivial⟩, ⟨fun _ g => g, trivial⟩⟩, fun t => ⟨fun _ g => by subst g; exact rr_lda, fun _ => ⟨fun h1 => ⟨fun _ g => by subst g; exact rr_lda, fun _ => ⟨rr_idx (Int.natCast_nonneg _) (rl_i (rl_g h1)), ⟨fun _ g => by subst g; exact rr_bal t.k rfl (rl_g h1), fun _ => ⟨c_from _ (hb _) _, fun b1 => ⟨c_add t.b b1 (nd_s t.le (by have := t.hk; omega)) (nd_w (hb _)) _ (by intro q h; simp [h]) (by intro q h; simp [h]), fun b2 => ⟨t.next (rl_g h1) (hb _) b2, by have := rl_g h1; show l.length - (t.k + 1) < l.length - t.k; omega, ⟨rfl, ⟨⟨rfl, nofun⟩, ⟨rfl, fun _ h => h⟩, ⟨congrArg _ (add1 (by have := rl_g h1; omega)), nofun⟩, trivial⟩, trivial⟩, ⟨fun _ g => g, trivial⟩⟩⟩⟩⟩⟩⟩, fun h1 => ⟨⟨⟨0, Nat.zero_le _, t.s, t.b, rfl⟩, ⟨rfl, ⟨⟨rfl, nofun⟩, ⟨rfl, fun _ h => h⟩, ⟨rfl, nofun⟩, trivial⟩, trivial⟩, ⟨fun _ g => g, trivial⟩⟩, fun u => ⟨fun h2 => ⟨kt_ix p (lt4_t h2) _ rfl, ⟨fun _ g => by subst g; exact rr_ldv (lt4_t h2), fun _ => ⟨c_from _ (hv _) _, fun b1 => ⟨c_add u.b b1 (u.nd hv t.le (by have := t.hk; omega)) (nd_w (hv _)) _ (by intro q h; simp [h]) (by intro q h; simp [h]), fun b2 => ⟨u.next (lt4_t h2) b2, by have := lt4_t h2; show 4 - (u.k + 1) < 4 - u.k; omega, ⟨rfl, ⟨⟨rfl, nofun⟩, ⟨rfl, fun _ h => h⟩, ⟨congrArg _ (add1 (by have := lt4_t h2; omega)), nofun⟩, trivial⟩, trivial⟩, ⟨fun _ g => g, trivial⟩⟩⟩⟩⟩⟩, fun h2 => ⟨u.b.cast (tv_fin h1 h2), BigX.cast_v _ _, fun q h => by have h : q ∈ (u.b.cast (tv_fin h1 h2)).L := h; rw [BigX.cast_L] at h; simp [h], fun _ g => g, trivial⟩⟩⟩⟩⟩⟩)
end Go.Proofs.YtkibbcomfjhgpaaDoor

