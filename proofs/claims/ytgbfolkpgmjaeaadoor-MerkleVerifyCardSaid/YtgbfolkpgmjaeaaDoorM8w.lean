/- Layer 8: the proofs of a tree. Condition, where it is named: the table of round constants holds the round constants. -/
import Derived.Test.YtgbfolkpgmjaeaaDoorM8v
namespace Go.Proofs.YtgbfolkpgmjaeaaDoor
open Go.RowKit Sx
set_option maxRecDepth 100000

/-! slices.Reverse. -/
/-- The list while it is turned round: k of it at either end. -/
def rvL (q : List Hx) (k : Nat) : List Hx := (List.range q.length).map fun j => q.getD (if j < k ∨ q.length ≤ j + k then q.length - 1 - j else j) H0
theorem rvL_len (q : List Hx) (k : Nat) : (rvL q k).length = q.length := by simp [rvL]
theorem rvL_get (q : List Hx) (k : Nat) {j : Nat} (h : j < q.length) : (rvL q k)[j]? = some (q.getD (if j < k ∨ q.length ≤ j + k then q.length - 1 - j else j) H0) := by simp [rvL, h]
theorem rvL_0 (q : List Hx) : rvL q 0 = q := by
  apply List.ext_getElem?
  intro j
  by_cases h : j < q.length
  · rw [rvL_get q 0 h, if_neg (by omega)]; simp [List.getD, h]
  · rw [List.getElem?_eq_none (by rw [rvL_len]; omega), List.getElem?_eq_none (by omega)]
theorem rvL_end (q : List Hx) {k : Nat} (h : q.length ≤ 2 * k + 1) : rvL q k = q.reverse := by
  apply List.ext_getElem?
  intro j
  by_cases hj : j < q.length
  · rw [rvL_get q k hj, List.getElem?_reverse hj]
    have e : (if j < k ∨ q.length ≤ j + k then q.length - 1 - j else j) = q.length - 1 - j := by
      split
      · rfl
      · omega
    rw [e]
    have : q.length - 1 - j < q.length := by omega
    simp [List.getD, this]
  · rw [List.getElem?_eq_none (by rw [rvL_len]; omega), List.getElem?_eq_none (by simp; omega)]
theorem rvL_step (q : List Hx) {k : Nat} (h : 2 * k + 1 < q.length) : ((rvL q k).set k ((rvL q k).getD (q.length - 1 - k) H0)).set (q.length - 1 - k) ((rvL q k).getD k H0) = rvL q (k + 1) := by
  have h1 : (rvL q k).getD (q.length - 1 - k) H0 = q.getD (q.length - 1 - k) H0 := by
    simp only [List.getD, rvL_get q k (show q.length - 1 - k < q.length by omega)]
    rw [if_neg (by omega)]; rfl
  have h2 : (rvL q k).getD k H0 = q.getD k H0 := by
    simp only [List.getD, rvL_get q k (show k < q.length by omega)]
    rw [if_neg (by omega)]; rfl
  rw [h1, h2]
  apply List.ext_getElem?
  intro j
  by_cases hj : j < q.length
  · rw [rvL_get q (k + 1) hj]
    by_cases e1 : j = q.length - 1 - k
    · subst e1
      rw [List.getElem?_set_self (by rw [List.length_set, rvL_len]; exact hj), if_pos (by omega)]
      congr 2; omega
    · rw [List.getElem?_set_ne (Ne.symm e1)]
      by_cases e2 : j = k
      · subst e2
        rw [List.getElem?_set_self (by rw [rvL_len]; exact hj), if_pos (by omega)]
      · rw [List.getElem?_set_ne (Ne.symm e2), rvL_get q k hj]
        by_cases e3 : j < k ∨ q.length ≤ j + k
        · rw [if_pos e3, if_pos (by omega)]
        · rw [if_neg e3, if_neg (by omega)]
  · rw [List.getElem?_eq_none (by rw [List.length_set, List.length_set, rvL_len]; omega), List.getElem?_eq_none (by rw [rvL_len]; omega)]
theorem hcs_set : ∀ (l : List Hx) (i : Nat) (v : Hx) (sp : List Value), i < l.length → setRange (hcs l ++ sp) (i * 32) (bsc v 32) = hcs (l.set i v) ++ sp
  | [], i, v, sp, h => absurd h (by simp)
  | h :: r, 0, v, sp, _ => by
    unfold setRange
    rw [Nat.zero_mul, List.take_zero, List.nil_append, Nat.zero_add, bsc_len]
    show bsc v 32 ++ ((bsc h 32 ++ hcs r) ++ sp).drop 32 = (bsc v 32 ++ hcs r) ++ sp
    rw [List.append_assoc (bsc h 32), List.drop_append_of_le_length (by rw [bsc_len]; exact Nat.le_refl _), List.drop_of_length_le (by rw [bsc_len]; exact Nat.le_refl _), List.nil_append, List.append_assoc]
  | h :: r, i + 1, v, sp, hi => by
    have ih := hcs_set r i v sp (by simpa using hi)
    unfold setRange at ih ⊢
    show List.take ((i + 1) * 32) ((bsc h 32 ++ hcs r) ++ sp) ++ bsc v 32 ++ List.drop ((i + 1) * 32 + (bsc v 32).length) ((bsc h 32 ++ hcs r) ++ sp) = (bsc h 32 ++ hcs (r.set i v)) ++ sp
    rw [List.append_assoc (bsc h 32) (hcs r) sp, show (i + 1) * 32 = (bsc h 32).length + i * 32 by rw [bsc_len]; omega, List.take_length_add_append, Nat.add_assoc, List.drop_length_add_append, List.append_assoc (bsc h 32), List.append_assoc (bsc h 32), ih, List.append_assoc]
section
variable {ρ : Operand → Value} {dst : Option Tmp} {type : TypeId} {pos : String} {after : Array Edge} {guard : Option (Nat × Bool)} {A : Facts} {b : Nat} {ls : List Hx} {sp : List Value} {X Y : Operand}
theorem rd_row {j : Int} (i : Nat) (ej : j = i) (hi : i < ls.length) (hx : ρ X = .pointer (some (((some ⟨b, 0, none⟩ : Option Addr).getD ⟨0, 0, none⟩).add (j.toNat * 32))) := by rfl) :
    ReadsOp Tryd.prog (execOp ρ ⟨dst, .load 28 X, type, pos, after, guard⟩) A [(b, .cells (hcs ls ++ sp).toArray 28)] Unit (fun _ => H8 (ls.getD i H0)) (fun _ => []) := by
  intro w hA hF hap
  have hl := (Hss.ofFr (hcs ls) ls rfl (.inr (b, sp))).load (j := j) i ej (by show i < lenB (hcs ls) 32; rw [lenB_h]; exact hi) (A := [(b, .cells (hcs ls ++ sp).toArray 28)]) (fun _ hq => hq) w hF
  have hrun : (execOp ρ ⟨dst, .load 28 X, type, pos, after, guard⟩).run Tryd.prog w = .ok (.value (H8 (ls.getD i H0))) w := by
    rw [show (Hss.ofFr (hcs ls) ls rfl (.inr (b, sp))).o = some ⟨b, 0, none⟩ from rfl, show (Hss.ofFr (hcs ls) ls rfl (.inr (b, sp))).l = ls from rfl] at hl
    simp only [execOp, Instr.loadAt, hx, Instr.sureAddr, Sem.run_bind, Sem.run_pure, Result.andThen_ok, hl]
  unfold OpRun
  rw [hrun]
  exact ⟨(), rfl, fun _ h => (by cases h), fun _ h => (by cases h), .refl _ _⟩
theorem store_row {j : Int} {v : Hx} (i : Nat) (ej : j = i) (hi : i < ls.length) (hx : ρ X = .pointer (some (((some ⟨b, 0, none⟩ : Option Addr).getD ⟨0, 0, none⟩).add (j.toNat * 32))) := by rfl) (hy : ρ Y = H8 v := by rfl) :
    GivesT Tryd.prog (execOp ρ ⟨dst, .store 28 X Y, type, pos, after, guard⟩) A (fun G => G = [(b, .cells (hcs ls ++ sp).toArray 28)]) Unit (fun _ => undef) (fun _ => []) (fun _ G => G = [(b, .cells (hcs (ls.set i v) ++ sp).toArray 28)]) := by
  obtain ⟨inf, z, hinf, hs, _, _, _⟩ := info_h
  subst ej
  refine store_thing (m := b) (off := i * 32) (c := hcs ls ++ sp) (vs := bsc v 32) (yv := H8 v) (e := 28) hinf ?_ hy rfl (by rw [bsc_len, hs]) (bsc_one v) (by rw [hs, List.length_append, hcs_len]; omega) (List.mem_singleton.2 rfl) (fun q hq => ?_)
  · rw [hx, Int.toNat_natCast]
    show Value.pointer (some (Addr.add ⟨b, 0, none⟩ (i * 32))) = _
    rw [add_none, Nat.zero_add]
  · left
    rw [List.mem_singleton.1 hq, hcs_set ls i v sp hi]
end
def revF {q : List Hx} : FrX (hcs q) → Facts
  | .inl _ => []
  | .inr p => [(p.1, .cells (hcs q.reverse ++ p.2).toArray 28)]
theorem hcs_nil {q : List Hx} (h : hcs q = []) : q = [] := by
  have := hcs_len q
  rw [h] at this
  exact List.length_eq_zero_iff.1 (by simp at this; omega)
def frRev {q : List Hx} : FrX (hcs q) → FrX (hcs q.reverse)
  | .inl p => .inl (⟨by rw [hcs_nil p.1.down]; rfl⟩, p.2)
  | .inr p => .inr p
theorem frRev_O {q : List Hx} (y : FrX (hcs q)) : frO (frRev y) = frO y := by cases y <;> rfl
theorem frRev_C {q : List Hx} (y : FrX (hcs q)) : frC 32 (frRev y) = frC 32 y := by
  cases y with
  | inl p => rfl
  | inr p => show ((hcs q.reverse).length + p.2.length) / 32 = ((hcs q).length + p.2.length) / 32; rw [hcs_len, hcs_len, List.length_reverse]
theorem frRev_L {q : List Hx} (y : FrX (hcs q)) : frL 28 (frRev y) = revF y := by cases y <;> rfl
abbrev Half (n : Nat) : Type := { k : Nat // 2 * k ≤ n + 1 }
theorem rvh_lt {n k : Nat} (h : decide ((k : Int) < (n : Int) - 1 - (k : Int)) = true) : 2 * k + 1 < n := by have := of_decide_eq_true h; omega
theorem rvh_ge {n k : Nat} (h : decide ((k : Int) < (n : Int) - 1 - (k : Int)) = false) : n ≤ 2 * k + 1 := by have := of_decide_eq_false h; omega
theorem wrap_int {z : Int} (h0 : -1000000 ≤ z) (h1 : z ≤ 1000000) : IntKind.i64.wrap z = z := by simp [IntKind.wrap, IntKind.bits, IntKind.signed]; omega
theorem rev_fin {q : List Hx} {k b : Nat} {sp : List Value} (h : q.length ≤ 2 * k + 1) : ∀ G : Facts, G = [(b, Obj.cells (hcs (rvL q k) ++ sp).toArray 28)] → G = [(b, Obj.cells (hcs q.reverse ++ sp).toArray 28)] := by
  rw [rvL_end q h]; exact fun _ g => g

/-! Proof. -/
structure PfX (l : List Hx) (i n : Nat) where
  s : Nat
  e : Nat
  q : List Hx
  hs : s ≤ i
  hi : i < e
  he : e ≤ n
  al : 2 ^ Nat.log2 (e - s) ∣ s
  pf : proofF (l.take n) i = proofF ((l.drop s).take (e - s)) (i - s) ++ q.reverse
  hq : q.length + (e - s) ≤ n
def PfX.z {l : List Hx} {i n : Nat} (hi : i < n) : PfX l i n := ⟨0, n, [], Nat.zero_le _, hi, Nat.le_refl _, ⟨0, rfl⟩, by rw [List.drop_zero, Nat.sub_zero, Nat.sub_zero, List.reverse_nil, List.append_nil], by simp⟩
section
variable {l : List Hx} {i n : Nat} (x : PfX l i n) (hn : n ≤ l.length) (h2 : 2 ≤ x.e - x.s)
include hn h2
theorem PfX.len : ((l.drop x.s).take (x.e - x.s)).length = x.e - x.s := by have := x.he; simp; omega
omit hn in
theorem PfX.cutl : ((l.drop x.s).take (x.e - x.s)).take (spl (x.e - x.s)) = (l.drop x.s).take (x.s + spl (x.e - x.s) - x.s) := by
  have := spl_lt h2
  rw [List.take_take, Nat.min_eq_left (by omega), Nat.add_sub_cancel_left]
omit hn h2 in
theorem PfX.cutr : ((l.drop x.s).take (x.e - x.s)).drop (spl (x.e - x.s)) = (l.drop (x.s + spl (x.e - x.s))).take (x.e - (x.s + spl (x.e - x.s))) := by
  rw [List.drop_take, List.drop_drop, Nat.sub_sub]
theorem PfX.pl (hi : i < x.s + spl (x.e - x.s)) : proofF (l.take n) i = proofF ((l.drop x.s).take (x.s + spl (x.e - x.s) - x.s)) (i - x.s) ++ (x.q ++ [part l (x.s + spl (x.e - x.s)) x.e]).reverse := by
  have hl := x.len hn h2
  rw [x.pf, proof_l (by rw [hl]; exact h2) (by rw [hl]; have := x.hs; omega), hl, x.cutl h2, x.cutr, List.reverse_append, List.reverse_singleton, List.append_assoc]
  rfl
theorem PfX.pr (hi : x.s + spl (x.e - x.s) ≤ i) : proofF (l.take n) i = proofF ((l.drop (x.s + spl (x.e - x.s))).take (x.e - (x.s + spl (x.e - x.s)))) (i - (x.s + spl (x.e - x.s))) ++ (x.q ++ [part l x.s (x.s + spl (x.e - x.s))]).reverse := by
  have hl := x.len hn h2
  rw [x.pf, proof_r (by rw [hl]; exact h2) (by rw [hl]; omega), hl, x.cutl h2, x.cutr, List.reverse_append, List.reverse_singleton, List.append_assoc, Nat.sub_sub]
  rfl
def PfX.nl (hi : i < x.s + spl (x.e - x.s)) : PfX l i n := ⟨x.s, x.s + spl (x.e - x.s), x.q ++ [part l (x.s + spl (x.e - x.s)) x.e], x.hs, hi, by have := spl_lt h2; have := x.he; omega, (cut_al h2 x.al).1, x.pl hn h2 hi, by have := spl_lt h2; have := x.hq; simp; omega⟩
def PfX.nr (hi : x.s + spl (x.e - x.s) ≤ i) : PfX l i n := ⟨x.s + spl (x.e - x.s), x.e, x.q ++ [part l x.s (x.s + spl (x.e - x.s))], hi, x.hi, x.he, (cut_al h2 x.al).2, x.pr hn h2 hi, by have := spl_lt h2; have := spl_pos (x.e - x.s); have := x.hq; simp; omega⟩
end
theorem PfX.fin {l : List Hx} {i n : Nat} (x : PfX l i n) (h : x.e - x.s ≤ 1) : proofF (l.take n) i = x.q.reverse := by
  rw [x.pf, proof_0 (by simp; omega), List.nil_append]
theorem gt1_t {c : Nat} (h : decide ((c : Int) > 1) = true) : 2 ≤ c := by have := of_decide_eq_true h; omega
theorem gt1_f {c : Nat} (h : decide ((c : Int) > 1) = false) : c ≤ 1 := by have := of_decide_eq_false h; omega
/-- The proof, as it is given back. -/
def prX {l : List Hx} {i n : Nat} (x : PfX l i n) (h : x.e - x.s ≤ 1) (y : FrX (hcs x.q)) : FrX (hcs (proofF (l.take n) i)) := frCast (by rw [x.fin h]) (frRev y)
theorem prX_v {l : List Hx} {i n : Nat} (x : PfX l i n) (h : x.e - x.s ≤ 1) (y : FrX (hcs x.q)) : Value.tuple #[.slice (frO y) (lenB (hcs x.q) 32) (frC 32 y), .bool true] = .tuple #[.slice (frO (prX x h y)) (lenB (hcs (proofF (l.take n) i)) 32) (frC 32 (prX x h y)), .bool true] := by
  unfold prX
  rw [frO_cast, frC_cast, frRev_O, frRev_C, lenB_h, lenB_h, x.fin h, List.length_reverse]
theorem prX_L {l : List Hx} {i n : Nat} (x : PfX l i n) (h : x.e - x.s ≤ 1) (y : FrX (hcs x.q)) {M N : Facts} : ∀ q ∈ frL 28 (prX x h y), q ∈ (revF y ++ M) ++ N := by
  unfold prX
  rw [frL_cast, frRev_L]
  exact fun q hq => by simp [hq]
theorem pf_app {l : List Hx} {i n : Nat} (x : PfX l i n) (hn : n ≤ 1000) (h : Hx) : (hcs x.q).length + (bsc h 32).length ≤ 1099511627776 := by have := x.hq; rw [hcs_len, bsc_len]; omega
theorem hcs_snoc (q : List Hx) (h : Hx) : hcs q ++ bsc h 32 = hcs (q ++ [h]) := by rw [hcs_app, hcs_1]
theorem ge_int {i n : Int} (h : n ≤ i) : decide (i ≥ n) = true := by apply decide_eq_true; omega
theorem ge_intf {i n : Int} (h : i < n) : decide (i ≥ n) = false := by apply decide_eq_false; omega
theorem rev_dec {n k : Nat} (hn : n ≤ 1000000) (h : 2 * k + 1 < n) : IntKind.i64.wrap ((n : Int) - 1 - ((k : Nat) : Int) - 1) = (n : Int) - 1 - ((k + 1 : Nat) : Int) := by
  rw [wrap_int (by omega) (by omega)]; omega
theorem rev_d0 {n : Nat} (hn : n ≤ 1000000) : IntKind.i64.wrap ((n : Int) - 1) = (n : Int) - 1 - ((0 : Nat) : Int) := by
  rw [wrap_int (by omega) (by omega)]; omega
theorem rev_row (q : List Hx) (hq : q.length ≤ 1000000) (b c : Nat) (sp : List Value) (A : Facts) : CallT Tryd.prog 32 [.slice (some ⟨b, 0, none⟩) q.length c] A (fun G => G = [(b, .cells (hcs q ++ sp).toArray 28)]) (Unit) (fun _ => .tuple #[]) (fun _ => []) (fun _ G => G = [(b, .cells (hcs q.reverse ++ sp).toArray 28)]) :=
  givesT_of_vcF Tryd.mixed good_Rev (args := [(.slice (some ⟨b, 0, none⟩) q.length c, [])]) (B := A) (O := [.opt 0 [(2, .ld (.int .i64 ((q.length : Int) - 1 - ((0 : Nat) : Int))))], .invT (Half q.length) (fun k : Half q.length => ⟨28, [(0, .v (.slice (some ⟨b, 0, none⟩) q.length c) []), (2, .v (.int .i64 ((k.1 : Nat) : Int)) []), (3, .v (.int .i64 ((q.length : Int) - 1 - ((k.1 : Nat) : Int))) [])], [], 40⟩) (fun k => [(0, fun G => G = [(b, .cells (hcs (rvL q k.1) ++ sp).toArray 28)])]) (fun k => q.length + 2 - k.1) (fun k => [.both [.opt 3 [(7, .rdT 0 Unit () (fun _ => H8 ((rvL q k.1).getD (q.length - 1 - k.1) H0)) (fun _ => [])), (11, .rdT 0 Unit () (fun _ => H8 ((rvL q k.1).getD k.1 H0)) (fun _ => [])), (13, .thg 0 Unit () (fun _ => undef) (fun _ => []) (fun _ G => G = [(b, .cells (hcs ((rvL q k.1).set k.1 ((rvL q k.1).getD (q.length - 1 - k.1) H0)) ++ sp).toArray 28)])), (15, .thg 0 Unit () (fun _ => undef) (fun _ => []) (fun _ G => G = [(b, .cells (hcs (rvL q (k.1 + 1)) ++ sp).toArray 28)]))], .opt 2 [(1, .ld (.int .i64 ((k.1 + 1 : Nat) : Int))), (3, .ld (.int .i64 ((q.length : Int) - 1 - ((k.1 + 1 : Nat) : Int))))]] []])]) (.app ((.refl _)) (.app (.nil _) (.nil _))) (⟨ld_sub (rev_d0 hq) _, ⟨⟨⟨0, by omega⟩, ⟨rfl, ⟨⟨rfl, nofun⟩, ⟨rfl, nofun⟩, ⟨rfl, nofun⟩, trivial⟩, trivial⟩, ⟨fun _ g => by rw [rvL_0]; exact g, trivial⟩⟩, fun k => ⟨fun g => ⟨⟨by have := rvh_lt g; omega, by have := rvh_lt g; omega⟩, ⟨fun _ g0 => by subst g0; exact rd_row (j := (q.length : Int) - 1 - ((k.1 : Nat) : Int)) (q.length - 1 - k.1) (by have := rvh_lt g; omega) (by have := rvh_lt g; rw [rvL_len]; omega), fun _ => ⟨⟨by have := rvh_lt g; omega, by have := rvh_lt g; omega⟩, ⟨fun _ g0 => by subst g0; exact rd_row  k.1 rfl (by have := rvh_lt g; rw [rvL_len]; omega), fun _ => ⟨⟨by have := rvh_lt g; omega, by have := rvh_lt g; omega⟩, ⟨store_row k.1 rfl (by have := rvh_lt g; rw [rvL_len]; omega), fun _ => ⟨⟨by have := rvh_lt g; omega, by have := rvh_lt g; omega⟩, ⟨(rvL_step q (rvh_lt g)) ▸ store_row (j := (q.length : Int) - 1 - ((k.1 : Nat) : Int)) (q.length - 1 - k.1) (by have := rvh_lt g; omega) (by have := rvh_lt g; rw [List.length_set, rvL_len]; omega), fun _ => ⟨ld_add (add1 (by have := rvh_lt g; omega)) _, ⟨ld_sub (rev_dec hq (rvh_lt g)) _, ⟨⟨k.1 + 1, by have := rvh_lt g; omega⟩, by have := rvh_lt g; show q.length + 2 - (k.1 + 1) < q.length + 2 - k.1; omega, ⟨rfl, ⟨⟨rfl, nofun⟩, ⟨rfl, nofun⟩, ⟨rfl, nofun⟩, trivial⟩, trivial⟩, ⟨fun _ g => g, trivial⟩⟩⟩⟩⟩⟩⟩⟩⟩⟩⟩⟩, fun g => ⟨(), rfl, nofun, rev_fin (rvh_ge g), trivial⟩⟩⟩⟩)
theorem rev_nil (o : Option Addr) (A : Facts) : CallT Tryd.prog 32 [.slice o 0 0] A (fun G => G = []) (Unit) (fun _ => .tuple #[]) (fun _ => []) (fun _ G => G = []) :=
  givesT_of_vcF Tryd.mixed good_Rev (args := [(.slice o 0 0, [])]) (B := A) (O := [.no]) (.app ((.refl _)) (.app (.nil _) (.nil _))) (⟨rfl, ⟨(), rfl, nofun, fun _ g => g, trivial⟩⟩)
theorem c_rev {q : List Hx} (hq : q.length ≤ 1000000) (y : FrX (hcs q)) (A : Facts) : CallT Tryd.prog 32 [.slice (frO y) (lenB (hcs q) 32) (frC 32 y)] A (fun G => G = frL 28 y ∧ FrOk 32 y) Unit (fun _ => .tuple #[]) (fun _ => []) (fun _ G => G = revF y) := by
  rw [lenB_h]
  cases y with
  | inl p =>
    have hn := hcs_nil p.1.down
    have := rev_nil p.2 A
    subst hn
    exact this.mono (fun _ g => g.1) (fun _ _ g => g) (.refl _)
  | inr p => exact (rev_row q hq p.1 _ p.2 A).mono (fun _ g => g.1) (fun _ _ g => g) (.refl _)
theorem pf_in (m : Nat) (l : List Hx) (fr : Nat → Fq) (hok : TrOk m (hrows (lev l)) fr) (hn : l.length ≤ 1000) (i n : Nat) (hi : i < n) (hk : n ≤ l.length) (A : Facts) (hA : EnvF RC A) : CallR Tryd.prog 17 [.pointer (some ⟨m, 0, none⟩), .int .i64 (i : Int), .int .i64 (n : Int)] A ((treeF m (hrows (lev l)) fr)) (FrX (hcs (proofF (l.take n) i))) (fun x => .tuple #[.slice (frO x) (lenB (hcs (proofF (l.take n) i)) 32) (frC 32 x), .bool true]) (fun x => frL 28 x) :=
  reads_of_vcF Tryd.mixed good_merkle_Tree_Proof (args := [(.pointer (some ⟨m, 0, none⟩), []), (.int .i64 (i : Int), []), (.int .i64 (n : Int), [])]) (B := A) (F := (treeF m (hrows (lev l)) fr)) (O := [.reg [(3, .yes), (4, .yes), (5, .yes), (6, .no), (8, .yes), (9, .yes), (10, .rdT 0 Unit () (fun _ => .int .i64 ((l.length : Nat) : Int)) (fun _ => [])), (11, .yes), (12, .no)], .no, .opt 3 [(0, .own Unit () 28 32 (fun _ => []))], .invT (PfX l i n) (fun x : PfX l i n => ⟨58, [(0, .v (.pointer (some ⟨m, 0, none⟩)) []), (1, .v (.int .i64 (i : Int)) []), (8, .a 15 1 32), (9, .v (.int .i64 ((x.s : Nat) : Int)) []), (10, .v (.int .i64 ((x.e : Nat) : Int)) [])], [(15, ⟨bufT 28 1, hcs x.q, []⟩)], 60⟩) (fun _ => [(0, fun G => G = (treeF m (hrows (lev l)) fr))]) (fun x => x.e - x.s) (fun x => [.opt 5 [(2, .ld (.int .i64 ((x.e - x.s : Nat) : Int)))], .both [.reg [(3, .ld (.int .i64 ((x.e - x.s : Nat) : Int))), (4, det (.int .i64 ((spl (x.e - x.s) : Nat) : Int))), (5, .ld (.int .i64 (((x.s + spl (x.e - x.s)) : Nat) : Int)))], .both [.reg [(4, .rdT 0 Unit () (fun _ => H8 (part l (x.s + spl (x.e - x.s)) x.e)) (fun _ => [])), (5, .call Nat 0 (fun m => .slice (some ⟨m, 0, none⟩) 1 1) (fun m => [(m, .cells (bsc (part l (x.s + spl (x.e - x.s)) x.e) 32).toArray 28)])), (6, .app 1 (bsc (part l (x.s + spl (x.e - x.s)) x.e) 32))]] [.reg [(4, .rdT 0 Unit () (fun _ => H8 (part l x.s (x.s + spl (x.e - x.s)))) (fun _ => [])), (5, .call Nat 0 (fun m => .slice (some ⟨m, 0, none⟩) 1 1) (fun m => [(m, .cells (bsc (part l x.s (x.s + spl (x.e - x.s))) 32).toArray 28)])), (6, .app 1 (bsc (part l x.s (x.s + spl (x.e - x.s))) 32))]]] [.pubat 12 8 (hcs x.q) 1 (fun y => [.reg [(1, .thg 1 Unit () (fun _ => .tuple #[]) (fun _ => []) (fun _ G => G = revF y))], .frz 13 8 1 (revF y)])]])]) (.app ((.refl _)) (.app (.nil _) (.app (.nil _) (.app (.nil _) (.nil _))))) (⟨gff (lt0_f i), ⟨gff (lt0_f i), ⟨gff (lt0_f i), ⟨(lt0_f i), ⟨gff (ge_f' hi), ⟨gff (ge_f' hi), ⟨⟨gff (ge_f' hi), fun _ g => by subst g; exact callR_op (tlen_r ⟨fr, rfl, hok⟩ _) rfl rfl⟩, fun _ => ⟨gff (ge_f' hi), ⟨(ge_f' hi), ⟨(gtk_f hk), ⟨own_nil 28 32 _, fun _ => ⟨⟨PfX.z hi, ⟨rfl, ⟨⟨rfl, nofun⟩, ⟨rfl, nofun⟩, ⟨rfl, rfl, rfl⟩, ⟨rfl, nofun⟩, ⟨rfl, nofun⟩, trivial⟩, ⟨⟨rfl, rfl⟩, rfl, nofun⟩, trivial⟩, ⟨fun _ g => g, trivial⟩⟩, fun x => ⟨ld_sub (sub_nat (by have := x.hs; have := x.hi; omega) (by have := x.he; omega)) _, ⟨fun g => ⟨ld_sub (sub_nat (by have := x.hs; have := x.hi; omega) (by have := x.he; omega)) _, ⟨c_lc (x.e - x.s) (gt1_t g) (by have := x.he; omega) _, fun _ => ⟨ld_add (add_nat (by have := spl_lt (gt1_t g); have := x.he; omega)) _, ⟨fun h => ⟨fun _ g0 => by subst g0; exact callR_op (c_rbt m l fr hok hn _ (x.s + spl (x.e - x.s)) x.e rfl (by have := spl_lt (gt1_t g); have := x.hs; omega) (by have := x.he; omega) (cut_al (gt1_t g) x.al).2 _ (hA.app _)) rfl rfl, fun _ => ⟨build_h (part l (x.s + spl (x.e - x.s)) x.e) _, fun r => ⟨⟨row_src r (part l (x.s + spl (x.e - x.s)) x.e) (by intro z h; simp at h; simp [h]), pf_app x (by omega) _⟩, fun _ => ⟨x.nl hk (gt1_t g) (lt_t h), (by have := spl_lt (gt1_t g); have := spl_pos (x.e - x.s); show (x.s + spl (x.e - x.s)) - x.s < x.e - x.s; omega), ⟨rfl, ⟨⟨rfl, nofun⟩, ⟨rfl, nofun⟩, ⟨rfl, rfl, rfl⟩, ⟨rfl, nofun⟩, ⟨rfl, nofun⟩, trivial⟩, ⟨⟨rfl, rfl⟩, hcs_snoc _ _, nofun⟩, trivial⟩, ⟨fun _ g => g, trivial⟩⟩⟩⟩⟩, fun h => ⟨fun _ g0 => by subst g0; exact callR_op (c_rbt m l fr hok hn _ x.s (x.s + spl (x.e - x.s)) rfl (by have := spl_pos (x.e - x.s); omega) (by have := spl_lt (gt1_t g); have := x.he; omega) (cut_al (gt1_t g) x.al).1 _ (hA.app _)) rfl rfl, fun _ => ⟨build_h (part l x.s (x.s + spl (x.e - x.s))) _, fun r => ⟨⟨row_src r (part l x.s (x.s + spl (x.e - x.s))) (by intro z h; simp at h; simp [h]), pf_app x (by omega) _⟩, fun _ => ⟨x.nr hk (gt1_t g) (lt_f h), (by have := spl_lt (gt1_t g); have := spl_pos (x.e - x.s); show x.e - (x.s + spl (x.e - x.s)) < x.e - x.s; omega), ⟨rfl, ⟨⟨rfl, nofun⟩, ⟨rfl, nofun⟩, ⟨rfl, rfl, rfl⟩, ⟨rfl, nofun⟩, ⟨rfl, nofun⟩, trivial⟩, ⟨⟨rfl, rfl⟩, hcs_snoc _ _, nofun⟩, trivial⟩, ⟨fun _ g => g, trivial⟩⟩⟩⟩⟩⟩⟩⟩⟩, fun g => ⟨rfl, fun y => ⟨callT_op (c_rev (by have := x.hq; omega) y _) rfl rfl, fun _ => ⟨fun _ g => g, ⟨prX x (gt1_f g) y, prX_v x (gt1_f g) y, prX_L x (gt1_f g) y, fun _ g => g, trivial⟩⟩⟩⟩⟩⟩⟩⟩⟩⟩⟩⟩⟩⟩⟩⟩⟩⟩)
theorem pf_a (m : Nat) (l : List Hx) (fr : Nat → Fq) (_hok : TrOk m (hrows (lev l)) fr) (_hn : l.length ≤ 1000) (i n : Int) (h : i < 0) (A : Facts) : CallR Tryd.prog 17 [.pointer (some ⟨m, 0, none⟩), .int .i64 i, .int .i64 n] A ((treeF m (hrows (lev l)) fr)) (Unit) (fun _ => .tuple #[.slice none 0 0, .bool false]) (fun _ => []) :=
  reads_of_vcF Tryd.mixed good_merkle_Tree_Proof (args := [(.pointer (some ⟨m, 0, none⟩), []), (.int .i64 i, []), (.int .i64 n, [])]) (B := A) (F := (treeF m (hrows (lev l)) fr)) (O := [.reg [(3, .no), (4, .no), (5, .no), (6, .yes), (8, .no), (9, .no), (10, .no), (11, .no), (12, .yes)], .yes]) (.app ((.refl _)) (.app (.nil _) (.app (.nil _) (.app (.nil _) (.nil _))))) (⟨gft (decide_eq_true h), ⟨gft (decide_eq_true h), ⟨gft (decide_eq_true h), ⟨(decide_eq_true h), ⟨gft rfl, ⟨gft rfl, ⟨gft rfl, ⟨gft rfl, ⟨rfl, ⟨rfl, ⟨(), rfl, nofun, fun _ g => g, trivial⟩⟩⟩⟩⟩⟩⟩⟩⟩⟩⟩)
theorem pf_b (m : Nat) (l : List Hx) (fr : Nat → Fq) (_hok : TrOk m (hrows (lev l)) fr) (_hn : l.length ≤ 1000) (i n : Int) (h0 : ¬ i < 0) (h : n ≤ i) (A : Facts) : CallR Tryd.prog 17 [.pointer (some ⟨m, 0, none⟩), .int .i64 i, .int .i64 n] A ((treeF m (hrows (lev l)) fr)) (Unit) (fun _ => .tuple #[.slice none 0 0, .bool false]) (fun _ => []) :=
  reads_of_vcF Tryd.mixed good_merkle_Tree_Proof (args := [(.pointer (some ⟨m, 0, none⟩), []), (.int .i64 i, []), (.int .i64 n, [])]) (B := A) (F := (treeF m (hrows (lev l)) fr)) (O := [.reg [(3, .yes), (4, .yes), (5, .yes), (6, .no), (8, .no), (9, .no), (10, .no), (11, .no), (12, .yes)], .yes]) (.app ((.refl _)) (.app (.nil _) (.app (.nil _) (.app (.nil _) (.nil _))))) (⟨gff (decide_eq_false h0), ⟨gff (decide_eq_false h0), ⟨gff (decide_eq_false h0), ⟨(decide_eq_false h0), ⟨gft (ge_int h), ⟨gft (ge_int h), ⟨gft (ge_int h), ⟨gft (ge_int h), ⟨(ge_int h), ⟨rfl, ⟨(), rfl, nofun, fun _ g => g, trivial⟩⟩⟩⟩⟩⟩⟩⟩⟩⟩⟩)
theorem pf_c (m : Nat) (l : List Hx) (fr : Nat → Fq) (hok : TrOk m (hrows (lev l)) fr) (_hn : l.length ≤ 1000) (i n : Int) (h0 : ¬ i < 0) (h1 : i < n) (h : (l.length : Int) < n) (A : Facts) : CallR Tryd.prog 17 [.pointer (some ⟨m, 0, none⟩), .int .i64 i, .int .i64 n] A ((treeF m (hrows (lev l)) fr)) (Unit) (fun _ => .tuple #[.slice none 0 0, .bool false]) (fun _ => []) :=
  reads_of_vcF Tryd.mixed good_merkle_Tree_Proof (args := [(.pointer (some ⟨m, 0, none⟩), []), (.int .i64 i, []), (.int .i64 n, [])]) (B := A) (F := (treeF m (hrows (lev l)) fr)) (O := [.reg [(3, .yes), (4, .yes), (5, .yes), (6, .no), (8, .yes), (9, .yes), (10, .rdT 0 Unit () (fun _ => .int .i64 ((l.length : Nat) : Int)) (fun _ => [])), (11, .yes), (12, .no)], .yes]) (.app ((.refl _)) (.app (.nil _) (.app (.nil _) (.app (.nil _) (.nil _))))) (⟨gff (decide_eq_false h0), ⟨gff (decide_eq_false h0), ⟨gff (decide_eq_false h0), ⟨(decide_eq_false h0), ⟨gff (ge_intf h1), ⟨gff (ge_intf h1), ⟨⟨gff (ge_intf h1), fun _ g => by subst g; exact callR_op (tlen_r ⟨fr, rfl, hok⟩ _) rfl rfl⟩, fun _ => ⟨gff (ge_intf h1), ⟨(ge_intf h1), ⟨(gtk_t h), ⟨(), rfl, nofun, fun _ g => g, trivial⟩⟩⟩⟩⟩⟩⟩⟩⟩⟩⟩)
theorem pf_r {m : Nat} {l : List Hx} {F : Facts} (h : Tr m (hrows (lev l)) F) (hn : l.length ≤ 1000) (i n : Nat) (hi : i < n) (hk : n ≤ l.length) (A : Facts) (hA : EnvF RC A) : CallR Tryd.prog 17 [.pointer (some ⟨m, 0, none⟩), .int .i64 (i : Int), .int .i64 (n : Int)] A F (FrX (hcs (proofF (l.take n) i))) (fun x => .tuple #[.slice (frO x) (lenB (hcs (proofF (l.take n) i)) 32) (frC 32 x), .bool true]) (fun x => frL 28 x) := by
  obtain ⟨fr, rfl, hok⟩ := h
  exact pf_in m l fr hok hn i n hi hk A hA
theorem pf_no {m : Nat} {l : List Hx} {F : Facts} (h : Tr m (hrows (lev l)) F) (hn : l.length ≤ 1000) (i n : Int) (hx : ¬ (0 ≤ i ∧ i < n ∧ n ≤ (l.length : Int))) (A : Facts) : CallR Tryd.prog 17 [.pointer (some ⟨m, 0, none⟩), .int .i64 i, .int .i64 n] A F Unit (fun _ => .tuple #[.slice none 0 0, .bool false]) (fun _ => []) := by
  obtain ⟨fr, rfl, hok⟩ := h
  by_cases h0 : i < 0
  · exact pf_a m l fr hok hn i n h0 A
  by_cases h1 : n ≤ i
  · exact pf_b m l fr hok hn i n h0 h1 A
  exact pf_c m l fr hok hn i n h0 (by omega) (by omega) A
end Go.Proofs.YtgbfolkpgmjaeaaDoor

