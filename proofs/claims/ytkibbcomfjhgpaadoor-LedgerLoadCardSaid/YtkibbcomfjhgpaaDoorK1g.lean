/- The accounts of a ledger as a sorted list, the comparison of two lists, and one call of a sequence. No conditions. -/
import Derived.Test.YtkibbcomfjhgpaaDoorK1f
import Derived.Test.YtkibbcomfjhgpaaDoorK1x
import Derived.Test.YtkibbcomfjhgpaaDoorSxv
namespace Go.Proofs.YtkibbcomfjhgpaaDoor
open Go.RowKit Sx
set_option maxRecDepth 100000

abbrev KU (n : Nat) : Type := { i : Nat // i ≤ n }
theorem lenB_a (l : List Ac) : lenB (acws l) 6 = l.length := by
  show (acws l).length / 6 = _
  rw [acws_len, Nat.mul_div_cancel _ (by decide)]
def lvA : List Leaf := List.replicate 6 (.i .u64)
theorem lvA_ok : leaves Tryd.prog 4 58 = some lvA := by kernel_rfl
theorem guardA : Tryd.prog.eqGuardType Tryd.prog.depth 58 = false := by kernel_rfl
theorem eqT_acc {xs ys : Array Value} (hx : fitL lvA xs.toList = true) (hy : fitL lvA ys.toList = true) : EqRun Tryd.prog 58 (.agg xs) (.agg ys) (cellsEq xs.toList ys.toList) :=
  eqRun_of lvA_ok (by omega) (.inl ⟨_, Tryd.underlying58⟩) guardA hx hy
theorem acw_self (x : Ac) : (!cellsEq (acw x) (acw x)) = false := by simp [cellsEq, cellEq]

/-! Slices of accounts. -/
structure Ass where
  o : Option Addr
  n : Nat
  cap : Nat
  l : List Ac
  L : Facts
  hl : l.length = n
  hc : n ≤ cap
  hs : 0 < n → o.isSome = true
  h : ∀ w, Sx.Holds w L → ∀ i, i < n → ∃ b k, (o.getD ⟨0, 0, none⟩).add (i * 6) = ⟨b, k, none⟩ ∧ World.rangeAt w b k (acw (l.getD i default))
abbrev Ass.v (y : Ass) : Value := .slice y.o y.n y.cap
theorem Ass.idx (y : Ass) {i : Int} (h0 : 0 ≤ i) (h1 : i < y.n) : idxOk y.o i y.n := by
  have := y.hs (by omega)
  cases e : y.o with
  | none => rw [e] at this; cases this
  | some a => exact ⟨h0, h1⟩
theorem Ass.load (y : Ass) {j : Int} (i : Nat) (e : j = i) (hi : i < y.n) {A : Facts} (hA : Sub y.L A) : ∀ w, Sx.Holds w A → (loadVar 58 ((y.o.getD ⟨0, 0, none⟩).add (j.toNat * 6))).run Tryd.prog w = .ok (AV (y.l.getD i default)) w := by
  intro w hw
  subst e
  obtain ⟨b, k, h1, h2⟩ := y.h w (hA.holds hw) i hi
  rw [Int.toNat_natCast, h1]
  exact run_loadVar_mid w b k _ _ _ h2 Tryd.underlying58 rfl (by kernel_rfl)
theorem acs_range {w : World} {m : Nat} {l : List Ac} {sp : List Value} {e : TypeId} (h : w.heap[m]? = some (.cells (acws l ++ sp).toArray e)) {i : Nat} (hi : i < l.length) : World.rangeAt w m (i * 6) (acw (l.getD i default)) := by
  intro j v hj
  have hj6 : j < 6 := (List.getElem?_eq_some_iff.1 hj).1
  rw [cell_of_heap h, List.getElem?_append_left (by rw [acws_len]; omega), acws_get l i hi j hj6]
  exact hj
def Ass.fr (l : List Ac) (x : FrX (acws l)) : Ass where
  o := frO x
  n := lenB (acws l) 6
  cap := frC 6 x
  l := l
  L := frL 58 x
  hl := (lenB_a l).symm
  hc := by
    cases x with
    | inl q =>
      have h0 : lenB (acws l) 6 = 0 := by rw [q.1.down]; rfl
      exact Nat.le_of_eq h0
    | inr q => show (acws l).length / 6 ≤ ((acws l).length + q.2.length) / 6; exact Nat.div_le_div_right (by omega)
  hs := fun h => by
    cases x with
    | inl q => have := q.1.down; rw [this] at h; exact absurd h (by decide)
    | inr q => rfl
  h := fun w hw i hi => by
    cases x with
    | inl q => have := q.1.down; rw [this] at hi; exact absurd hi (by simp [lenB])
    | inr q =>
      have h1 := hw _ (List.mem_singleton.2 rfl)
      simp only at h1
      refine ⟨q.1, i * 6, by simp only [frO, Option.getD_some, add_none, Nat.zero_add], ?_⟩
      exact acs_range h1 (by rw [lenB_a] at hi; exact hi)
theorem ase_len {y z : Ass} (h : y.l = z.l) : y.n = z.n := by rw [← y.hl, ← z.hl, h]
theorem ase_n {y z : Ass} (h : y.l = z.l) : (!((y.n : Int) == (z.n : Int))) = false := by rw [ase_len h]; simp
theorem ase_l {y z : Ass} (h : y.l = z.l) (i : Nat) (hi : i < y.n) {A : Facts} (hA : Sub z.L A) : ∀ w, Sx.Holds w A → (loadVar 58 ((z.o.getD ⟨0, 0, none⟩).add ((i : Int).toNat * 6))).run Tryd.prog w = .ok (AV (y.l.getD i default)) w := by
  rw [h]; exact z.load i rfl (by rw [← ase_len h]; exact hi) hA

/-! The accounts of a ledger. -/
theorem kv_walk (q : Option Nat) (w : World) : Calls Tryd.prog 45 #[.map q] w fun e w' => e = .returned (.func (.func 69) #[] #[.pointer (some ⟨w.heap.size, 0, none⟩)]) ∧ w' = w.alloc (.cells #[.map q] 65) := by
  go_enter Tryd.func45, Tryd.ntmps45
  go_wp2
  go_ret
  exact ⟨rfl, rfl⟩
abbrev FnV (m : Nat) : Value := .func (.func 69) #[] #[.pointer (some ⟨m, 0, none⟩)]
theorem kg_values (q : Option Nat) (A : Facts) : Gives Tryd.prog 45 [.map q] A Nat FnV (fun m => [(m, .cells #[.map q] 65)]) := by
  intro w _
  rw [callRun_enters ⟨_, Tryd.func45, by kernel_rfl, rfl⟩]
  refine (kv_walk q w).mono ?_
  rintro e w' ⟨rfl, rfl⟩
  refine ⟨_, rfl, w.heap.size, rfl, fun z hz => ?_, fun z hz => ?_, (Go.RowKit.Below.refl _ w).alloc (Nat.le_refl _) _⟩
  · obtain rfl := List.mem_singleton.1 hz; exact World.alloc_heap_new w _
  · obtain rfl := List.mem_singleton.1 hz; exact .inl (Nat.le_refl _)
theorem kg_sorted {p : Nat} {q : Option Nat} {L : Led} {F : Facts} (hT : ledQ p q L F) (ha : Asc L.acc) (hfl : ∀ x ∈ L.acc, ¬ x.emp) (hlen : L.acc.length ≤ 1000000000) (m : Nat) (A : Facts) (hA : Sub [(m, Obj.cells #[.map q] 65)] A) :
    CallR Tryd.prog 44 [FnV m, .func (.func 46) #[] #[]] A F (FrX (acws L.acc)) (fun x => .slice (frO x) (lenB (acws L.acc) 6) (frC 6 x)) (fun x => frL 58 x) := by
  intro w hAw hF hap
  obtain ⟨G, hG, _, rfl⟩ := hT
  have hm : w.cell? ⟨m, 0, none⟩ = some (.map q) := by
    have := hA.holds hAw _ (List.mem_singleton.2 rfl)
    simp only at this
    simp [World.cell?, this]
  rw [callRun_enters ⟨_, Tryd.func44, by kernel_rfl, rfl⟩]
  refine (kf_sorted q L.acc ha hfl hlen m w hm G hG (fun z hz => hF z (List.mem_cons_of_mem _ hz))).mono ?_
  rintro e w' ⟨v, rfl, hrow, hnil, hb⟩
  refine ⟨v, rfl, ?_⟩
  rcases hrow.2 with ⟨rfl, h0⟩ | ⟨g, cap, cur, rfl, h1, h2, h3, h4, h5, h6⟩
  · have e0 : L.acc = [] := hnil.1 rfl
    have e1 : acws L.acc = [] := by rw [e0]; rfl
    have h0 : lenB (acws L.acc) 6 = 0 := by rw [e1]; rfl
    exact ⟨.inl (⟨e1⟩, none), by show Value.slice none 0 0 = Value.slice none (lenB (acws L.acc) 6) 0; rw [h0], fun _ h => (by cases h), fun _ h => (by cases h), hb⟩
  · have e2 : acws L.acc ++ cur.toList.drop (L.acc.length * 6) = cur.toList := by rw [← h6, List.take_append_drop]
    refine ⟨.inr (g, cur.toList.drop (L.acc.length * 6)), ?_, fun z hz => ?_, fun z hz => ?_, hb⟩
    · have e3 : (acws L.acc).length + (cur.toList.drop (L.acc.length * 6)).length = cap * 6 := by
        rw [← List.length_append, e2, Array.length_toList, h5]
      simp only [frO, frC, e3, lenB_a]
      rw [Nat.mul_div_cancel _ (by decide)]
    · obtain rfl := List.mem_singleton.1 hz
      show w'.heap[g]? = some (.cells (acws L.acc ++ cur.toList.drop (L.acc.length * 6)).toArray _)
      rw [e2]; exact h2
    · obtain rfl := List.mem_singleton.1 hz
      exact .inl h1

/-! A call, as data. -/
structure Cd where
  op : Int
  v : Int
  a : Nat
  b : Nat
  n : Nat
  sm : Bool
instance : Inhabited Cd := ⟨⟨0, 0, 0, 0, 0, false⟩⟩
abbrev CV (d : Cd) : Value := .agg #[.int .i64 d.op, .int .i64 d.v, .int .u64 d.a, .int .u64 d.b, .int .u64 (limb d.n 0), .int .u64 (limb d.n 1), .int .u64 (limb d.n 2), .int .u64 (limb d.n 3), .bool d.sm]
structure CdOk (d : Cd) : Prop where
  a : d.a < 18446744073709551616
  b : d.b < 18446744073709551616
  n : d.n < B256
def nrm1 (d : Cd) (i : Nat) : Cd := if i % 7 < 6 then ⟨((modI d.op 8 : Nat) : Int), ((modI d.v 6 : Nat) : Int), d.a % 5, d.b % 5, d.n, d.sm⟩ else ⟨((modI d.op 8 : Nat) : Int), d.v, d.a, d.b, d.n, d.sm⟩
def sml (n : Nat) : Nat := n % 18446744073709551616 % 1000
def nrm (d : Cd) (i : Nat) : Cd := if d.sm = true ∨ (modI d.op 8 < 2 ∧ 0 < i % 5) then ⟨(nrm1 d i).op, (nrm1 d i).v, (nrm1 d i).a, (nrm1 d i).b, sml d.n, d.sm⟩ else nrm1 d i
def app (L : Led) (d : Cd) : Int × Led := if d.op = 0 ∨ d.op = 1 then mint L d.a d.n else if d.op = 2 ∨ d.op = 3 then trans L d.a d.b d.n else if d.op = 4 then payv L d.a d.v d.n else if d.op = 5 then withd L d.a d.n else if d.op = 6 then withv L d.v d.n else incn L d.a
theorem sml_lt (n : Nat) : sml n < 1000 := Nat.mod_lt _ (by decide)
theorem nrm_ok {d : Cd} (h : CdOk d) (i : Nat) : CdOk (nrm d i) := by
  have h1 : CdOk (nrm1 d i) := by
    unfold nrm1
    split
    · exact ⟨by have := h.a; show d.a % 5 < _; omega, by have := h.b; show d.b % 5 < _; omega, h.n⟩
    · exact ⟨h.a, h.b, h.n⟩
  unfold nrm
  split
  · exact ⟨h1.a, h1.b, by have := sml_lt d.n; exact Nat.lt_trans this (by unfold B256; decide)⟩
  · exact h1
theorem app_ok {L : Led} (h : LOk L) {d : Cd} (hd : CdOk d) : LOk (app L d).2 := by
  unfold app
  repeat' split
  · exact ok_mint h hd.a _
  · exact ok_trans h hd.a hd.b _
  · exact ok_payv h hd.a _
  · exact ok_withd h hd.a _
  · exact ok_withv h _ _
  · exact ok_incn h hd.a
theorem eI {x y : Int} (h : (x == y) = true) : x = y := eq_of_beq h
theorem nI {x y : Int} (h : (x == y) = false) : x ≠ y := ne_of_beq_false h
theorem app_m {L : Led} {d : Cd} (h : d.op = 0 ∨ d.op = 1) : app L d = mint L d.a d.n := by unfold app; rw [if_pos h]
theorem app_t {L : Led} {d : Cd} (h0 : d.op ≠ 0) (h1 : d.op ≠ 1) (h : d.op = 2 ∨ d.op = 3) : app L d = trans L d.a d.b d.n := by unfold app; rw [if_neg (fun e => e.elim h0 h1), if_pos h]
theorem app_p {L : Led} {d : Cd} (h0 : d.op ≠ 0) (h1 : d.op ≠ 1) (h2 : d.op ≠ 2) (h3 : d.op ≠ 3) (h : d.op = 4) : app L d = payv L d.a d.v d.n := by unfold app; rw [if_neg (fun e => e.elim h0 h1), if_neg (fun e => e.elim h2 h3), if_pos h]
theorem app_w {L : Led} {d : Cd} (h0 : d.op ≠ 0) (h1 : d.op ≠ 1) (h2 : d.op ≠ 2) (h3 : d.op ≠ 3) (h4 : d.op ≠ 4) (h : d.op = 5) : app L d = withd L d.a d.n := by unfold app; rw [if_neg (fun e => e.elim h0 h1), if_neg (fun e => e.elim h2 h3), if_neg h4, if_pos h]
theorem app_v {L : Led} {d : Cd} (h0 : d.op ≠ 0) (h1 : d.op ≠ 1) (h2 : d.op ≠ 2) (h3 : d.op ≠ 3) (h4 : d.op ≠ 4) (h5 : d.op ≠ 5) (h : d.op = 6) : app L d = withv L d.v d.n := by unfold app; rw [if_neg (fun e => e.elim h0 h1), if_neg (fun e => e.elim h2 h3), if_neg h4, if_neg h5, if_pos h]
theorem app_n {L : Led} {d : Cd} (h0 : d.op ≠ 0) (h1 : d.op ≠ 1) (h2 : d.op ≠ 2) (h3 : d.op ≠ 3) (h4 : d.op ≠ 4) (h5 : d.op ≠ 5) (h6 : d.op ≠ 6) : app L d = incn L d.a := by unfold app; rw [if_neg (fun e => e.elim h0 h1), if_neg (fun e => e.elim h2 h3), if_neg h4, if_neg h5, if_neg h6]

theorem good_pontagelaw0_EqualAccounts : Good Tryd.prog 14 Tryd.f14 2 := ⟨Tryd.func14, by kernel_rfl, by kernel_rfl⟩
theorem good_pontagelaw11_normalize : Good Tryd.prog 8 Tryd.f8 2 := ⟨Tryd.func8, by kernel_rfl, by kernel_rfl⟩
theorem good_pontagelaw11_apply : Good Tryd.prog 9 Tryd.f9 2 := ⟨Tryd.func9, by kernel_rfl, by kernel_rfl⟩
theorem kq_accounts (p : Nat) (q : Option Nat) (L : Led) (F : Facts) (hT : ledQ p q L F) (ha : Asc L.acc) (hfl : ∀ x ∈ L.acc, ¬ x.emp) (hlen : L.acc.length ≤ 1000000000) (A : Facts) : CallR Tryd.prog 15 [.pointer (some ⟨p, 0, none⟩)] A (F) (FrX (acws L.acc)) (fun x => .slice (frO x) (lenB (acws L.acc) 6) (frC 6 x)) (fun x => frL 58 x) :=
  reads_of_vcF Tryd.mixed good_ledger_Ledger_Accounts (args := [(.pointer (some ⟨p, 0, none⟩), [])]) (B := A) (F := F) (O := [.no, .reg [(3, .rdT 0 Unit () (fun _ => .map q) (fun _ => [])), (4, .call Nat 0 FnV (fun m => [(m, .cells #[.map q] 65)])), (5, .rdT 0 (FrX (acws L.acc)) (.inr (0, [])) (fun x => .slice (frO x) (lenB (acws L.acc) 6) (frC 6 x)) (fun x => frL 58 x))]]) (.app ((.refl _)) (.app (.nil _) (.nil _))) (⟨rfl, ⟨fun _ g => by subst g; exact kt_ldm hT, fun _ => ⟨kg_values q _, fun m => ⟨fun _ g => by subst g; exact callR_op (kg_sorted hT ha hfl hlen m _ (by intro q h; simp [h])) rfl rfl, fun x => ⟨x, rfl, fun _ h => by simpa using h, fun _ g => g, trivial⟩⟩⟩⟩⟩)
theorem k_accounts {p : Nat} {L : Led} {F : Facts} (hT : led p L F) (hL : LOk L) (hlen : L.acc.length ≤ 1000000000) (A : Facts) : CallR Tryd.prog 15 [.pointer (some ⟨p, 0, none⟩)] A F (FrX (acws L.acc)) (fun x => .slice (frO x) (lenB (acws L.acc) 6) (frC 6 x)) (fun x => frL 58 x) := by
  obtain ⟨q, hT⟩ := hT
  exact kq_accounts p q L F hT hL.asc hL.full hlen A
theorem k_eqacc (y z : Ass) (he : y.l = z.l) (hn : y.n ≤ 1000000000) (A : Facts) (hy : Sub y.L A) (hz : Sub z.L A) : Gives Tryd.prog 14 [y.v, z.v] A (Unit) (fun _ => .bool true) (fun _ => []) :=
  gives_of_vcF Tryd.mixed good_pontagelaw0_EqualAccounts (args := [(y.v, y.L), (z.v, z.L)]) (B := []) (O := [.no, .inv (KU y.n) (fun k : KU y.n => ⟨26, [(0, .v y.v y.L), (1, .v z.v z.L), (5, .v (.int .i64 ((k.1 : Nat) : Int)) [])], [], 0⟩) (fun k => y.n - k.1) (fun k => [.both [.opt 6 [(3, .ld (AV (y.l.getD k.1 default))), (7, .ld (AV (y.l.getD k.1 default)))], .no] []])]) (.app (.nil _) (.app (hy) (.app (hz) (.nil _)))) (⟨(ase_n he), ⟨⟨⟨0, Nat.zero_le _⟩, rfl, ⟨⟨rfl, fun _ h => h⟩, ⟨rfl, fun _ h => h⟩, ⟨rfl, nofun⟩, trivial⟩, trivial⟩, fun k => ⟨fun g => ⟨y.idx (Int.natCast_nonneg _) (Int.ofNat_lt.2 (lt_t g)), ⟨y.load k.1 rfl (lt_t g) (by intro q h; simp [h]), ⟨z.idx (Int.natCast_nonneg _) (by rw [← ase_len he]; exact Int.ofNat_lt.2 (lt_t g)), ⟨ase_l he k.1 (lt_t g) (by intro q h; simp [h]), ⟨eqT_acc rfl rfl, ⟨(acw_self _), ⟨⟨k.1 + 1, lt_t g⟩, by have := lt_t g; show y.n - (k.1 + 1) < y.n - k.1; omega, rfl, ⟨⟨rfl, fun _ h => h⟩, ⟨rfl, fun _ h => h⟩, ⟨congrArg _ (add1 (by have := lt_t g; omega)), nofun⟩, trivial⟩, trivial⟩⟩⟩⟩⟩⟩⟩, fun g => ⟨(), rfl, nofun⟩⟩⟩⟩)
set_option maxHeartbeats 4000000 in
theorem k_apply (p : Nat) (L : Led) (hL : LOk L) (d : Cd) (hd : CdOk d) (A : Facts) (hA : LgF A) : CallT Tryd.prog 9 [.pointer (some ⟨p, 0, none⟩), CV d] A (led p L) (Unit) (fun _ => .int .i64 (app L d).1) (fun _ => []) (fun _ => led p (app L d).2) :=
  givesT_of_vcF Tryd.mixed good_pontagelaw11_apply (args := [(.pointer (some ⟨p, 0, none⟩), []), (CV d, [])]) (B := A) (O := [.both [.yes, .reg [(5, .thg 0 Unit () (fun _ => .int .i64 (mint L d.a d.n).1) (fun _ => []) (fun _ => led p (mint L d.a d.n).2))]] [.both [.reg [(5, .thg 0 Unit () (fun _ => .int .i64 (mint L d.a d.n).1) (fun _ => []) (fun _ => led p (mint L d.a d.n).2))]] [.both [.yes, .reg [(7, .thg 0 Unit () (fun _ => .int .i64 (trans L d.a d.b d.n).1) (fun _ => []) (fun _ => led p (trans L d.a d.b d.n).2))]] [.both [.reg [(7, .thg 0 Unit () (fun _ => .int .i64 (trans L d.a d.b d.n).1) (fun _ => []) (fun _ => led p (trans L d.a d.b d.n).2))]] [.both [.reg [(7, .thg 0 Unit () (fun _ => .int .i64 (payv L d.a d.v d.n).1) (fun _ => []) (fun _ => led p (payv L d.a d.v d.n).2))]] [.both [.reg [(5, .thg 0 Unit () (fun _ => .int .i64 (withd L d.a d.n).1) (fun _ => []) (fun _ => led p (withd L d.a d.n).2))]] [.both [.reg [(5, .thg 0 Unit () (fun _ => .int .i64 (withv L d.v d.n).1) (fun _ => []) (fun _ => led p (withv L d.v d.n).2))]] [.reg [(3, .thg 0 Unit () (fun _ => .int .i64 (incn L d.a).1) (fun _ => []) (fun _ => led p (incn L d.a).2))]]]]]]]]]) (.app ((.refl _)) (.app (.nil _) (.app (.nil _) (.nil _)))) (rSeqK (fun _ hK1 => hK1 _ _ _ (rSeqK (fun _ hK2 => rSeqK (fun _ hK3 => hK3 _ _ _ (rBlkK (fun _ hK4 => rSeqK (fun _ hK5 => rSeqK (fun _ hK6 => hK6 _ _ _ (⟨fun h0 => hK5 _ _ _ (⟨h0, rSeqK (fun _ hK7 => ⟨callT_op (k_mint p L hL d.a d.n hd.n _ (hA.app _)) rfl rfl, fun _ => hK7 _ _ _ (hK4 _ _ _ (hK2 _ _ _ (⟨(), (by rw [app_m (.inl (eI h0))]; rfl), nofun, fun _ g => by rw [app_m (.inl (eI h0))]; exact g, trivial⟩)))⟩)⟩), fun h0 => hK5 _ _ _ (⟨fun h1 => rSeqK (fun _ hK8 => ⟨callT_op (k_mint p L hL d.a d.n hd.n _ (hA.app _)) rfl rfl, fun _ => hK8 _ _ _ (hK4 _ _ _ (hK2 _ _ _ (⟨(), (by rw [app_m (.inr (eI h1))]; rfl), nofun, fun _ g => by rw [app_m (.inr (eI h1))]; exact g, trivial⟩)))⟩), fun h1 => rSeqK (fun _ hK9 => rSeqK (fun _ hK10 => hK10 _ _ _ (⟨fun h2 => hK9 _ _ _ (⟨h2, rSeqK (fun _ hK11 => ⟨callT_op (k_trans p L hL d.a d.b d.n hd.a hd.n _ (hA.app _)) rfl rfl, fun _ => hK11 _ _ _ (hK4 _ _ _ (hK2 _ _ _ (⟨(), (by rw [app_t (nI h0) (nI h1) (.inl (eI h2))]; rfl), nofun, fun _ g => by rw [app_t (nI h0) (nI h1) (.inl (eI h2))]; exact g, trivial⟩)))⟩)⟩), fun h2 => hK9 _ _ _ (⟨fun h3 => rSeqK (fun _ hK12 => ⟨callT_op (k_trans p L hL d.a d.b d.n hd.a hd.n _ (hA.app _)) rfl rfl, fun _ => hK12 _ _ _ (hK4 _ _ _ (hK2 _ _ _ (⟨(), (by rw [app_t (nI h0) (nI h1) (.inr (eI h3))]; rfl), nofun, fun _ g => by rw [app_t (nI h0) (nI h1) (.inr (eI h3))]; exact g, trivial⟩)))⟩), fun h3 => rSeqK (fun _ hK13 => hK13 _ _ _ (⟨fun h4 => rSeqK (fun _ hK14 => ⟨callT_op (k_payv p L hL d.a d.n d.v hd.n _ (hA.app _)) rfl rfl, fun _ => hK14 _ _ _ (hK4 _ _ _ (hK2 _ _ _ (⟨(), (by rw [app_p (nI h0) (nI h1) (nI h2) (nI h3) (eI h4)]; rfl), nofun, fun _ g => by rw [app_p (nI h0) (nI h1) (nI h2) (nI h3) (eI h4)]; exact g, trivial⟩)))⟩), fun h4 => rSeqK (fun _ hK15 => hK15 _ _ _ (⟨fun h5 => rSeqK (fun _ hK16 => ⟨callT_op (k_withd p L hL d.a d.n hd.n _) rfl rfl, fun _ => hK16 _ _ _ (hK4 _ _ _ (hK2 _ _ _ (⟨(), (by rw [app_w (nI h0) (nI h1) (nI h2) (nI h3) (nI h4) (eI h5)]; rfl), nofun, fun _ g => by rw [app_w (nI h0) (nI h1) (nI h2) (nI h3) (nI h4) (eI h5)]; exact g, trivial⟩)))⟩), fun h5 => rSeqK (fun _ hK17 => hK17 _ _ _ (⟨fun h6 => rSeqK (fun _ hK18 => ⟨callT_op (k_withv p L hL d.v d.n hd.n _) rfl rfl, fun _ => hK18 _ _ _ (hK4 _ _ _ (hK2 _ _ _ (⟨(), (by rw [app_v (nI h0) (nI h1) (nI h2) (nI h3) (nI h4) (nI h5) (eI h6)]; rfl), nofun, fun _ g => by rw [app_v (nI h0) (nI h1) (nI h2) (nI h3) (nI h4) (nI h5) (eI h6)]; exact g, trivial⟩)))⟩), fun h6 => hK4 _ _ _ (hK2 _ _ _ (rSeqK (fun _ hK19 => ⟨callT_op (k_incn p L hL d.a _) rfl rfl, fun _ => hK19 _ _ _ (⟨(), (by rw [app_n (nI h0) (nI h1) (nI h2) (nI h3) (nI h4) (nI h5) (nI h6)]; rfl), nofun, fun _ g => by rw [app_n (nI h0) (nI h1) (nI h2) (nI h3) (nI h4) (nI h5) (nI h6)]; exact g, trivial⟩)⟩)))⟩))⟩))⟩))⟩)⟩)))⟩)⟩))))))))))
end Go.Proofs.YtkibbcomfjhgpaaDoor

