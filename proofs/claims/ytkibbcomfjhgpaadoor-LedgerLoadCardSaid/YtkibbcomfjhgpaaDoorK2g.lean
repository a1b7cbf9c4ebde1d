/- LedgerLoad. No conditions. -/
import Derived.Test.YtkibbcomfjhgpaaDoorK2f
import Derived.Test.YtkibbcomfjhgpaaDoorK1h
import Derived.Test.YtkibbcomfjhgpaaDoorSxo
import Derived.Test.YtkibbcomfjhgpaaDoorSxz
namespace Go.Proofs.YtkibbcomfjhgpaaDoor
open Go.RowKit Sx
set_option maxRecDepth 100000

open Go.ChangeShapes Go.WideShapes Go.ChangeAt
/-! Lists that Load takes. -/
structure AcOk (x : Ac) : Prop where
  a : x.a < 18446744073709551616
  b : x.b < B256
  n : x.n < 18446744073709551616
theorem ac_def : AcOk default := ⟨by decide, B256_pos, by decide⟩
def ldK (l : List Ac) (v : Nat → Nat) : Led := ⟨l, v, totA l + sv v 4⟩
theorem okA_inv : ∀ {l : List Ac} {p : Nat}, okA p l = true → (∀ x ∈ l, p < x.a ∧ ¬ x.emp) ∧ Asc l := by
  intro l
  induction l with
  | nil => exact fun _ => ⟨fun _ h => (by cases h), List.Pairwise.nil⟩
  | cons x r ih =>
    intro p h
    rw [okA] at h
    split at h
    · cases h
    · rename_i hn
      have h1 : p < x.a := Nat.lt_of_not_le fun e => hn (.inl e)
      have h2 : ¬ x.emp := fun e => hn (.inr e)
      obtain ⟨g1, g2⟩ := ih h
      refine ⟨fun y hy => ?_, List.pairwise_cons.2 ⟨fun y hy => (g1 y hy).1, g2⟩⟩
      rcases List.mem_cons.1 hy with rfl | hy
      · exact ⟨h1, h2⟩
      · exact ⟨Nat.lt_trans h1 (g1 y hy).1, (g1 y hy).2⟩
theorem ldK_ok {l : List Ac} {v : Nat → Nat} (h : okA 0 l = true) (hw : ∀ i, AcOk (l.getD i default)) (hv : ∀ k, v k < B256) (hs : totA l + sv v 4 < B256) : LOk (ldK l v) := by
  obtain ⟨h1, h2⟩ := okA_inv h
  refine ⟨h2, fun x hx => (h1 x hx).2, fun x hx => ?_, hv, ?_, hs⟩
  · obtain ⟨i, hi, rfl⟩ := List.getElem_of_mem hx
    have hi' : i < l.length := hi
    have := hw i
    have e : l.getD i default = l[i] := by simp [List.getD, hi']
    rw [e] at this
    exact ⟨Nat.ne_of_gt (h1 _ hx).1, this.a, this.b, this.n⟩
  · show totA l + sv v 4 = totA l + (v 0 + v 1 + v 2 + v 3)
    simp only [sv]
    omega
theorem ldK_s {L : Led} (h : LOk L) : totA L.acc + sv L.v 4 = L.s := by
  rw [h.sum]
  simp only [sv]
  omega
theorem ldK_L {L : Led} (h : LOk L) {l : List Ac} (e : l = L.acc) : LOk (ldK l L.v) := by
  subst e
  refine ⟨h.asc, h.full, h.ok, h.v, ?_, ?_⟩
  · show totA L.acc + sv L.v 4 = totA L.acc + (L.v 0 + L.v 1 + L.v 2 + L.v 3)
    simp only [sv]
    omega
  · show totA L.acc + sv L.v 4 < B256
    rw [ldK_s h]; exact h.s
theorem tl_s (y : Ass) (v : Nat → Nat) : (tl y v y.n).sum = totA y.l + sv v 4 := by
  unfold tl
  rw [List.sum_append, List.take_of_length_le (by rw [y.hl]; exact Nat.le_refl _), tot_sum]
  simp only [sv]
  show (v 0 + (v 1 + (v 2 + (v 3 + 0)))) + _ = _
  omega
theorem k_loadK (y : Ass) (v : Nat → Nat) (hK : LOk (ldK y.l v)) (hn : y.n ≤ 1000) (A : Facts) (hy : Sub y.L A) :
    CallT Tryd.prog 12 [y.v, VV4 v] A (fun G => G = []) Nat (fun m => .tuple #[.pointer (some ⟨m, 0, none⟩), .int .i64 0]) (fun _ => []) (fun m => led m (ldK y.l v)) := by
  have := k_load y v hK.v hK.getD (by omega) hK.okA (by rw [tl_s]; exact hK.s) A hy
  rw [tl_s, show puts y.l = y.l from puts_self hK.asc hK.full] at this
  exact this
theorem k_load_n (y : Ass) (v : Nat → Nat) (hv : ∀ k, v k < B256) (hb : ∀ i, (y.l.getD i default).b < B256) (hn : y.n ≤ 1000) (hok : okA 0 y.l = true) (hs : ¬ totA y.l + sv v 4 < B256) (A : Facts) (hy : Sub y.L A) : Gives Tryd.prog 12 [y.v, VV4 v] A Unit (fun _ => .tuple #[.pointer none, .int .i64 4]) (fun _ => []) :=
  k_load_2 y v hv hb (by omega) hok (by rw [tl_s]; exact hs) A hy
theorem r_loadK (y : Ass) (v : Nat → Nat) (hK : LOk (ldK y.l v)) (hn : y.n ≤ 1000) (A : Facts) (hy : Sub y.L A) :
    Gives Tryd.prog 13 [y.v, VV4 v] A (Nat × FrX (acws y.l)) (fun q => .tuple #[.pointer (some ⟨q.1, 0, none⟩), .int .i64 0]) (fun q => rF q.1 y.l q.2 v) :=
  r_load_3 y v hK.v hK.getD (by omega) hK.okA hK.s A hy
theorem rF_accounts (q : Nat) (l : List Ac) (x : FrX (acws l)) (v : Nat → Nat) (hl : l.length ≤ 400000) (ho : Once l) (hb : ∀ i, (l.getD i default).b < B256) {K : List Ac} (e : srtA l = K) : CallR Tryd.prog 16 [.pointer (some ⟨q, 0, none⟩)] [] (rF q l x v) (FrX (acws K)) (fun y => .slice (frO y) (lenB (acws K) 6) (frC 6 y)) (fun y => frL 58 y) := by
  have := r_accounts q l x v hl ho hb []
  rwa [e] at this
theorem srt_K {K : Led} (h : LOk K) : srtA K.acc = K.acc := srt_eq (asc_once h.asc) h.asc h.full (fun _ => rfl)
theorem rF_vaults (q : Nat) (l : List Ac) (x : FrX (acws l)) (v : Nat → Nat) {A : Facts} (hA : Sub (rF q l x v) A) : ∀ w, Sx.Holds w A → (loadVar 41 ⟨q, 1, none⟩).run Tryd.prog w = .ok (VV4 v) w := by
  intro w hw
  have hF := hA.holds hw
  have hr : World.rangeAt w q 1 (cV v) := fun j u hj => by
    rw [cell_of_heap (rF_heap hF)]
    have e : rC l x v = .slice (frO x) (lenB (acws l) 6) (frC 6 x) :: cV v := rfl
    rw [e, Nat.add_comm, List.getElem?_cons_succ]
    exact hj
  exact run_loadVar_mid w q 1 _ _ _ hr Tryd.underlying41 rfl (by kernel_rfl)
/-- The reference ledger by name. -/
structure OPN (L : Led) (c : Nat) where
  l : List Ac
  x : FrX (acws l)
  same : Same l L.acc
  len : l.length ≤ c
theorem OPN.srt {L : Led} {c : Nat} (w : OPN L c) (h : LOk L) : srtA w.l = L.acc := srt_eq w.same.once h.asc h.full w.same.get

/-! Two accounts change places. -/
def fset {l : List Ac} (i : Nat) (v : Ac) : FrX (acws l) → FrX (acws (l.set i v))
  | .inl p => .inl (⟨by rw [acws_nil p.1.down]; rfl⟩, p.2)
  | .inr p => .inr p
theorem fset_O {l : List Ac} (i : Nat) (v : Ac) (y : FrX (acws l)) : frO (fset i v y) = frO y := by cases y <;> rfl
section
variable {ρ : Operand → Value} {dst : Option Tmp} {type : TypeId} {pos : String} {after : Array Edge} {guard : Option (Nat × Bool)} {A : Facts} {X Y : Operand} {l : List Ac}
theorem row_ld {z : FrX (acws l)} {j : Int} (i : Nat) (e : j = i) (hi : i < l.length) (hx : ρ X = .pointer (some (((frO z).getD ⟨0, 0, none⟩).add (j.toNat * 6))) := by rfl) : ReadsOp Tryd.prog (execOp ρ ⟨dst, .load 58 X, type, pos, after, guard⟩) A (frL 58 z) Unit (fun _ => AV (l.getD i default)) (fun _ => []) := by
  refine rd_of fun w hF => ?_
  have h := (Ass.fr l z).load i e (by show i < lenB (acws l) 6; rw [lenB_a]; exact hi) (A := frL 58 z) (fun _ h => h) w hF
  have h : (loadVar 58 (((frO z).getD ⟨0, 0, none⟩).add (j.toNat * 6))).run Tryd.prog w = .ok (AV (l.getD i default)) w := h
  simp [execOp, Instr.loadAt, hx, Instr.sureAddr, h]
theorem row_st {z : FrX (acws l)} {v : Ac} {o : Option Addr} {j : Int} (i : Nat) (e : j = i) (hi : i < l.length) (ho : frO z = o) (hx : ρ X = .pointer (some ((o.getD ⟨0, 0, none⟩).add (j.toNat * 6))) := by rfl) (hy : ρ Y = AV v := by rfl) :
    GivesT Tryd.prog (execOp ρ ⟨dst, .store 58 X Y, type, pos, after, guard⟩) A (fun G => G = frL 58 z) Unit (fun _ => undef) (fun _ => []) (fun _ G => G = frL 58 (fset i v z)) := by
  cases z with
  | inl q => have := acws_nil q.1.down; subst this; cases hi
  | inr q =>
    obtain ⟨b, sp⟩ := q
    obtain ⟨inf, _, hinf, hs, _, _, _⟩ := info_A6
    subst e
    subst ho
    exact store_thing (P := Tryd.prog) (ρ := ρ) (dst := dst) (type := type) (pos := pos) (after := after) (guard := guard) (A := A) (X := X) (Y := Y) (m := b) (off := i * 6) (c := acws l ++ sp) (vs := acw v) (yv := AV v) (e := 58) (F0 := [(b, .cells (acws l ++ sp).toArray 58)]) (G := [(b, .cells (acws (l.set i v) ++ sp).toArray 58)]) hinf (by
        rw [hx, Int.toNat_natCast]
        show Value.pointer (some (Addr.add ⟨b, 0, none⟩ (i * 6))) = _
        rw [add_none, Nat.zero_add]) hy rfl (by rw [hs]; rfl) (acw_one v) (by rw [hs, List.length_append, acws_len]; omega) (List.mem_singleton.2 rfl) (fun q hq => by
        left
        rw [List.mem_singleton.1 hq, acws_set v sp l i hi])
end
def asAss {l0 l : List Ac} (z0 : FrX (acws l0)) (Z : FrX (acws l)) (ho : frO Z = frO z0) (hl : l.length = l0.length) : Ass where
  o := frO z0
  n := lenB (acws l0) 6
  cap := frC 6 z0
  l := l
  L := frL 58 Z
  hl := by rw [lenB_a, hl]
  hc := (Ass.fr l0 z0).hc
  hs := (Ass.fr l0 z0).hs
  h := fun w hw j hj => by
    have := (Ass.fr l Z).h w hw j (by show j < lenB (acws l) 6; rw [lenB_a, hl, ← lenB_a]; exact hj)
    rw [show (Ass.fr l Z).o = frO Z from rfl, ho] at this
    exact this
/-- The list of turn two. -/
structure Sw (L : Led) (a : Ass) : Prop where
  b : ∀ i, (a.l.getD i default).b < B256
  n : a.n ≤ 1000
  k : a.l = L.acc ∨ okA 0 a.l = false
inductive TX (L : Led) where
  | t0
  | t1 (z : FrX (acws L.acc))
  | t2 (a : Ass) (h : Sw L a)
  | t3
theorem getD_set {l : List Ac} {i j : Nat} {v : Ac} (hi : i < l.length) : (l.set i v).getD j default = if i = j then v else l.getD j default := by
  simp only [List.getD, List.getElem?_set]
  by_cases e : i = j
  · subst e; simp [hi]
  · simp [e]
theorem swap_no {l : List Ac} (h : Asc l) {k : Nat} (hk : k + 1 < l.length) : okA 0 ((l.set k (l.getD (k + 1) default)).set (k + 1) (l.getD k default)) = false := by
  cases e : okA 0 ((l.set k (l.getD (k + 1) default)).set (k + 1) (l.getD k default)) with
  | false => rfl
  | true =>
    obtain ⟨_, h2⟩ := okA_inv e
    have h3 := List.pairwise_iff_getElem.1 h2 k (k + 1) (by simp; omega) (by simp; omega) (by omega)
    have h4 := List.pairwise_iff_getElem.1 h k (k + 1) (by omega) (by omega) (by omega)
    have e1 : l.getD (k + 1) default = l[k + 1] := by simp [List.getD, hk]
    have e2 : l.getD k default = l[k] := by simp [List.getD, show k < l.length by omega]
    simp only [List.getElem_set, e1, e2] at h3
    simp at h3
    omega
theorem sw_b {L : Led} (h : LOk L) (k : Nat) (hk : k + 1 < L.acc.length) : ∀ i, (((L.acc.set k (L.acc.getD (k + 1) default)).set (k + 1) (L.acc.getD k default)).getD i default).b < B256 := fun i => by
  rw [getD_set (by rw [List.length_set]; exact hk)]
  split
  · exact h.getD _
  · rw [getD_set (by omega)]
    split
    · exact h.getD _
    · exact h.getD _
theorem ln_gt {l : List Ac} (h : decide (((lenB (acws l) 6 : Nat) : Int) > 1) = true) : 1 < l.length := by have := of_decide_eq_true h; rw [lenB_a] at this; omega
theorem ln_sub {l : List Ac} (h : decide (((lenB (acws l) 6 : Nat) : Int) > 1) = true) (hl : l.length ≤ 1000) : IntKind.i64.wrap (((lenB (acws l) 6 : Nat) : Int) - 1) = ((l.length - 1 : Nat) : Int) := by
  have h1 := ln_gt h
  rw [lenB_a, show (l.length : Int) - 1 = ((l.length - 1 : Nat) : Int) by omega, wrap_nat (by omega)]
theorem mdl {l : List Ac} (h : decide (((lenB (acws l) 6 : Nat) : Int) > 1) = true) (x : Int) : modI x (l.length - 1) + 1 < l.length := by
  have h1 := ln_gt h
  have := modI_lt x (n := l.length - 1) (by omega)
  omega
theorem okA_nf {l : List Ac} (h : ¬ okA 0 l = false) : okA 0 l = true := by simpa using h

/-! How the arguments are read. -/
def lvAc : List Leaf := [.i .u64, .i .u64, .i .u64, .i .u64, .i .u64, .i .u64]
theorem lvAc_ok : leaves Tryd.prog 4 58 = some lvAc := by kernel_rfl
section
variable {H : Type} {enc : TypeId × Value → H} {W : World} {base : Nat} {sp : Nat → Bool} {held : Bool}
set_option maxRecDepth 100000 in
theorem told_ac {cs : List Value} (h : Told lvAc cs) : ∃ d : Ac, AcOk d ∧ cs = acw d := by
  obtain ⟨a, q1, rfl, wa, h1⟩ := told_i h
  obtain ⟨n, q2, hn, rfl, h2⟩ := told_u h1
  obtain ⟨c, q3, rfl, wc, h3⟩ := told_i h2
  obtain rfl := told_nil h3
  obtain ⟨a, rfl⟩ := Int.eq_ofNat_of_zero_le (word_of_wf wa).1
  obtain ⟨c, rfl⟩ := Int.eq_ofNat_of_zero_le (word_of_wf wc).1
  exact ⟨⟨a, n, c⟩, ⟨by have := (word_of_wf wa).2; show a < _; omega, hn, by have := (word_of_wf wc).2; show c < _; omega⟩, rfl⟩
set_option maxRecDepth 100000 in
theorem told_v4 {cs : List Value} (h : Told lv16 cs) : ∃ v : Nat → Nat, (∀ k, v k < B256) ∧ cs = cV v := by
  obtain ⟨a, q1, ha, rfl, h1⟩ := told_u h
  obtain ⟨b, q2, hb, rfl, h2⟩ := told_u h1
  obtain ⟨c, q3, hc, rfl, h3⟩ := told_u h2
  obtain ⟨d, q4, hd, rfl, h4⟩ := told_u h3
  obtain rfl := told_nil h4
  refine ⟨fun k => if k = 0 then a else if k = 1 then b else if k = 2 then c else d, fun k => ?_, rfl⟩
  show (if k = 0 then a else if k = 1 then b else if k = 2 then c else d) < B256
  split
  · exact ha
  · split
    · exact hb
    · split
      · exact hc
      · exact hd
set_option maxRecDepth 100000 in
theorem openV4 {r : Reach} {b : Nat} {v : Value} {d : DataW H} {p : List MemPlace} (hv : Value.okWide Tryd.prog W r b 41 v) (h : DataW.Trod enc Tryd.prog W base sp held 41 v d p) : ∃ g : Nat → Nat, (∀ k, g k < B256) ∧ v = VV4 g ∧ p = [] := by
  obtain ⟨cs, rfl, ht, rfl⟩ := open_plain lv16_ok (.inr ⟨_, _, Tryd.underlying41⟩) hv h
  obtain ⟨g, hg, rfl⟩ := told_v4 ht
  exact ⟨g, hg, rfl, rfl⟩
set_option maxRecDepth 100000 in
theorem openAss {r : Reach} {b : Nat} {v : Value} {d : DataW H} {p : List MemPlace} (hv : Value.okWide Tryd.prog W r b 40 v) (h : DataW.Trod enc Tryd.prog W base sp held 40 v d p) :
    ∃ y : Ass, (∀ i, AcOk (y.l.getD i default)) ∧ v = y.v ∧ Sx.Holds W y.L := by
  obtain ⟨A, n, c, rfl⟩ := okWide_slice Tryd.underlying40 hv
  obtain ⟨fuel, hf⟩ := h
  have h4 : Tryd.prog.cellsOf 58 = 6 := by kernel_rfl
  rcases Deep.open_slice Tryd.underlying40 hf with ⟨hcs, _⟩ | ⟨a, len, cap, m, k, D, Pl, hcs, hb, hlc, hcm, hm, _, hi⟩
  · simp [Value.cells] at hcs
    obtain ⟨rfl, rfl, rfl⟩ := hcs
    exact ⟨⟨none, 0, 0, [], [], rfl, Nat.le_refl _, fun h => absurd h (by omega), fun _ _ i hi => by omega⟩, fun _ => ac_def, rfl, fun _ h => by cases h⟩
  · simp [Value.cells] at hcs
    obtain ⟨rfl, rfl, rfl⟩ := hcs
    rw [h4] at hi
    have hnm : n ≤ m := by rw [hm]; split <;> omega
    have key : ∀ i, ∃ x : Ac, AcOk x ∧ (i < n → ∀ j u, (acw x)[j]? = some u → W.cell? ((a.add (i * 6)).add j) = some u) := fun i => by
      by_cases hin : i < n
      · obtain ⟨cs', h1, h2⟩ := hi i (by omega)
        obtain ⟨_, hcl, hat⟩ := World.cells?_some h1
        obtain ⟨ht, _⟩ := told_leaves 4 _ _ lvAc_ok _ cs' _ h2
        obtain ⟨x, hx, rfl⟩ := told_ac ht
        refine ⟨x, hx, fun _ j u hj => ?_⟩
        have hj4 : j < 6 := (List.getElem?_eq_some_iff.1 hj).1
        rw [hat j hj4]
        exact hj
      · exact ⟨default, ac_def, fun h => absurd h hin⟩
    obtain ⟨f, hfk⟩ := Classical.axiomOfChoice key
    have hbd : ∀ i, AcOk (((List.range n).map f).getD i default) := fun i => by
      by_cases hin : i < n
      · have e : ((List.range n).map f).getD i default = f i := by simp [List.getD, hin]
        rw [e]; exact (hfk i).1
      · have e : ((List.range n).map f).getD i default = default := by simp [List.getD, hin]
        rw [e]; exact ac_def
    by_cases h0 : n = 0
    · subst h0
      exact ⟨⟨some a, 0, c, [], [], rfl, Nat.zero_le _, fun _ => rfl, fun _ _ i hi => by omega⟩, fun _ => ac_def, rfl, fun _ h => by cases h⟩
    · have h00 : W.cell? ((a.add (0 * 6)).add 0) = some (.int .u64 ((f 0).a : Int)) := (hfk 0).2 (by omega) 0 _ rfl
      have hsp : a.spot = none := by
        have := spot_of_cell h00
        rw [Nat.zero_mul] at this
        simpa [Addr.add] using this
      have hlt : a.block < W.heap.size := by
        have := World.block_lt_of_cell? W _ h00
        rwa [add_block, add_block] at this
      refine ⟨⟨some a, n, c, (List.range n).map f, [(a.block, W.heap[a.block])], by simp, hlc, fun _ => rfl, fun w' hw' i hi => ⟨a.block, a.off + i * 6, ?_, fun j u hj => ?_⟩⟩, hbd, rfl, ?_⟩
      · exact add_off hsp _
      · have e : ((List.range n).map f).getD i default = f i := by simp [List.getD, hi]
        rw [e] at hj
        have := (hfk i).2 hi j u hj
        rw [add_off hsp, add_off rfl] at this
        rw [World.cell?_of_block (w := W) (by show w'.heap[a.block]? = _; rw [hw' _ (List.mem_singleton.2 rfl)]; simp [hlt])]
        exact this
      · intro q hq; simp only [List.mem_singleton] at hq; subst hq; simp [hlt]
end
theorem good_pontagelaw11_LedgerLoad : Good Tryd.prog 4 Tryd.f4 4 := ⟨Tryd.func4, by kernel_rfl, by kernel_rfl⟩
section
variable {ρ : Operand → Value} {dst : Option Tmp} {type : TypeId} {pos : String} {after : Array Edge} {guard : Option (Nat × Bool)}
theorem lp_addJ {a b c : Int} (h : IntKind.i64.wrap (a + b) = c) (A : Facts) {x y : Operand} (hx : ρ x = .int .i64 a := by rfl) (hy : ρ y = .int .i64 b := by rfl) :
    ∀ w, Sx.Holds w A → (execOp ρ ⟨dst, .binOp .add 3 x y 3, type, pos, after, guard⟩).run Tryd.prog w = .ok (.value (.int .i64 c)) w := by
  intro w _
  have e : execOp ρ ⟨dst, .binOp .add 3 x y 3, type, pos, after, guard⟩ = (do let v ← binOp .add 3 (ρ x) (ρ y); pure (.value v)) := rfl
  rw [e, hx, hy, ← h]
  rfl
end
theorem n_y {n : Nat} (h : ¬ 40 < n) : n ≤ 1000 := by omega
theorem n_3 {n : Nat} (h : n ≤ 80) : n ≤ 1000 := by omega
theorem n_4 {n : Nat} (h : n ≤ 1000) : n ≤ 400000 := by omega
theorem n_5 {n : Nat} (h : n ≤ 1000) : n ≤ 100000 := by omega
theorem n_6 {n : Nat} (h : n ≤ 1000) : n ≤ 1000000 := by omega
theorem n_9 {n : Nat} (h : n ≤ 1000) : n ≤ 1000000000 := by omega
theorem rs_len {dd : Cds} (u : RS dd 0) (h : dd.n ≤ 40) : u.L.acc.length ≤ 80 := by have := u.len; have := u.hk; omega
theorem fr_n1000 {dd : Cds} (u : RS dd 0) (h : dd.n ≤ 40) (z : FrX (acws u.L.acc)) : (Ass.fr u.L.acc z).n ≤ 1000 := by
  rw [← (Ass.fr u.L.acc z).hl]
  exact Nat.le_trans (rs_len u h) (by decide)
theorem inc1J {i : Nat} (h : i < 4611686018427387904) : IntKind.i64.wrap ((i : Int) + 1) = ((i + 1 : Nat) : Int) := add1 h
set_option maxHeartbeats 16000000 in
theorem load_law (y : Ass) (v : Nat → Nat) (dd : Cds) (how : Int) (hw : ∀ i, AcOk (y.l.getD i default)) (hv : ∀ k, v k < B256) (A : Facts) (hA : LgF A) (hL : Sub y.L A) (hD : Sub dd.L A) : Gives Tryd.prog 4 [y.v, VV4 v, dd.v, .int .i64 how] A (Unit) (fun _ => .bool true) (fun _ => []) :=
  gives_of_vcF Tryd.mixed good_pontagelaw11_LedgerLoad (args := [(y.v, y.L), (VV4 v, []), (dd.v, dd.L), (.int .i64 how, [])]) (B := A) (O := [.alt [(40 < y.n, [(4, .no), (5, .no), (6, .no), (7, .yes)], [.yes, .reg [(0, det (.bool true))]]), (True, [(4, .yes), (5, .yes), (6, .yes), (7, .no)], [.both [.reg [(0, det (.bool true))]] [.reg [(0, .thg 1 Nat 0 (fun m => .pointer (some ⟨m, 0, none⟩)) (fun _ => []) (fun m => rlg m ref0))], .gen 4 (Nat) (fun q => ⟨128, [(0, .v y.v y.L), (2, .v dd.v dd.L), (3, .v (.int .i64 how) []), (5, .p 0 0), (9, .v (.pointer (some ⟨q, 0, none⟩)) [])], [(0, ⟨41, cV v, []⟩)], 500⟩) (fun q => [(1, rqL q led0 0)]) (fun q => [.invT (RS dd 0) (fun u : RS dd 0 => ⟨128, [(0, .v y.v y.L), (2, .v dd.v dd.L), (3, .v (.int .i64 how) []), (5, .p 0 0), (9, .v (.pointer (some ⟨q, 0, none⟩)) []), (10, .v (.int .i64 ((u.k : Nat) : Int)) [])], [(0, ⟨41, cV v, []⟩)], 600⟩) (fun u => [(1, rqL q u.L (2 * u.k))]) (fun u => dd.n - u.k) (fun u => [.both [.reg [(4, .ld (CV (dd.l.getD u.k default))), (6, det (CV u.d)), (7, .thg 1 Unit () (fun _ => .int .i64 (app u.L u.d).1) (fun _ => []) (fun _ => rqL q (app u.L u.d).2 (2 * u.k + 2)))]] [.opn 8 1 (OPN u.L (2 * u.k)) (fun w G => G = rF q w.l w.x u.L.v) (fun w => [.frz 8 9 1 (rF q w.l w.x u.L.v), .invT (TX u.L) (fun | .t0 => ⟨128, [(0, .v y.v y.L), (3, .v (.int .i64 how) []), (5, .p 0 0), (9, .v (.pointer (some ⟨q, 0, none⟩)) (rF q w.l w.x u.L.v)), (11, .v (.int .i64 0) [])], [(0, ⟨41, cV v, []⟩)], 900⟩ | .t1 z => ⟨128, [(0, .v (Ass.fr u.L.acc z).v (Ass.fr u.L.acc z).L), (3, .v (.int .i64 how) []), (5, .p 0 0), (9, .v (.pointer (some ⟨q, 0, none⟩)) (rF q w.l w.x u.L.v)), (11, .v (.int .i64 1) [])], [(0, ⟨41, cV u.L.v, []⟩)], 900⟩ | .t2 a _ => ⟨128, [(0, .v a.v a.L), (3, .v (.int .i64 how) []), (5, .p 0 0), (9, .v (.pointer (some ⟨q, 0, none⟩)) (rF q w.l w.x u.L.v)), (11, .v (.int .i64 2) [])], [(0, ⟨41, cV u.L.v, []⟩)], 900⟩ | .t3 => ⟨128, [(11, .v (.int .i64 3) [])], [], 900⟩) (fun _ => []) (fun | .t0 => 3 | .t1 _ => 2 | .t2 _ _ => 1 | .t3 => 0) (fun | .t0 => [.yes, .alt [(okA 0 y.l = false, [(2, .call Unit () (fun _ => .tuple #[.pointer none, .int .i64 2]) (fun _ => []))], [.reg [(2, .call Unit () (fun _ => .tuple #[.pointer none, .int .i64 2]) (fun _ => []))], .reg ((4, .yes) :: (5, .yes) :: (6, .yes) :: (7, .yes) :: (8, .yes) :: (9, .no) :: (11, .yes) :: (12, .yes) :: (13, .yes) :: (14, .no) :: (15, .no) :: (16, .no) :: (17, .no) :: (18, .no) :: (19, .no) :: (20, .no) :: (25, .no) :: (26, .no) :: (33, .no) :: (34, .els) :: (35, .no) :: []), .no, .reg [(1, .thg 3 (FrX (acws u.L.acc)) (.inr (0, [])) (fun z => .slice (frO z) (lenB (acws u.L.acc) 6) (frC 6 z)) (fun _ => []) (fun z G => G = frL 58 z)), (5, .ld (VV4 u.L.v))], .gen 16 (FrX (acws u.L.acc)) (fun z => ⟨128, [(0, .v (.slice (frO z) (lenB (acws u.L.acc) 6) (frC 6 z)) []), (3, .v (.int .i64 how) []), (5, .p 0 0), (9, .v (.pointer (some ⟨q, 0, none⟩)) (rF q w.l w.x u.L.v)), (11, .v (.int .i64 0) [])], [(0, ⟨41, cV u.L.v, []⟩)], 1900⟩) (fun z => [(3, fun G => G = frL 58 z)]) (fun z1 => [.reg [(3, .no), (4, .no), (5, .no), (6, .no)], .no, .frz 10 0 3 (frL 58 z1)])]), (¬ totA y.l + sv v 4 < B256, [(2, .call Unit () (fun _ => .tuple #[.pointer none, .int .i64 4]) (fun _ => []))], [.reg [(2, .call Unit () (fun _ => .tuple #[.pointer none, .int .i64 4]) (fun _ => []))], .reg ((4, .yes) :: (5, .yes) :: (6, .yes) :: (7, .yes) :: (8, .yes) :: (9, .no) :: (11, .yes) :: (12, .yes) :: (13, .yes) :: (14, .no) :: (15, .no) :: (16, .no) :: (17, .no) :: (18, .no) :: (19, .no) :: (20, .no) :: (25, .no) :: (26, .no) :: (33, .no) :: (34, .els) :: (35, .no) :: []), .no, .reg [(1, .thg 3 (FrX (acws u.L.acc)) (.inr (0, [])) (fun z => .slice (frO z) (lenB (acws u.L.acc) 6) (frC 6 z)) (fun _ => []) (fun z G => G = frL 58 z)), (5, .ld (VV4 u.L.v))], .gen 16 (FrX (acws u.L.acc)) (fun z => ⟨128, [(0, .v (.slice (frO z) (lenB (acws u.L.acc) 6) (frC 6 z)) []), (3, .v (.int .i64 how) []), (5, .p 0 0), (9, .v (.pointer (some ⟨q, 0, none⟩)) (rF q w.l w.x u.L.v)), (11, .v (.int .i64 0) [])], [(0, ⟨41, cV u.L.v, []⟩)], 1900⟩) (fun z => [(3, fun G => G = frL 58 z)]) (fun z1 => [.reg [(3, .no), (4, .no), (5, .no), (6, .no)], .no, .frz 10 0 3 (frL 58 z1)])]), (True, [(2, .thg 2 Nat 0 (fun m => .tuple #[.pointer (some ⟨m, 0, none⟩), .int .i64 0]) (fun _ => []) (fun m => led m (ldK y.l v)))], [.reg [(2, .call (Nat × FrX (acws y.l)) (0, .inr (0, [])) (fun q2 => .tuple #[.pointer (some ⟨q2.1, 0, none⟩), .int .i64 0]) (fun q2 => rF q2.1 y.l q2.2 v))], .reg ((4, .yes) :: (5, .yes) :: (6, .yes) :: (7, .yes) :: (8, .yes) :: (9, .no) :: (11, .yes) :: (12, .yes) :: (13, .yes) :: (14, .yes) :: (15, .rdT 2 (FrX (acws y.l)) (.inr (0, [])) (fun z => .slice (frO z) (lenB (acws y.l) 6) (frC 6 z)) (fun z => frL 58 z)) :: (16, .yes) :: (17, .call (FrX (acws y.l)) (.inr (0, [])) (fun z => .slice (frO z) (lenB (acws y.l) 6) (frC 6 z)) (fun z => frL 58 z)) :: (18, .call Unit () (fun _ => .bool true) (fun _ => [])) :: (19, .yes) :: (20, .yes) :: (21, .yes) :: (22, .rdT 2 Unit () (fun _ => VV4 v) (fun _ => [])) :: (23, .yes) :: (24, .yes) :: (25, .els) :: (26, .yes) :: (27, .yes) :: (28, .rdT 2 Unit () (fun _ => U (ldK y.l v).s) (fun _ => [])) :: (29, .yes) :: (30, .call (BigX (ldK y.l v).s) (bigX0 (ldK y.l v).s) (fun b => b.v) (fun b => b.L)) :: (31, det (U (ldK y.l v).s)) :: (32, .yes) :: (33, .els) :: (34, .yes) :: (35, .no) :: []), .no, .reg [(1, .thg 3 (FrX (acws u.L.acc)) (.inr (0, [])) (fun z => .slice (frO z) (lenB (acws u.L.acc) 6) (frC 6 z)) (fun _ => []) (fun z G => G = frL 58 z)), (5, .ld (VV4 u.L.v))], .gen 16 (FrX (acws u.L.acc)) (fun z => ⟨128, [(0, .v (.slice (frO z) (lenB (acws u.L.acc) 6) (frC 6 z)) []), (3, .v (.int .i64 how) []), (5, .p 0 0), (9, .v (.pointer (some ⟨q, 0, none⟩)) (rF q w.l w.x u.L.v)), (11, .v (.int .i64 0) [])], [(0, ⟨41, cV u.L.v, []⟩)], 1900⟩) (fun z => [(3, fun G => G = frL 58 z)]) (fun z1 => [.reg [(3, .no), (4, .no), (5, .no), (6, .no)], .no, .frz 10 0 3 (frL 58 z1)])])]] | .t1 z => [.yes, .reg [(2, .thg 2 Nat 0 (fun m => .tuple #[.pointer (some ⟨m, 0, none⟩), .int .i64 0]) (fun _ => []) (fun m => led m (ldK (Ass.fr u.L.acc z).l u.L.v)))], .reg [(2, .call (Nat × FrX (acws (Ass.fr u.L.acc z).l)) (0, .inr (0, [])) (fun q2 => .tuple #[.pointer (some ⟨q2.1, 0, none⟩), .int .i64 0]) (fun q2 => rF q2.1 (Ass.fr u.L.acc z).l q2.2 u.L.v))], .reg ((4, .yes) :: (5, .yes) :: (6, .yes) :: (7, .yes) :: (8, .yes) :: (9, .no) :: (11, .yes) :: (12, .yes) :: (13, .yes) :: (14, .yes) :: (15, .rdT 2 (FrX (acws (Ass.fr u.L.acc z).l)) (.inr (0, [])) (fun z => .slice (frO z) (lenB (acws (Ass.fr u.L.acc z).l) 6) (frC 6 z)) (fun z => frL 58 z)) :: (16, .yes) :: (17, .call (FrX (acws (Ass.fr u.L.acc z).l)) (.inr (0, [])) (fun z => .slice (frO z) (lenB (acws (Ass.fr u.L.acc z).l) 6) (frC 6 z)) (fun z => frL 58 z)) :: (18, .call Unit () (fun _ => .bool true) (fun _ => [])) :: (19, .yes) :: (20, .yes) :: (21, .yes) :: (22, .rdT 2 Unit () (fun _ => VV4 u.L.v) (fun _ => [])) :: (23, .yes) :: (24, .yes) :: (25, .els) :: (26, .yes) :: (27, .yes) :: (28, .rdT 2 Unit () (fun _ => U (ldK (Ass.fr u.L.acc z).l u.L.v).s) (fun _ => [])) :: (29, .yes) :: (30, .call (BigX (ldK (Ass.fr u.L.acc z).l u.L.v).s) (bigX0 (ldK (Ass.fr u.L.acc z).l u.L.v).s) (fun b => b.v) (fun b => b.L)) :: (31, det (U (ldK (Ass.fr u.L.acc z).l u.L.v).s)) :: (32, .yes) :: (33, .els) :: (34, .yes) :: (35, .no) :: []), .no, .reg [(1, .thg 3 (FrX (acws u.L.acc)) (.inr (0, [])) (fun z => .slice (frO z) (lenB (acws u.L.acc) 6) (frC 6 z)) (fun _ => []) (fun z G => G = frL 58 z)), (5, .ld (VV4 u.L.v))], .gen 16 (FrX (acws u.L.acc)) (fun z => ⟨128, [(0, .v (.slice (frO z) (lenB (acws u.L.acc) 6) (frC 6 z)) []), (3, .v (.int .i64 how) []), (5, .p 0 0), (9, .v (.pointer (some ⟨q, 0, none⟩)) (rF q w.l w.x u.L.v)), (11, .v (.int .i64 1) [])], [(0, ⟨41, cV u.L.v, []⟩)], 1900⟩) (fun z => [(3, fun G => G = frL 58 z)]) (fun z1 => [.reg [(3, .yes), (4, .yes), (5, .yes), (6, .yes)], .both [.reg [(3, .ld (.int .i64 ((u.L.acc.length - 1 : Nat) : Int))), (4, det (.int .i64 (((modI how (u.L.acc.length - 1)) : Nat) : Int)))], .opt 18 [(4, .ld (.int .i64 (((modI how (u.L.acc.length - 1)) + 1 : Nat) : Int))), (7, .ld (.int .i64 (((modI how (u.L.acc.length - 1)) + 1 : Nat) : Int))), (9, .rdT 3 Unit () (fun _ => AV (u.L.acc.getD ((modI how (u.L.acc.length - 1)) + 1) default)) (fun _ => [])), (13, .rdT 3 Unit () (fun _ => AV (u.L.acc.getD (modI how (u.L.acc.length - 1)) default)) (fun _ => [])), (15, .thg 3 Unit () (fun _ => undef) (fun _ => []) (fun _ G => G = frL 58 (fset (modI how (u.L.acc.length - 1)) (u.L.acc.getD ((modI how (u.L.acc.length - 1)) + 1) default) z1))), (17, .thg 3 Unit () (fun _ => undef) (fun _ => []) (fun _ G => G = frL 58 (fset ((modI how (u.L.acc.length - 1)) + 1) (u.L.acc.getD (modI how (u.L.acc.length - 1)) default) (fset (modI how (u.L.acc.length - 1)) (u.L.acc.getD ((modI how (u.L.acc.length - 1)) + 1) default) z1))))], .frz 10 0 3 (frL 58 (fset ((modI how (u.L.acc.length - 1)) + 1) (u.L.acc.getD (modI how (u.L.acc.length - 1)) default) (fset (modI how (u.L.acc.length - 1)) (u.L.acc.getD ((modI how (u.L.acc.length - 1)) + 1) default) z1)))] [.frz 10 0 3 (frL 58 z1)]])] | .t2 a sw => [.yes, .alt [(okA 0 a.l = false, [(2, .call Unit () (fun _ => .tuple #[.pointer none, .int .i64 2]) (fun _ => []))], [.reg [(2, .call Unit () (fun _ => .tuple #[.pointer none, .int .i64 2]) (fun _ => []))], .reg ((4, .yes) :: (5, .yes) :: (6, .yes) :: (7, .yes) :: (8, .yes) :: (9, .no) :: (11, .yes) :: (12, .yes) :: (13, .yes) :: (14, .no) :: (15, .no) :: (16, .no) :: (17, .no) :: (18, .no) :: (19, .no) :: (20, .no) :: (25, .no) :: (26, .no) :: (33, .no) :: (34, .els) :: (35, .no) :: []), .no, .reg [(1, .thg 3 (FrX (acws u.L.acc)) (.inr (0, [])) (fun z => .slice (frO z) (lenB (acws u.L.acc) 6) (frC 6 z)) (fun _ => []) (fun z G => G = frL 58 z)), (5, .ld (VV4 u.L.v))], .gen 16 (FrX (acws u.L.acc)) (fun z => ⟨128, [(0, .v (.slice (frO z) (lenB (acws u.L.acc) 6) (frC 6 z)) []), (3, .v (.int .i64 how) []), (5, .p 0 0), (9, .v (.pointer (some ⟨q, 0, none⟩)) (rF q w.l w.x u.L.v)), (11, .v (.int .i64 2) [])], [(0, ⟨41, cV u.L.v, []⟩)], 1900⟩) (fun z => [(3, fun G => G = frL 58 z)]) (fun z1 => [.reg [(3, .no), (4, .no), (5, .no), (6, .no)], .no, .frz 10 0 3 (frL 58 z1)])]), (True, [(2, .thg 2 Nat 0 (fun m => .tuple #[.pointer (some ⟨m, 0, none⟩), .int .i64 0]) (fun _ => []) (fun m => led m (ldK a.l u.L.v)))], [.reg [(2, .call (Nat × FrX (acws a.l)) (0, .inr (0, [])) (fun q2 => .tuple #[.pointer (some ⟨q2.1, 0, none⟩), .int .i64 0]) (fun q2 => rF q2.1 a.l q2.2 u.L.v))], .reg ((4, .yes) :: (5, .yes) :: (6, .yes) :: (7, .yes) :: (8, .yes) :: (9, .no) :: (11, .yes) :: (12, .yes) :: (13, .yes) :: (14, .yes) :: (15, .rdT 2 (FrX (acws a.l)) (.inr (0, [])) (fun z => .slice (frO z) (lenB (acws a.l) 6) (frC 6 z)) (fun z => frL 58 z)) :: (16, .yes) :: (17, .call (FrX (acws a.l)) (.inr (0, [])) (fun z => .slice (frO z) (lenB (acws a.l) 6) (frC 6 z)) (fun z => frL 58 z)) :: (18, .call Unit () (fun _ => .bool true) (fun _ => [])) :: (19, .yes) :: (20, .yes) :: (21, .yes) :: (22, .rdT 2 Unit () (fun _ => VV4 u.L.v) (fun _ => [])) :: (23, .yes) :: (24, .yes) :: (25, .els) :: (26, .yes) :: (27, .yes) :: (28, .rdT 2 Unit () (fun _ => U (ldK a.l u.L.v).s) (fun _ => [])) :: (29, .yes) :: (30, .call (BigX (ldK a.l u.L.v).s) (bigX0 (ldK a.l u.L.v).s) (fun b => b.v) (fun b => b.L)) :: (31, det (U (ldK a.l u.L.v).s)) :: (32, .yes) :: (33, .els) :: (34, .yes) :: (35, .no) :: []), .no, .reg [(1, .thg 3 (FrX (acws u.L.acc)) (.inr (0, [])) (fun z => .slice (frO z) (lenB (acws u.L.acc) 6) (frC 6 z)) (fun _ => []) (fun z G => G = frL 58 z)), (5, .ld (VV4 u.L.v))], .gen 16 (FrX (acws u.L.acc)) (fun z => ⟨128, [(0, .v (.slice (frO z) (lenB (acws u.L.acc) 6) (frC 6 z)) []), (3, .v (.int .i64 how) []), (5, .p 0 0), (9, .v (.pointer (some ⟨q, 0, none⟩)) (rF q w.l w.x u.L.v)), (11, .v (.int .i64 2) [])], [(0, ⟨41, cV u.L.v, []⟩)], 1900⟩) (fun z => [(3, fun G => G = frL 58 z)]) (fun z1 => [.reg [(3, .no), (4, .no), (5, .no), (6, .no)], .no, .frz 10 0 3 (frL 58 z1)])])]] | .t3 => [.no, .reg [(0, det (.bool true))]])])]])])]])]]) (.app ((.refl _)) (.app (hL) (.app (.nil _) (.app (hD) (.app (.nil _) (.nil _)))))) (rSeqK (fun _ hK112 => hK112 _ _ _ (rSeqK (fun _ hK113 => rSeqK (fun _ hK114 => ⟨fun h1 => ⟨gft (g40 h1), ⟨gft (g40 h1), ⟨gft (g40 h1), ⟨(g40 h1), hK114 _ _ _ (⟨rfl, rSeqK (fun _ hK115 => ⟨aw11 _ (hA.app _), fun _ => hK115 _ _ _ (hK113 _ _ _ (⟨(), rfl, nofun⟩))⟩)⟩)⟩⟩⟩⟩, fun h1 => ⟨fun _ => ⟨gff (l40 h1), ⟨gff (l40 h1), ⟨gff (l40 h1), ⟨(l40 h1), hK114 _ _ _ (⟨fun hz => rSeqK (fun _ hK116 => ⟨aw11 _ (hA.app _), fun _ => hK116 _ _ _ (hK113 _ _ _ (⟨(), rfl, nofun⟩))⟩), fun hz => hK113 _ _ _ (rSeqK (fun _ hK117 => ⟨callT_op (r_new _) rfl rfl, fun m9 => hK117 _ _ _ (rSeqK (fun _ hK118 => rSeqK (fun _ hK119 => ⟨⟨m9, ⟨rfl, ⟨⟨rfl, fun _ h => h⟩, ⟨rfl, fun _ h => h⟩, ⟨rfl, nofun⟩, ⟨rfl, rfl, rfl⟩, ⟨rfl, nofun⟩, trivial⟩, ⟨rfl, rfl, nofun⟩, trivial⟩, ⟨fun _ h => ⟨[], same_0, Nat.le_refl _, h⟩, trivial⟩⟩, fun q => hK119 _ _ _ (rBlkK (fun _ hK120 => rInvTK (⟨rs0 dd, ⟨rfl, ⟨⟨rfl, fun _ h => h⟩, ⟨rfl, fun _ h => h⟩, ⟨rfl, nofun⟩, ⟨rfl, rfl, rfl⟩, ⟨rfl, nofun⟩, ⟨rfl, nofun⟩, trivial⟩, ⟨rfl, rfl, nofun⟩, trivial⟩, ⟨fun _ h => h, trivial⟩⟩) (fun u _ hK121 => rSeqK (fun _ hK122 => rSeqK (fun _ hK123 => hK123 _ _ _ (⟨fun gd => hK122 _ _ _ (rSeqK (fun _ hK124 => rBlkK (fun _ hK125 => ⟨dd.idx (Int.natCast_nonneg _) (Int.ofNat_lt.2 (lt_t gd)), ⟨dd.load u.k rfl (lt_t gd) (by intro q h; simp [h]), ⟨k_norm _ u.k _, fun _ => ⟨callT_op (r_apply q u.L u.ok (2 * u.k) (by have := u.hk; have := lt_t gd; have := n40 hz; omega) u.d u.dk _) rfl rfl, fun _ => hK125 _ _ _ (hK124 _ _ _ (hK121 _ _ _ (⟨u.next (lt_t gd), u.mu (lt_t gd), ⟨rfl, ⟨⟨rfl, fun _ h => h⟩, ⟨rfl, fun _ h => h⟩, ⟨rfl, nofun⟩, ⟨rfl, rfl, rfl⟩, ⟨rfl, nofun⟩, ⟨congrArg _ (add1 (by have := lt_t gd; have := n40 hz; omega)), nofun⟩, trivial⟩, ⟨rfl, rfl, nofun⟩, trivial⟩, ⟨fun F h => by have e : 2 * u.k + 2 = 2 * (u.k + 1) := (by omega); rw [e] at h; exact h, trivial⟩⟩)))⟩⟩⟩⟩))), fun gd => hK122 _ _ _ (hK121 _ _ _ (hK120 _ _ _ (hK118 _ _ _ (rSeqK (fun _ hK126 => rSeqK (fun _ hK127 => ⟨fun F ⟨l, hs, hl, x, h1, h2, e⟩ => ⟨⟨l, x, hs, hl⟩, e⟩, fun w => ⟨fun _ g => g, hK127 _ _ _ (rBlkK (fun _ hK128 => ⟨⟨.t0, ⟨rfl, ⟨⟨rfl, fun _ h => h⟩, ⟨rfl, nofun⟩, ⟨rfl, rfl, rfl⟩, ⟨rfl, fun q h => List.mem_append_left _ h⟩, ⟨rfl, nofun⟩, trivial⟩, ⟨⟨rfl, rfl, nofun⟩, trivial⟩⟩, trivial⟩, fun | .t0 => rSeqK (fun _ hK129 => rSeqK (fun _ hK130 => hK130 _ _ _ (⟨rfl, hK129 _ _ _ (rSeqK (fun _ hK131 => rBlkK (fun _ hK132 => rSeqK (fun _ hK133 => ⟨fun c1 => ⟨k_load_1 y v (fun i => (hw i).b) (n_5 (n_y h1)) c1 _ (by intro q h; have h : q ∈ y.L := h; simp [h]), fun _ => hK133 _ _ _ (rSeqK (fun _ hK134 => ⟨r_load_1 y v hv (fun i => (hw i).b) (n_5 (n_y h1)) c1 _ (by intro q h; have h : q ∈ y.L := h; simp [h]), fun _ => hK134 _ _ _ (rSeqK (fun _ hK135 => rSeqK (fun _ hK136 => ⟨gff rfl, ⟨gff rfl, ⟨gff rfl, ⟨gff rfl, ⟨gff rfl, ⟨rfl, ⟨gff rfl, ⟨gff rfl, ⟨gff rfl, ⟨gtf rfl, ⟨gtf rfl, ⟨gtf rfl, ⟨gtf rfl, ⟨gtf rfl, ⟨gtf rfl, ⟨gtf rfl, ⟨gtf rfl, ⟨gtf rfl, ⟨gtf rfl, ⟨⟨gff rfl, rfl⟩, ⟨rfl, hK136 _ _ _ (⟨rfl, hK135 _ _ _ (rSeqK (fun _ hK137 => ⟨callT_op (callT_read (rF_accounts q w.l w.x u.L.v (show w.l.length ≤ 400000 by have := w.len; have := u.hk; have := n40 hz; omega) w.same.once (same_b w.same u.ok) (w.srt u.ok)) (by intro q h; simp [h])) rfl rfl, fun z0 => ⟨rF_vaults q w.l w.x u.L.v (by intro q h; simp [h]), hK137 _ _ _ (rSeqK (fun _ hK138 => ⟨⟨z0, ⟨rfl, ⟨⟨rfl, nofun⟩, ⟨rfl, nofun⟩, ⟨rfl, rfl, rfl⟩, ⟨rfl, fun _ h => h⟩, ⟨rfl, nofun⟩, trivial⟩, ⟨rfl, rfl, nofun⟩, trivial⟩, ⟨fun _ g => g, trivial⟩⟩, fun z1 => ⟨gtf rfl, ⟨gtf rfl, ⟨gtf rfl, ⟨rfl, hK138 _ _ _ (⟨rfl, hK132 _ _ _ (hK131 _ _ _ (⟨fun _ g => g, ⟨.t1 z1, (by decide : 2 < 3), ⟨rfl, ⟨⟨rfl, fun q h => List.mem_append_left _ h⟩, ⟨rfl, nofun⟩, ⟨rfl, rfl, rfl⟩, ⟨rfl, fun _ h => h⟩, ⟨rfl, nofun⟩, trivial⟩, ⟨⟨rfl, rfl, nofun⟩, trivial⟩⟩, trivial⟩⟩))⟩)⟩⟩⟩⟩⟩))⟩⟩))⟩)⟩⟩⟩⟩⟩⟩⟩⟩⟩⟩⟩⟩⟩⟩⟩⟩⟩⟩⟩⟩⟩)))⟩))⟩, fun c1 => ⟨fun c2 => ⟨k_load_n y v hv (fun i => (hw i).b) (n_y h1) (okA_nf c1) c2 _ (by intro q h; have h : q ∈ y.L := h; simp [h]), fun _ => hK133 _ _ _ (rSeqK (fun _ hK139 => ⟨r_load_2 y v hv (fun i => (hw i).b) (n_5 (n_y h1)) (okA_nf c1) c2 _ (by intro q h; have h : q ∈ y.L := h; simp [h]), fun _ => hK139 _ _ _ (rSeqK (fun _ hK140 => rSeqK (fun _ hK141 => ⟨gff rfl, ⟨gff rfl, ⟨gff rfl, ⟨gff rfl, ⟨gff rfl, ⟨rfl, ⟨gff rfl, ⟨gff rfl, ⟨gff rfl, ⟨gtf rfl, ⟨gtf rfl, ⟨gtf rfl, ⟨gtf rfl, ⟨gtf rfl, ⟨gtf rfl, ⟨gtf rfl, ⟨gtf rfl, ⟨gtf rfl, ⟨gtf rfl, ⟨⟨gff rfl, rfl⟩, ⟨rfl, hK141 _ _ _ (⟨rfl, hK140 _ _ _ (rSeqK (fun _ hK142 => ⟨callT_op (callT_read (rF_accounts q w.l w.x u.L.v (show w.l.length ≤ 400000 by have := w.len; have := u.hk; have := n40 hz; omega) w.same.once (same_b w.same u.ok) (w.srt u.ok)) (by intro q h; simp [h])) rfl rfl, fun z0 => ⟨rF_vaults q w.l w.x u.L.v (by intro q h; simp [h]), hK142 _ _ _ (rSeqK (fun _ hK143 => ⟨⟨z0, ⟨rfl, ⟨⟨rfl, nofun⟩, ⟨rfl, nofun⟩, ⟨rfl, rfl, rfl⟩, ⟨rfl, fun _ h => h⟩, ⟨rfl, nofun⟩, trivial⟩, ⟨rfl, rfl, nofun⟩, trivial⟩, ⟨fun _ g => g, trivial⟩⟩, fun z1 => ⟨gtf rfl, ⟨gtf rfl, ⟨gtf rfl, ⟨rfl, hK143 _ _ _ (⟨rfl, hK132 _ _ _ (hK131 _ _ _ (⟨fun _ g => g, ⟨.t1 z1, (by decide : 2 < 3), ⟨rfl, ⟨⟨rfl, fun q h => List.mem_append_left _ h⟩, ⟨rfl, nofun⟩, ⟨rfl, rfl, rfl⟩, ⟨rfl, fun _ h => h⟩, ⟨rfl, nofun⟩, trivial⟩, ⟨⟨rfl, rfl, nofun⟩, trivial⟩⟩, trivial⟩⟩))⟩)⟩⟩⟩⟩⟩))⟩⟩))⟩)⟩⟩⟩⟩⟩⟩⟩⟩⟩⟩⟩⟩⟩⟩⟩⟩⟩⟩⟩⟩⟩)))⟩))⟩, fun c2 => ⟨fun _ => ⟨callT_op (k_loadK y v (ldK_ok (okA_nf c1) hw hv (Decidable.not_not.1 c2)) (n_y h1) _ (by intro q h; have h : q ∈ y.L := h; simp [h])) rfl rfl, fun m2 => hK133 _ _ _ (rSeqK (fun _ hK144 => ⟨r_loadK y v (ldK_ok (okA_nf c1) hw hv (Decidable.not_not.1 c2)) (n_y h1) _ (by intro q h; have h : q ∈ y.L := h; simp [h]), fun q2 => hK144 _ _ _ (rSeqK (fun _ hK145 => rSeqK (fun _ hK146 => ⟨gff rfl, ⟨gff rfl, ⟨gff rfl, ⟨gff rfl, ⟨gff rfl, ⟨rfl, ⟨gff rfl, ⟨gff rfl, ⟨gff rfl, ⟨gtt rfl, ⟨⟨gtt rfl, fun _ g => callR_op (k_accounts g (ldK_ok (okA_nf c1) hw hv (Decidable.not_not.1 c2)) (show y.l.length ≤ 1000000000 by rw [y.hl]; exact n_9 (n_y h1)) _) rfl rfl⟩, fun fa => ⟨gtt rfl, ⟨⟨gtt rfl, gives_read (rF_accounts q2.1 y.l q2.2 v (by rw [y.hl]; exact n_4 (n_y h1)) (asc_once (ldK_ok (okA_nf c1) hw hv (Decidable.not_not.1 c2)).asc) (ldK_ok (okA_nf c1) hw hv (Decidable.not_not.1 c2)).getD (srt_K (K := (ldK y.l v)) (ldK_ok (okA_nf c1) hw hv (Decidable.not_not.1 c2)))) (by intro q h; have h : q ∈ rF q2.1 y.l q2.2 v := h; simp [h])⟩, fun fb => ⟨⟨gtt rfl, k_eqacc (Ass.fr y.l fa) (Ass.fr y.l fb) rfl (frN _ _ (show y.l.length ≤ 1000000000 by rw [y.hl]; exact n_9 (n_y h1))) _ (by intro q h; have h : q ∈ frL 58 fa := h; simp [h]) (by intro q h; have h : q ∈ frL 58 fb := h; simp [h])⟩, fun _ => ⟨gtt rfl, ⟨gtt rfl, ⟨gff rfl, ⟨⟨gff rfl, fun _ g => callR_op (k_vaults0 m2 (ldK y.l v) _ g _) rfl rfl⟩, fun _ => ⟨gff rfl, ⟨⟨gff rfl, eqT_vaults rfl rfl⟩, ⟨⟨gtt rfl, rfl⟩, ⟨gtt rfl, ⟨gff (vv_self _), ⟨⟨gff (vv_self _), fun _ g => callR_op (k_supply0 m2 (ldK y.l v) _ g _) rfl rfl⟩, fun _ => ⟨gff (vv_self _), ⟨⟨gff (vv_self _), gives_read (r_supply q2.1 y.l q2.2 v (by rw [y.hl]; exact n_6 (n_y h1)) (ldK_ok (okA_nf c1) hw hv (Decidable.not_not.1 c2)).getD (ldK_ok (okA_nf c1) hw hv (Decidable.not_not.1 c2)).v []) (by intro q h; have h : q ∈ rF q2.1 y.l q2.2 v := h; simp [h])⟩, fun b0 => ⟨⟨gff (vv_self _), c_to b0 (ldK_ok (okA_nf c1) hw hv (Decidable.not_not.1 c2)).s _ (by intro q h; simp [h])⟩, fun _ => ⟨⟨gff (vv_self _), eqT_api_Uint256 rfl rfl⟩, ⟨⟨gtt rfl, (vv_self _)⟩, ⟨⟨gff rfl, rfl⟩, ⟨rfl, hK146 _ _ _ (⟨(neU_self _), hK145 _ _ _ (rSeqK (fun _ hK147 => ⟨callT_op (callT_read (rF_accounts q w.l w.x u.L.v (show w.l.length ≤ 400000 by have := w.len; have := u.hk; have := n40 hz; omega) w.same.once (same_b w.same u.ok) (w.srt u.ok)) (by intro q h; simp [h])) rfl rfl, fun z0 => ⟨rF_vaults q w.l w.x u.L.v (by intro q h; simp [h]), hK147 _ _ _ (rSeqK (fun _ hK148 => ⟨⟨z0, ⟨rfl, ⟨⟨rfl, nofun⟩, ⟨rfl, nofun⟩, ⟨rfl, rfl, rfl⟩, ⟨rfl, fun _ h => h⟩, ⟨rfl, nofun⟩, trivial⟩, ⟨rfl, rfl, nofun⟩, trivial⟩, ⟨fun _ g => g, trivial⟩⟩, fun z1 => ⟨gtf rfl, ⟨gtf rfl, ⟨gtf rfl, ⟨rfl, hK148 _ _ _ (⟨rfl, hK132 _ _ _ (hK131 _ _ _ (⟨fun _ g => g, ⟨.t1 z1, (by decide : 2 < 3), ⟨rfl, ⟨⟨rfl, fun q h => List.mem_append_left _ h⟩, ⟨rfl, nofun⟩, ⟨rfl, rfl, rfl⟩, ⟨rfl, fun _ h => h⟩, ⟨rfl, nofun⟩, trivial⟩, ⟨⟨rfl, rfl, nofun⟩, trivial⟩⟩, trivial⟩⟩))⟩)⟩⟩⟩⟩⟩))⟩⟩))⟩)⟩⟩⟩⟩⟩⟩⟩⟩⟩⟩⟩⟩⟩⟩⟩⟩⟩⟩⟩⟩⟩⟩⟩⟩⟩⟩⟩⟩⟩⟩⟩)))⟩))⟩, fun h => (h trivial).elim⟩⟩⟩))))⟩))) | .t1 z => rSeqK (fun _ hK149 => rSeqK (fun _ hK150 => hK150 _ _ _ (⟨rfl, hK149 _ _ _ (rSeqK (fun _ hK151 => rBlkK (fun _ hK152 => rSeqK (fun _ hK153 => ⟨callT_op (k_loadK (Ass.fr u.L.acc z) u.L.v (ldK_L u.ok (l := (Ass.fr u.L.acc z).l) rfl) (fr_n1000 u (n40 hz) z) _ (by intro q h; have h : q ∈ (Ass.fr u.L.acc z).L := h; simp [h])) rfl rfl, fun m2 => hK153 _ _ _ (rSeqK (fun _ hK154 => ⟨r_loadK (Ass.fr u.L.acc z) u.L.v (ldK_L u.ok (l := (Ass.fr u.L.acc z).l) rfl) (fr_n1000 u (n40 hz) z) _ (by intro q h; have h : q ∈ (Ass.fr u.L.acc z).L := h; simp [h]), fun q2 => hK154 _ _ _ (rSeqK (fun _ hK155 => rSeqK (fun _ hK156 => ⟨gff rfl, ⟨gff rfl, ⟨gff rfl, ⟨gff rfl, ⟨gff rfl, ⟨rfl, ⟨gff rfl, ⟨gff rfl, ⟨gff rfl, ⟨gtt rfl, ⟨⟨gtt rfl, fun _ g => callR_op (k_accounts g (ldK_L u.ok (l := (Ass.fr u.L.acc z).l) rfl) (show (Ass.fr u.L.acc z).l.length ≤ 1000000000 by rw [(Ass.fr u.L.acc z).hl]; exact n_9 (fr_n1000 u (n40 hz) z)) _) rfl rfl⟩, fun fa => ⟨gtt rfl, ⟨⟨gtt rfl, gives_read (rF_accounts q2.1 (Ass.fr u.L.acc z).l q2.2 u.L.v (by rw [(Ass.fr u.L.acc z).hl]; exact n_4 (fr_n1000 u (n40 hz) z)) (asc_once (ldK_L u.ok (l := (Ass.fr u.L.acc z).l) rfl).asc) (ldK_L u.ok (l := (Ass.fr u.L.acc z).l) rfl).getD (srt_K (K := (ldK (Ass.fr u.L.acc z).l u.L.v)) (ldK_L u.ok (l := (Ass.fr u.L.acc z).l) rfl))) (by intro q h; have h : q ∈ rF q2.1 (Ass.fr u.L.acc z).l q2.2 u.L.v := h; simp [h])⟩, fun fb => ⟨⟨gtt rfl, k_eqacc (Ass.fr (Ass.fr u.L.acc z).l fa) (Ass.fr (Ass.fr u.L.acc z).l fb) rfl (frN _ _ (show (Ass.fr u.L.acc z).l.length ≤ 1000000000 by rw [(Ass.fr u.L.acc z).hl]; exact n_9 (fr_n1000 u (n40 hz) z))) _ (by intro q h; have h : q ∈ frL 58 fa := h; simp [h]) (by intro q h; have h : q ∈ frL 58 fb := h; simp [h])⟩, fun _ => ⟨gtt rfl, ⟨gtt rfl, ⟨gff rfl, ⟨⟨gff rfl, fun _ g => callR_op (k_vaults0 m2 (ldK (Ass.fr u.L.acc z).l u.L.v) _ g _) rfl rfl⟩, fun _ => ⟨gff rfl, ⟨⟨gff rfl, eqT_vaults rfl rfl⟩, ⟨⟨gtt rfl, rfl⟩, ⟨gtt rfl, ⟨gff (vv_self _), ⟨⟨gff (vv_self _), fun _ g => callR_op (k_supply0 m2 (ldK (Ass.fr u.L.acc z).l u.L.v) _ g _) rfl rfl⟩, fun _ => ⟨gff (vv_self _), ⟨⟨gff (vv_self _), gives_read (r_supply q2.1 (Ass.fr u.L.acc z).l q2.2 u.L.v (by rw [(Ass.fr u.L.acc z).hl]; exact n_6 (fr_n1000 u (n40 hz) z)) (ldK_L u.ok (l := (Ass.fr u.L.acc z).l) rfl).getD (ldK_L u.ok (l := (Ass.fr u.L.acc z).l) rfl).v []) (by intro q h; have h : q ∈ rF q2.1 (Ass.fr u.L.acc z).l q2.2 u.L.v := h; simp [h])⟩, fun b0 => ⟨⟨gff (vv_self _), c_to b0 (ldK_L u.ok (l := (Ass.fr u.L.acc z).l) rfl).s _ (by intro q h; simp [h])⟩, fun _ => ⟨⟨gff (vv_self _), eqT_api_Uint256 rfl rfl⟩, ⟨⟨gtt rfl, (vv_self _)⟩, ⟨⟨gff rfl, rfl⟩, ⟨rfl, hK156 _ _ _ (⟨(neU_self _), hK155 _ _ _ (rSeqK (fun _ hK157 => ⟨callT_op (callT_read (rF_accounts q w.l w.x u.L.v (show w.l.length ≤ 400000 by have := w.len; have := u.hk; have := n40 hz; omega) w.same.once (same_b w.same u.ok) (w.srt u.ok)) (by intro q h; simp [h])) rfl rfl, fun z0 => ⟨rF_vaults q w.l w.x u.L.v (by intro q h; simp [h]), hK157 _ _ _ (rSeqK (fun _ hK158 => ⟨⟨z0, ⟨rfl, ⟨⟨rfl, nofun⟩, ⟨rfl, nofun⟩, ⟨rfl, rfl, rfl⟩, ⟨rfl, fun _ h => h⟩, ⟨rfl, nofun⟩, trivial⟩, ⟨rfl, rfl, nofun⟩, trivial⟩, ⟨fun _ g => g, trivial⟩⟩, fun z1 => ⟨gtt rfl, ⟨gtt rfl, ⟨gtt rfl, ⟨rfl, hK158 _ _ _ (⟨fun h7 => rSeqK (fun _ hK159 => ⟨lp_subJ (ln_sub h7 (n_3 (rs_len u (n40 hz)))) _, ⟨mod_raw how (u.L.acc.length - 1) (by have := ln_gt h7; omega) (by have := rs_len u (n40 hz); omega) _, fun _ => hK159 _ _ _ (⟨lp_addJ (inc1J (by have := (mdl h7 how); have := rs_len u (n40 hz); omega)) _, ⟨lp_addJ (inc1J (by have := (mdl h7 how); have := rs_len u (n40 hz); omega)) _, ⟨(Ass.fr u.L.acc z1).idx (Int.natCast_nonneg _) (by have := (mdl h7 how); show (((modI how (u.L.acc.length - 1)) + 1 : Nat) : Int) < ((lenB (acws u.L.acc) 6 : Nat) : Int); rw [lenB_a]; omega), ⟨fun _ g => by subst g; exact row_ld ((modI how (u.L.acc.length - 1)) + 1) rfl (by have := (mdl h7 how); omega), fun _ => ⟨(Ass.fr u.L.acc z1).idx (Int.natCast_nonneg _) (by have := (mdl h7 how); show (((modI how (u.L.acc.length - 1)) : Nat) : Int) < ((lenB (acws u.L.acc) 6 : Nat) : Int); rw [lenB_a]; omega), ⟨fun _ g => by subst g; exact row_ld (modI how (u.L.acc.length - 1)) rfl (by have := (mdl h7 how); omega), fun _ => ⟨(Ass.fr u.L.acc z1).idx (Int.natCast_nonneg _) (by have := (mdl h7 how); show (((modI how (u.L.acc.length - 1)) : Nat) : Int) < ((lenB (acws u.L.acc) 6 : Nat) : Int); rw [lenB_a]; omega), ⟨row_st (modI how (u.L.acc.length - 1)) rfl (by have := (mdl h7 how); omega) rfl, fun _ => ⟨(Ass.fr u.L.acc z1).idx (Int.natCast_nonneg _) (by have := (mdl h7 how); show (((modI how (u.L.acc.length - 1)) + 1 : Nat) : Int) < ((lenB (acws u.L.acc) 6 : Nat) : Int); rw [lenB_a]; omega), ⟨row_st ((modI how (u.L.acc.length - 1)) + 1) rfl (by have := (mdl h7 how); rw [List.length_set]; omega) (fset_O _ _ _), fun _ => hK152 _ _ _ (hK151 _ _ _ (⟨fun _ g => g, ⟨.t2 (asAss z1 (fset ((modI how (u.L.acc.length - 1)) + 1) (u.L.acc.getD (modI how (u.L.acc.length - 1)) default) (fset (modI how (u.L.acc.length - 1)) (u.L.acc.getD ((modI how (u.L.acc.length - 1)) + 1) default) z1)) (by rw [fset_O, fset_O]) (by rw [List.length_set, List.length_set])) ⟨sw_b u.ok _ (mdl h7 how), (show lenB (acws u.L.acc) 6 ≤ 1000 by rw [lenB_a]; exact n_3 (rs_len u (n40 hz))), .inr (swap_no u.ok.asc (mdl h7 how))⟩, (by decide : 1 < 2), ⟨rfl, ⟨⟨rfl, fun q h => List.mem_append_left _ h⟩, ⟨rfl, nofun⟩, ⟨rfl, rfl, rfl⟩, ⟨rfl, fun _ h => h⟩, ⟨rfl, nofun⟩, trivial⟩, ⟨⟨rfl, rfl, nofun⟩, trivial⟩⟩, trivial⟩⟩))⟩⟩⟩⟩⟩⟩⟩⟩⟩⟩)⟩⟩), fun h7 => hK152 _ _ _ (hK151 _ _ _ (⟨fun _ g => g, ⟨.t2 (Ass.fr u.L.acc z1) ⟨u.ok.getD, (fr_n1000 u (n40 hz) z1), .inl rfl⟩, (by decide : 1 < 2), ⟨rfl, ⟨⟨rfl, fun q h => List.mem_append_left _ h⟩, ⟨rfl, nofun⟩, ⟨rfl, rfl, rfl⟩, ⟨rfl, fun _ h => h⟩, ⟨rfl, nofun⟩, trivial⟩, ⟨⟨rfl, rfl, nofun⟩, trivial⟩⟩, trivial⟩⟩))⟩)⟩⟩⟩⟩⟩))⟩⟩))⟩)⟩⟩⟩⟩⟩⟩⟩⟩⟩⟩⟩⟩⟩⟩⟩⟩⟩⟩⟩⟩⟩⟩⟩⟩⟩⟩⟩⟩⟩⟩⟩)))⟩))⟩))))⟩))) | .t2 a sw => rSeqK (fun _ hK160 => rSeqK (fun _ hK161 => hK161 _ _ _ (⟨rfl, hK160 _ _ _ (rSeqK (fun _ hK162 => rBlkK (fun _ hK163 => rSeqK (fun _ hK164 => ⟨fun c1 => ⟨k_load_1 a u.L.v sw.b (n_5 sw.n) c1 _ (by intro q h; have h : q ∈ a.L := h; simp [h]), fun _ => hK164 _ _ _ (rSeqK (fun _ hK165 => ⟨r_load_1 a u.L.v u.ok.v sw.b (n_5 sw.n) c1 _ (by intro q h; have h : q ∈ a.L := h; simp [h]), fun _ => hK165 _ _ _ (rSeqK (fun _ hK166 => rSeqK (fun _ hK167 => ⟨gff rfl, ⟨gff rfl, ⟨gff rfl, ⟨gff rfl, ⟨gff rfl, ⟨rfl, ⟨gff rfl, ⟨gff rfl, ⟨gff rfl, ⟨gtf rfl, ⟨gtf rfl, ⟨gtf rfl, ⟨gtf rfl, ⟨gtf rfl, ⟨gtf rfl, ⟨gtf rfl, ⟨gtf rfl, ⟨gtf rfl, ⟨gtf rfl, ⟨⟨gff rfl, rfl⟩, ⟨rfl, hK167 _ _ _ (⟨rfl, hK166 _ _ _ (rSeqK (fun _ hK168 => ⟨callT_op (callT_read (rF_accounts q w.l w.x u.L.v (show w.l.length ≤ 400000 by have := w.len; have := u.hk; have := n40 hz; omega) w.same.once (same_b w.same u.ok) (w.srt u.ok)) (by intro q h; simp [h])) rfl rfl, fun z0 => ⟨rF_vaults q w.l w.x u.L.v (by intro q h; simp [h]), hK168 _ _ _ (rSeqK (fun _ hK169 => ⟨⟨z0, ⟨rfl, ⟨⟨rfl, nofun⟩, ⟨rfl, nofun⟩, ⟨rfl, rfl, rfl⟩, ⟨rfl, fun _ h => h⟩, ⟨rfl, nofun⟩, trivial⟩, ⟨rfl, rfl, nofun⟩, trivial⟩, ⟨fun _ g => g, trivial⟩⟩, fun z1 => ⟨gtf rfl, ⟨gtf rfl, ⟨gtf rfl, ⟨rfl, hK169 _ _ _ (⟨rfl, hK163 _ _ _ (hK162 _ _ _ (⟨fun _ g => g, ⟨.t3, (by decide : 0 < 1), ⟨rfl, ⟨⟨rfl, nofun⟩, trivial⟩, trivial⟩, trivial⟩⟩))⟩)⟩⟩⟩⟩⟩))⟩⟩))⟩)⟩⟩⟩⟩⟩⟩⟩⟩⟩⟩⟩⟩⟩⟩⟩⟩⟩⟩⟩⟩⟩)))⟩))⟩, fun c1 => ⟨fun _ => ⟨callT_op (k_loadK a u.L.v (ldK_L u.ok (sw.k.resolve_right c1)) sw.n _ (by intro q h; have h : q ∈ a.L := h; simp [h])) rfl rfl, fun m2 => hK164 _ _ _ (rSeqK (fun _ hK170 => ⟨r_loadK a u.L.v (ldK_L u.ok (sw.k.resolve_right c1)) sw.n _ (by intro q h; have h : q ∈ a.L := h; simp [h]), fun q2 => hK170 _ _ _ (rSeqK (fun _ hK171 => rSeqK (fun _ hK172 => ⟨gff rfl, ⟨gff rfl, ⟨gff rfl, ⟨gff rfl, ⟨gff rfl, ⟨rfl, ⟨gff rfl, ⟨gff rfl, ⟨gff rfl, ⟨gtt rfl, ⟨⟨gtt rfl, fun _ g => callR_op (k_accounts g (ldK_L u.ok (sw.k.resolve_right c1)) (show a.l.length ≤ 1000000000 by rw [a.hl]; exact n_9 sw.n) _) rfl rfl⟩, fun fa => ⟨gtt rfl, ⟨⟨gtt rfl, gives_read (rF_accounts q2.1 a.l q2.2 u.L.v (by rw [a.hl]; exact n_4 sw.n) (asc_once (ldK_L u.ok (sw.k.resolve_right c1)).asc) (ldK_L u.ok (sw.k.resolve_right c1)).getD (srt_K (K := (ldK a.l u.L.v)) (ldK_L u.ok (sw.k.resolve_right c1)))) (by intro q h; have h : q ∈ rF q2.1 a.l q2.2 u.L.v := h; simp [h])⟩, fun fb => ⟨⟨gtt rfl, k_eqacc (Ass.fr a.l fa) (Ass.fr a.l fb) rfl (frN _ _ (show a.l.length ≤ 1000000000 by rw [a.hl]; exact n_9 sw.n)) _ (by intro q h; have h : q ∈ frL 58 fa := h; simp [h]) (by intro q h; have h : q ∈ frL 58 fb := h; simp [h])⟩, fun _ => ⟨gtt rfl, ⟨gtt rfl, ⟨gff rfl, ⟨⟨gff rfl, fun _ g => callR_op (k_vaults0 m2 (ldK a.l u.L.v) _ g _) rfl rfl⟩, fun _ => ⟨gff rfl, ⟨⟨gff rfl, eqT_vaults rfl rfl⟩, ⟨⟨gtt rfl, rfl⟩, ⟨gtt rfl, ⟨gff (vv_self _), ⟨⟨gff (vv_self _), fun _ g => callR_op (k_supply0 m2 (ldK a.l u.L.v) _ g _) rfl rfl⟩, fun _ => ⟨gff (vv_self _), ⟨⟨gff (vv_self _), gives_read (r_supply q2.1 a.l q2.2 u.L.v (by rw [a.hl]; exact n_6 sw.n) (ldK_L u.ok (sw.k.resolve_right c1)).getD (ldK_L u.ok (sw.k.resolve_right c1)).v []) (by intro q h; have h : q ∈ rF q2.1 a.l q2.2 u.L.v := h; simp [h])⟩, fun b0 => ⟨⟨gff (vv_self _), c_to b0 (ldK_L u.ok (sw.k.resolve_right c1)).s _ (by intro q h; simp [h])⟩, fun _ => ⟨⟨gff (vv_self _), eqT_api_Uint256 rfl rfl⟩, ⟨⟨gtt rfl, (vv_self _)⟩, ⟨⟨gff rfl, rfl⟩, ⟨rfl, hK172 _ _ _ (⟨(neU_self _), hK171 _ _ _ (rSeqK (fun _ hK173 => ⟨callT_op (callT_read (rF_accounts q w.l w.x u.L.v (show w.l.length ≤ 400000 by have := w.len; have := u.hk; have := n40 hz; omega) w.same.once (same_b w.same u.ok) (w.srt u.ok)) (by intro q h; simp [h])) rfl rfl, fun z0 => ⟨rF_vaults q w.l w.x u.L.v (by intro q h; simp [h]), hK173 _ _ _ (rSeqK (fun _ hK174 => ⟨⟨z0, ⟨rfl, ⟨⟨rfl, nofun⟩, ⟨rfl, nofun⟩, ⟨rfl, rfl, rfl⟩, ⟨rfl, fun _ h => h⟩, ⟨rfl, nofun⟩, trivial⟩, ⟨rfl, rfl, nofun⟩, trivial⟩, ⟨fun _ g => g, trivial⟩⟩, fun z1 => ⟨gtf rfl, ⟨gtf rfl, ⟨gtf rfl, ⟨rfl, hK174 _ _ _ (⟨rfl, hK163 _ _ _ (hK162 _ _ _ (⟨fun _ g => g, ⟨.t3, (by decide : 0 < 1), ⟨rfl, ⟨⟨rfl, nofun⟩, trivial⟩, trivial⟩, trivial⟩⟩))⟩)⟩⟩⟩⟩⟩))⟩⟩))⟩)⟩⟩⟩⟩⟩⟩⟩⟩⟩⟩⟩⟩⟩⟩⟩⟩⟩⟩⟩⟩⟩⟩⟩⟩⟩⟩⟩⟩⟩⟩⟩)))⟩))⟩, fun h => (h trivial).elim⟩⟩))))⟩))) | .t3 => rSeqK (fun _ hK175 => rSeqK (fun _ hK176 => hK176 _ _ _ (⟨rfl, hK175 _ _ _ (hK128 _ _ _ (hK126 _ _ _ (rSeqK (fun _ hK177 => ⟨aw11 _ (hA.app _), fun _ => hK177 _ _ _ (⟨(), rfl, nofun⟩)⟩))))⟩)))⟩))⟩⟩))))))⟩))))))⟩)))⟩))⟩)⟩⟩⟩⟩, fun h => (h trivial).elim⟩⟩)))))
end Go.Proofs.YtkibbcomfjhgpaaDoor

