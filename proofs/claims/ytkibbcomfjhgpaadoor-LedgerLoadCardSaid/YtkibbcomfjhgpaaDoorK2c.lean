/- The reference ledger: Accounts. No conditions. -/
import Derived.Test.YtkibbcomfjhgpaaDoorK2b
import Derived.Test.YtkibbcomfjhgpaaDoorSxv
namespace Go.Proofs.YtkibbcomfjhgpaaDoor
open Go.RowKit Sx
set_option maxRecDepth 100000

/-! Slices of accounts, cut and joined. -/
theorem addr_add2 (a : Addr) (x y : Nat) : (a.add x).add y = a.add (x + y) := by
  obtain ⟨ab, ao, sp⟩ := a
  unfold Addr.add
  by_cases hx : x = 0
  · subst hx; simp
  · by_cases hy : y = 0
    · subst hy; simp
    · simp [hx, hy, Nat.add_assoc]
theorem addr_split {a : Addr} {x b k : Nat} (h : a.add x = ⟨b, k, none⟩) (r : Nat) : a.add (x + r) = ⟨b, k + r, none⟩ := by
  rw [← addr_add2, h, add_none]
theorem Ass.src (y : Ass) {A : Facts} (hA : Sub y.L A) : ∀ w, Sx.Holds w A → Src Tryd.prog 6 40 y.v y.n (acws y.l) w := by
  intro w hw
  obtain ⟨o, n, cap, l, L, hl, hc, hs, h⟩ := y
  cases o with
  | none =>
    have h0 : n = 0 := by
      rcases Nat.eq_zero_or_pos n with e | e
      · exact e
      · have := hs e; cases this
    subst h0
    have : l = [] := List.length_eq_zero_iff.1 hl
    subst this
    exact Src.ofNil w Tryd.underlying40 cap
  | some a =>
    refine Src.ofSlice w Tryd.underlying40 a n cap _ (by rw [acws_len, hl]) (fun j u hj => ?_) (acws_one l)
    have hj6 : j < l.length * 6 := by rw [← acws_len]; exact (List.getElem?_eq_some_iff.1 hj).1
    have hi : j / 6 < l.length := by omega
    have hr : j % 6 < 6 := Nat.mod_lt _ (by decide)
    obtain ⟨b, k, h1, h2⟩ := h w (hA.holds hw) (j / 6) (by rw [← hl]; exact hi)
    have hg := acws_get l (j / 6) hi (j % 6) hr
    rw [show j / 6 * 6 + j % 6 = j by omega, hj] at hg
    have := h2 (j % 6) u hg.symm
    have e := addr_split (a := a) h1 (j % 6)
    rw [show j / 6 * 6 + j % 6 = j by omega] at e
    rw [e]
    exact this
/-- The first c, with no room behind them; those from c on. -/
def Ass.full (y : Ass) (c : Nat) (hc : c ≤ y.n) : Ass where
  o := y.o
  n := c
  cap := c
  l := y.l.take c
  L := y.L
  hl := by rw [List.length_take, y.hl]; omega
  hc := Nat.le_refl c
  hs := fun h => y.hs (by omega)
  h := fun w hw i hi => by
    have := y.h w hw i (by omega)
    have e : (y.l.take c).getD i default = y.l.getD i default := by simp [List.getD, List.getElem?_take_of_lt hi]
    rw [e]
    exact this
def Ass.from (y : Ass) (c : Nat) (hc : c ≤ y.n) : Ass where
  o := subO y.o y.cap c 6
  n := y.n - c
  cap := y.cap - c
  l := y.l.drop c
  L := y.L
  hl := by rw [List.length_drop, y.hl]
  hc := by have := y.hc; omega
  hs := fun h => by
    have := y.hs (by omega)
    unfold subO
    split
    · exact this
    · cases e : y.o with
      | none => rw [e] at this; cases this
      | some a => rfl
  h := fun w hw i hi => by
    have hcap := y.hc
    unfold subO
    rw [if_neg (by omega)]
    obtain ⟨b, k, h1, h2⟩ := y.h w hw (c + i) (by omega)
    have hs := y.hs (by omega)
    have e : (y.l.drop c).getD i default = y.l.getD (c + i) default := by simp [List.getD]
    rw [e]
    refine ⟨b, k, ?_, h2⟩
    cases ho : y.o with
    | none => rw [ho] at hs; cases hs
    | some a =>
      rw [ho] at h1
      simp only [Option.getD_some, Option.map_some] at h1 ⊢
      rw [addr_add2, ← Nat.add_mul, h1]
section
variable {ρ : Operand → Value} {dst : Option Tmp} {type : TypeId} {pos : String} {after : Array Edge} {guard : Option (Nat × Bool)}
theorem give_fullA (y : Ass) (c : Nat) (hc : c ≤ y.n) {A : Facts} (hA : Sub y.L A) {x u v : Operand} (hx : ρ x = y.v := by rfl) (hu : ρ u = .int .i64 (c : Int) := by rfl) (hv : ρ v = .int .i64 (c : Int) := by rfl) :
    GivesOp Tryd.prog (execOp ρ ⟨dst, .slice 40 x none (some u) (some v), type, pos, after, guard⟩) A Unit (fun _ => (y.full c hc).v) (fun _ => y.L) := by
  intro w hw
  obtain ⟨i, _, hi, hs, _⟩ := info_A6
  have h1 : c ≤ y.cap := by have := y.hc; omega
  have ha : (if c = 0 then y.o else Option.map (fun x => x.add 0) y.o) = y.o := by
    split
    · rfl
    · cases y.o with
      | none => rfl
      | some a => simp [Addr.add]
  have hrun : (execOp ρ ⟨dst, .slice 40 x none (some u) (some v), type, pos, after, guard⟩).run Tryd.prog w = .ok (.value (y.full c hc).v) w := by
    simp [execOp, hx, hu, hv, Instr.sliceAt, Instr.slice, run_underlying Tryd.underlying40, Instr.sliceBounds, Instr.sliceBound, asIntOf, run_size hi, hs, h1, ha, Ass.full]
  unfold OpRun
  rw [hrun]
  exact ⟨(), rfl, hA.holds hw, fun q hq => .inr ⟨q, hA q hq, rfl⟩, .refl _ _⟩
/-- 'append' of something to a row that has no room. -/
theorem give_appA (y z : Ass) {A : Facts} (hy : Sub y.L A) (hz : Sub z.L A) (hfull : y.cap = y.n) (h0 : 0 < z.n) (hn : y.n + z.n ≤ 1000000) {X Y : Operand} (hx : ρ X = y.v := by rfl) (hv : ρ Y = z.v := by rfl) :
    GivesOp Tryd.prog (execOp ρ ⟨dst, .call ⟨.builtin .append, #[X, Y], #[40, 40]⟩, type, pos, after, guard⟩) A (FrX (acws (y.l ++ z.l))) (fun x => .slice (frO x) (lenB (acws (y.l ++ z.l)) 6) (frC 6 x)) (fun x => frL 58 x) := by
  intro w hw
  obtain ⟨i, zz, hi, hs, hby, hzz, hzs⟩ := info_A6
  have hsy := (y.src hy w hw).cellsD
  have hsz := z.src hz w hw
  rw [← hs] at hsz hsy
  have hcap : y.n + z.n ≤ grownCap w (y.n + z.n) y.cap 58 := grownCap_ge w _ _ _
  have hfit : Builtin.nextslicecap (y.n + z.n) y.cap * i.bytes ≤ 281474976710656 := by
    have h1 := nextslicecap_le (need := y.n + z.n) (old := y.cap) (by omega)
    have h2 : Builtin.nextslicecap (y.n + z.n) y.cap * i.bytes ≤ 2 * (y.n + z.n) * 48 := Nat.mul_le_mul h1 (by omega)
    omega
  have hrun := run_append_grow_src w 40 40 type 58 i zz Tryd.underlying40 hi hzz y.o y.n y.cap (acws y.l) hsy z.v z.n (acws z.l) hsz (by omega) (by omega) hfit
  have hop : (execOp ρ ⟨dst, .call ⟨.builtin .append, #[X, Y], #[40, 40]⟩, type, pos, after, guard⟩).run Tryd.prog w = .ok (.value (.slice (some ⟨w.heap.size, 0, none⟩) (y.n + z.n) (grownCap w (y.n + z.n) y.cap 58))) (w.drew.alloc (.cells ((acws y.l ++ acws z.l).toArray ++ Builtin.zeroCells zz.cells (grownCap w (y.n + z.n) y.cap 58 - (y.n + z.n))) 58)) := by
    have hx' : ρ X = .slice y.o y.n y.cap := hx
    simp [execOp, resolve, invoke, builtin, hx', hv, hrun]
  unfold OpRun
  rw [hop]
  generalize hsp : Builtin.zeroCells zz.cells (grownCap w (y.n + z.n) y.cap 58 - (y.n + z.n)) = sp
  have hss : sp.toList.length = (grownCap w (y.n + z.n) y.cap 58 - (y.n + z.n)) * 6 := by
    rw [← hsp]; simp [Builtin.zeroCells, hzs]
  generalize hob : Obj.cells ((acws y.l ++ acws z.l).toArray ++ sp) 58 = obj
  have hobj : obj = .cells (acws (y.l ++ z.l) ++ sp.toList).toArray 58 := by
    rw [← hob, acws_app]; congr 1; apply Array.ext'; simp
  have hh : (w.drew.alloc obj).heap = w.heap.push obj := rfl
  have e : (acws (y.l ++ z.l)).length = (y.n + z.n) * 6 := by rw [acws_len, List.length_append, y.hl, z.hl]
  refine ⟨.inr (w.heap.size, sp.toList), ?_, fun q hq => ?_, fun q hq => ?_, ⟨rfl, rfl, rfl, by rw [hh, Array.size_push]; omega, fun k hk => by rw [hh, Array.getElem?_push, if_neg (Nat.ne_of_lt hk)]⟩⟩
  · have e1 : lenB (acws (y.l ++ z.l)) 6 = y.n + z.n := by rw [lenB_a, List.length_append, y.hl, z.hl]
    have e2 : ((acws (y.l ++ z.l)).length + sp.toList.length) / 6 = grownCap w (y.n + z.n) y.cap 58 := by
      rw [e, hss, ← Nat.add_mul, Nat.mul_div_cancel _ (by decide)]; omega
    simp only [frO, frC, e1, e2]
  · obtain rfl := List.mem_singleton.1 hq
    show (w.drew.alloc obj).heap[w.heap.size]? = _
    rw [hh, Array.getElem?_push, if_pos rfl, hobj]
  · obtain rfl := List.mem_singleton.1 hq
    exact .inl (Nat.le_refl _)
/-- A row of one. -/
def Ass.one (m : Nat) (z : Ac) : Ass := Ass.fr [z] (.inr (m, []))
theorem one_n (m : Nat) (z : Ac) : (Ass.one m z).n = 1 := by show lenB (acws [z]) 6 = 1; rw [lenB_a]; rfl
theorem one_c (m : Nat) (z : Ac) : (Ass.one m z).cap = 1 := by show ((acws [z]).length + 0) / 6 = 1; rw [acws_len]; simp
theorem one_v (m : Nat) (z : Ac) : (Ass.one m z).v = .slice (some ⟨m, 0, none⟩) 1 1 := by
  show Value.slice (some ⟨m, 0, none⟩) ((Ass.one m z).n) ((Ass.one m z).cap) = _
  rw [one_n, one_c]
theorem one_L (m : Nat) (z : Ac) : (Ass.one m z).L = [(m, .cells (acw z).toArray 58)] := by
  show [(m, Obj.cells (acws [z] ++ []).toArray 58)] = _
  rw [acws_1, List.append_nil]
theorem give_app1 (m : Nat) (x : Ac) (z : Ass) {A : Facts} (hy : Sub [(m, Obj.cells (acw x).toArray 58)] A) (hz : Sub z.L A) (hn : z.n ≤ 900000) {X Y : Operand} (hx : ρ X = .slice (some ⟨m, 0, none⟩) 1 1 := by rfl) (hv : ρ Y = z.v := by rfl) :
    GivesOp Tryd.prog (execOp ρ ⟨dst, .call ⟨.builtin .append, #[X, Y], #[40, 40]⟩, type, pos, after, guard⟩) A (FrX (acws (x :: z.l))) (fun x' => .slice (frO x') (lenB (acws (x :: z.l)) 6) (frC 6 x')) (fun x' => frL 58 x') := by
  rcases Nat.eq_zero_or_pos z.n with h0 | h0
  · intro w hw
    obtain ⟨i, zz, hi, hs, hby, hzz, hzs⟩ := info_A6
    have hsz := z.src hz w hw
    have hl : z.l = [] := List.length_eq_zero_iff.1 (by rw [z.hl, h0])
    rw [h0, hl, ← hs] at hsz
    have hsz : Src Tryd.prog i.size 40 z.v 0 [] w := hsz
    have hk : Tryd.prog.underlying 40 = _ := Tryd.underlying40
    have hrun : (Builtin.append_ #[40, 40] type #[.slice (some ⟨m, 0, none⟩) 1 1, z.v]).run Tryd.prog w = .ok (.slice (some ⟨m, 0, none⟩) 1 1) w := by
      have hc := hsz.cells
      have hln := hsz.len
      simp [Builtin.append_, run_underlying hk, sizeOf, typeInfo, hi, hln, hc, storeCells]
    have hop : (execOp ρ ⟨dst, .call ⟨.builtin .append, #[X, Y], #[40, 40]⟩, type, pos, after, guard⟩).run Tryd.prog w = .ok (.value (.slice (some ⟨m, 0, none⟩) 1 1)) w := by
      simp [execOp, resolve, invoke, builtin, hx, hv, hrun]
    unfold OpRun
    rw [hop]
    rw [hl]
    refine ⟨.inr (m, []), (one_v m x).symm, fun q hq => ?_, fun q hq => ?_, .refl _ _⟩
    · have hq : q ∈ (Ass.one m x).L := hq
      rw [one_L] at hq
      exact hw _ (hy q hq)
    · have hq : q ∈ (Ass.one m x).L := hq
      rw [one_L] at hq
      exact .inr ⟨q, hy q hq, rfl⟩
  · exact give_appA (Ass.one m x) z (by rw [one_L]; exact hy) hz (by rw [one_n, one_c]) h0 (by rw [one_n]; omega) (by rw [one_v]; exact hx) hv
end
theorem Ass.adr (y : Ass) {j : Int} (i : Nat) (e : j = i) (hi : i < y.n) {A : Facts} (hA : Sub y.L A) : ∀ w, Sx.Holds w A → (loadVar 29 (((y.o.getD ⟨0, 0, none⟩).add (j.toNat * 6)).add 0)).run Tryd.prog w = .ok (.int .u64 ((y.l.getD i default).a : Int)) w := by
  intro w hw
  subst e
  obtain ⟨b, k, h1, h2⟩ := y.h w (hA.holds hw) i hi
  rw [Int.toNat_natCast, h1]
  have hc : w.cell? ⟨b, k, none⟩ = some (.int .u64 ((y.l.getD i default).a : Int)) := by have := h2 0 _ (acw_cell _); simpa using this
  have e0 : (⟨b, k, none⟩ : Addr).add 0 = ⟨b, k, none⟩ := by rw [add_none]; rfl
  rw [e0]
  simp [loadVar, Tryd.isAgg29, run_load, hc]

/-! The sorted list, step by step. -/
def srtT (l : List Ac) (k : Nat) : List Ac := (l.take k).foldl (fun o x => if x.emp then o else insA x o) []
theorem srtT_0 (l : List Ac) : srtT l 0 = [] := by unfold srtT; rw [List.take_zero]; rfl
theorem srtT_len (l : List Ac) : srtT l l.length = srtA l := by unfold srtT srtA; rw [List.take_length]
theorem srtT_s {l : List Ac} {k : Nat} (h : k < l.length) : srtT l (k + 1) = if (l.getD k default).emp then srtT l k else insA (l.getD k default) (srtT l k) := by
  unfold srtT
  have e : l.take (k + 1) = l.take k ++ [l.getD k default] := by
    rw [List.take_succ_eq_append_getElem h]
    simp [List.getD, h]
  rw [e, List.foldl_append]
  rfl
theorem insA_len (x : Ac) (l : List Ac) : (insA x l).length = l.length + 1 := by
  induction l with
  | nil => rfl
  | cons y r ih => rw [insA]; split <;> simp [ih]
theorem srtT_le (l : List Ac) : ∀ k, (srtT l k).length ≤ k := by
  intro k
  induction k with
  | zero => rw [srtT_0]; exact Nat.le_refl _
  | succ k ih =>
    by_cases h : k < l.length
    · rw [srtT_s h]
      split
      · omega
      · rw [insA_len]; omega
    · have e : srtT l (k + 1) = srtT l k := by unfold srtT; rw [List.take_of_length_le (by omega), List.take_of_length_le (by omega)]
      rw [e]; omega
theorem asc_srtT {l : List Ac} (h : Once l) (k : Nat) : Asc (srtT l k) := by
  have h2 : Once (l.take k) := List.Nodup.sublist ((List.take_sublist k l).map _) h
  exact (foldl_srt (l.take k) [] List.Pairwise.nil (fun _ h => (by cases h)) (fun _ _ _ h => (by cases h)) h2).1
/-- The place of z in a sorted list. -/
theorem ins_at {z : Ac} : ∀ {o : List Ac} {j : Nat}, Asc o → j ≤ o.length → (∀ i, j ≤ i → i < o.length → z.a < (o.getD i default).a) → (∀ i, i < j → (o.getD i default).a ≤ z.a) → insA z o = o.take j ++ z :: o.drop j := by
  intro o
  induction o with
  | nil =>
    intro j _ hj _ _
    obtain rfl : j = 0 := by simpa using hj
    rfl
  | cons y r ih =>
    intro j h hj h1 h2
    cases j with
    | zero =>
      have : z.a < y.a := h1 0 (Nat.le_refl _) (Nat.zero_lt_succ _)
      rw [insA, if_pos this]
      rfl
    | succ j =>
      have hy : y.a ≤ z.a := h2 0 (Nat.zero_lt_succ _)
      rw [insA, if_neg (by omega), ih (List.pairwise_cons.1 h).2 (by simpa using hj) (fun i a b => h1 (i + 1) (Nat.succ_le_succ a) (Nat.succ_lt_succ b)) (fun i a => h2 (i + 1) (Nat.succ_lt_succ a))]
      rfl
theorem asc_le {o : List Ac} (h : Asc o) {i j : Nat} (hij : i ≤ j) (hj : j < o.length) : (o.getD i default).a ≤ (o.getD j default).a := by
  rcases Nat.eq_or_lt_of_le hij with e | e
  · rw [e]; exact Nat.le_refl _
  · have := List.pairwise_iff_getElem.1 h i j (by omega) hj e
    simp only [List.getD, List.getElem?_eq_getElem hj, List.getElem?_eq_getElem (show i < o.length by omega), Option.getD_some]
    exact Nat.le_of_lt this
structure OX (l : List Ac) where
  k : Nat
  hk : k ≤ l.length
  y : FrX (acws (srtT l k))
abbrev OX.s {l : List Ac} (t : OX l) : Ass := Ass.fr (srtT l t.k) t.y
def fr6 {a b : List Ac} (e : a = b) (x : FrX (acws a)) : FrX (acws b) := e ▸ x
theorem fr6_v {a b : List Ac} (e : a = b) (x : FrX (acws a)) : Value.slice (frO x) (lenB (acws a) 6) (frC 6 x) = .slice (frO (fr6 e x)) (lenB (acws b) 6) (frC 6 (fr6 e x)) := by subst e; rfl
theorem fr6_L {a b : List Ac} (e : a = b) (x : FrX (acws a)) : frL 58 (fr6 e x) = frL 58 x := by subst e; rfl
def ox0 (l : List Ac) : OX l := ⟨0, Nat.zero_le _, .inl (⟨by rw [srtT_0]; rfl⟩, none)⟩
theorem ox0_v (l : List Ac) : Value.slice none 0 0 = (ox0 l).s.v := by
  show Value.slice none 0 0 = .slice none (lenB (acws (srtT l 0)) 6) 0
  rw [srtT_0]; rfl
theorem srtT_same {l : List Ac} {k : Nat} (h : k < l.length) (e : (l.getD k default).emp) : srtT l k = srtT l (k + 1) := by rw [srtT_s h, if_pos e]
def OX.same {l : List Ac} (t : OX l) (h : t.k < l.length) (e : (l.getD t.k default).emp) : OX l := ⟨t.k + 1, h, fr6 (srtT_same h e) t.y⟩
/-- Places behind which all are greater. -/
abbrev JX (o : List Ac) (z : Ac) : Type := { j : Nat // j ≤ o.length ∧ ∀ i, j ≤ i → i < o.length → z.a < (o.getD i default).a }
def jx0 (o : List Ac) (z : Ac) : JX o z := ⟨o.length, Nat.le_refl _, fun i h1 h2 => absurd h2 (by omega)⟩
theorem jx_nx {o : List Ac} {z : Ac} (j : JX o z) (h0 : 0 < j.1) (h : decide (((o.getD (j.1 - 1) default).a : Int) > (z.a : Int)) = true) : j.1 - 1 ≤ o.length ∧ ∀ i, j.1 - 1 ≤ i → i < o.length → z.a < (o.getD i default).a := by
  have hg := of_decide_eq_true h
  refine ⟨by have := j.2.1; omega, fun i h1 h2 => ?_⟩
  by_cases e : i = j.1 - 1
  · rw [e]; omega
  · exact j.2.2 i (by omega) h2
def jxN {o : List Ac} {z : Ac} (j : JX o z) (h0 : 0 < j.1) (h : decide (((o.getD (j.1 - 1) default).a : Int) > (z.a : Int)) = true) : JX o z := ⟨j.1 - 1, jx_nx j h0 h⟩
theorem jx_ins {l : List Ac} {k : Nat} (ho : Once l) (h : k < l.length) (e : ¬ (l.getD k default).emp) (j : JX (srtT l k) (l.getD k default)) (hj : j.1 = 0 ∨ ¬ (l.getD k default).a < ((srtT l k).getD (j.1 - 1) default).a) :
    (srtT l k).take j.1 ++ l.getD k default :: (srtT l k).drop j.1 = srtT l (k + 1) := by
  rw [srtT_s h, if_neg e]
  refine (ins_at (asc_srtT ho k) j.2.1 j.2.2 fun i hi => ?_).symm
  rcases hj with hj | hj
  · omega
  · have h1 := asc_le (asc_srtT ho k) (i := i) (j := j.1 - 1) (by omega) (by have := j.2.1; omega)
    omega
def OX.ins {l : List Ac} (t : OX l) (ho : Once l) (h : t.k < l.length) (e : ¬ (l.getD t.k default).emp) (j : JX (srtT l t.k) (l.getD t.k default)) (hj : j.1 = 0 ∨ ¬ (l.getD t.k default).a < ((srtT l t.k).getD (j.1 - 1) default).a)
    (y : FrX (acws ((srtT l t.k).take j.1 ++ l.getD t.k default :: (srtT l t.k).drop j.1))) : OX l := ⟨t.k + 1, h, fr6 (jx_ins ho h e j hj) y⟩
theorem em_y {z : Ac} (h1 : z.b = 0) (h2 : ((z.n : Int) == 0) = true) : z.emp := ⟨h1, by have := eq_of_beq h2; omega⟩
theorem em_n {z : Ac} (h2 : ((z.n : Int) == 0) = false) : ¬ z.emp := fun e => by rw [e.2] at h2; exact absurd h2 (by decide)
theorem em_b {z : Ac} (h1 : ¬ z.b = 0) : ¬ z.emp := fun e => h1 e.1
theorem j_pos {j : Nat} (h : 0 < j) : decide ((j : Int) > 0) = true := decide_eq_true (by omega)
theorem j_zer {j : Nat} (h : ¬ 0 < j) : decide ((j : Int) > 0) = false := decide_eq_false (by omega)
theorem j_sub {j : Nat} (h : 0 < j) (h2 : j ≤ 2000000) : IntKind.i64.wrap ((j : Int) - 1) = ((j - 1 : Nat) : Int) := by rw [show (j : Int) - 1 = ((j - 1 : Nat) : Int) by omega, wrap_nat (by omega)]
theorem good_pontageref11_Ledger_Accounts : Good Tryd.prog 16 Tryd.f16 1 := ⟨Tryd.func16, by kernel_rfl, by kernel_rfl⟩
section
variable {ρ : Operand → Value} {dst : Option Tmp} {type : TypeId} {pos : String} {after : Array Edge} {guard : Option (Nat × Bool)}
theorem lp_subJ {a b c : Int} (h : IntKind.i64.wrap (a - b) = c) (A : Facts) {x y : Operand} (hx : ρ x = .int .i64 a := by rfl) (hy : ρ y = .int .i64 b := by rfl) :
    ∀ w, Sx.Holds w A → (execOp ρ ⟨dst, .binOp .sub 3 x y 3, type, pos, after, guard⟩).run Tryd.prog w = .ok (.value (.int .i64 c)) w := by
  intro w _
  have e : execOp ρ ⟨dst, .binOp .sub 3 x y 3, type, pos, after, guard⟩ = (do let v ← binOp .sub 3 (ρ x) (ρ y); pure (.value v)) := rfl
  rw [e, hx, hy, ← h]
  rfl
end
theorem ox_fin {l : List Ac} (t : OX l) (h : decide ((t.k : Int) < ((lenB (acws l) 6 : Nat) : Int)) = false) : srtT l t.k = srtA l := by
  have a1 := of_decide_eq_false h
  rw [lenB_a] at a1
  have := t.hk
  rw [show t.k = l.length by omega, srtT_len]
set_option maxHeartbeats 8000000 in
theorem r_accounts (p : Nat) (l : List Ac) (x : FrX (acws l)) (v : Nat → Nat) (hl : l.length ≤ 400000) (ho : Once l) (hb : ∀ i, (l.getD i default).b < B256) (A : Facts) : CallR Tryd.prog 16 [.pointer (some ⟨p, 0, none⟩)] A ((rF p l x v)) (FrX (acws (srtA l))) (fun y => .slice (frO y) (lenB (acws (srtA l)) 6) (frC 6 y)) (fun y => frL 58 y) :=
  reads_of_vcF Tryd.mixed good_pontageref11_Ledger_Accounts (args := [(.pointer (some ⟨p, 0, none⟩), [])]) (B := A) (F := (rF p l x v)) (O := [.invT (OX l) (fun t : OX l => ⟨60, [(0, .v (.pointer (some ⟨p, 0, none⟩)) []), (3, .v t.s.v t.s.L), (4, .v (.int .i64 ((t.k : Nat) : Int)) [])], [], 190⟩) (fun _ => [(0, fun G => G = (rF p l x v))]) (fun t => l.length - t.k) (fun t => [.opt 3 [(4, .rdT 0 Unit () (fun _ => .slice (frO x) (lenB (acws l) 6) (frC 6 x)) (fun _ => []))], .both [.opt 5 [(3, .rdT 0 Unit () (fun _ => .slice (frO x) (lenB (acws l) 6) (frC 6 x)) (fun _ => [])), (6, .rdT 0 Unit () (fun _ => AV (l.getD t.k default)) (fun _ => []))], .alt [((l.getD t.k default).b = 0, [(2, det (.bool (decide ((l.getD t.k default).b = 0)))), (4, .yes), (5, .yes), (6, .yes), (7, .yes)], [.both [] [.invT (JX (srtT l t.k) (l.getD t.k default)) (fun j : JX (srtT l t.k) (l.getD t.k default) => ⟨60, [(0, .v (.pointer (some ⟨p, 0, none⟩)) []), (3, .v t.s.v t.s.L), (4, .v (.int .i64 ((t.k : Nat) : Int)) []), (5, .p 204 0), (6, .v (.int .i64 ((j.1 : Nat) : Int)) [])], [(204, ⟨58, acw (l.getD t.k default), []⟩)], 390⟩) (fun _ => [(0, fun G => G = (rF p l x v))]) (fun j => j.1) (fun j => [.alt [(0 < j.1, [(3, .yes), (4, .yes), (5, .ld (.int .i64 ((j.1 - 1 : Nat) : Int))), (6, .yes), (7, .yes), (8, .ld (.int .u64 (((srtT l t.k).getD (j.1 - 1) default).a : Int))), (9, .yes), (10, .yes), (11, .yes), (12, .yes)], [.both [.opt 9 [(1, .ld (.int .i64 ((j.1 - 1 : Nat) : Int)))]] [.opt 10 [(3, .call Unit () (fun _ => (t.s.full j.1 (show j.1 ≤ t.s.n by show j.1 ≤ lenB (acws (srtT l t.k)) 6; rw [lenB_a]; exact j.2.1)).v) (fun _ => t.s.L)), (5, .call Nat 0 (fun m => .slice (some ⟨m, 0, none⟩) 1 1) (fun m => [(m, .cells (acw (l.getD t.k default)).toArray 58)])), (9, .call (FrX (acws ((l.getD t.k default) :: (srtT l t.k).drop j.1))) (.inr (0, [])) (fun y1 => .slice (frO y1) (lenB (acws ((l.getD t.k default) :: (srtT l t.k).drop j.1)) 6) (frC 6 y1)) (fun y1 => frL 58 y1)), (10, .call (FrX (acws ((srtT l t.k).take j.1 ++ (l.getD t.k default) :: (srtT l t.k).drop j.1))) (.inr (0, [])) (fun y2 => .slice (frO y2) (lenB (acws ((srtT l t.k).take j.1 ++ (l.getD t.k default) :: (srtT l t.k).drop j.1)) 6) (frC 6 y2)) (fun y2 => frL 58 y2))]]]), (True, [(3, .no), (4, .no), (5, .no), (6, .no), (7, .no), (8, .no), (9, .no), (10, .no), (11, .no), (12, .no)], [.no, .opt 10 [(3, .call Unit () (fun _ => (t.s.full j.1 (show j.1 ≤ t.s.n by show j.1 ≤ lenB (acws (srtT l t.k)) 6; rw [lenB_a]; exact j.2.1)).v) (fun _ => t.s.L)), (5, .call Nat 0 (fun m => .slice (some ⟨m, 0, none⟩) 1 1) (fun m => [(m, .cells (acw (l.getD t.k default)).toArray 58)])), (9, .call (FrX (acws ((l.getD t.k default) :: (srtT l t.k).drop j.1))) (.inr (0, [])) (fun y1 => .slice (frO y1) (lenB (acws ((l.getD t.k default) :: (srtT l t.k).drop j.1)) 6) (frC 6 y1)) (fun y1 => frL 58 y1)), (10, .call (FrX (acws ((srtT l t.k).take j.1 ++ (l.getD t.k default) :: (srtT l t.k).drop j.1))) (.inr (0, [])) (fun y2 => .slice (frO y2) (lenB (acws ((srtT l t.k).take j.1 ++ (l.getD t.k default) :: (srtT l t.k).drop j.1)) 6) (frC 6 y2)) (fun y2 => frL 58 y2))]])]])]]), (True, [(2, det (.bool (decide ((l.getD t.k default).b = 0)))), (4, .no), (5, .no), (6, .no), (7, .no)], [.no, .invT (JX (srtT l t.k) (l.getD t.k default)) (fun j : JX (srtT l t.k) (l.getD t.k default) => ⟨60, [(0, .v (.pointer (some ⟨p, 0, none⟩)) []), (3, .v t.s.v t.s.L), (4, .v (.int .i64 ((t.k : Nat) : Int)) []), (5, .p 204 0), (6, .v (.int .i64 ((j.1 : Nat) : Int)) [])], [(204, ⟨58, acw (l.getD t.k default), []⟩)], 390⟩) (fun _ => [(0, fun G => G = (rF p l x v))]) (fun j => j.1) (fun j => [.alt [(0 < j.1, [(3, .yes), (4, .yes), (5, .ld (.int .i64 ((j.1 - 1 : Nat) : Int))), (6, .yes), (7, .yes), (8, .ld (.int .u64 (((srtT l t.k).getD (j.1 - 1) default).a : Int))), (9, .yes), (10, .yes), (11, .yes), (12, .yes)], [.both [.opt 9 [(1, .ld (.int .i64 ((j.1 - 1 : Nat) : Int)))]] [.opt 10 [(3, .call Unit () (fun _ => (t.s.full j.1 (show j.1 ≤ t.s.n by show j.1 ≤ lenB (acws (srtT l t.k)) 6; rw [lenB_a]; exact j.2.1)).v) (fun _ => t.s.L)), (5, .call Nat 0 (fun m => .slice (some ⟨m, 0, none⟩) 1 1) (fun m => [(m, .cells (acw (l.getD t.k default)).toArray 58)])), (9, .call (FrX (acws ((l.getD t.k default) :: (srtT l t.k).drop j.1))) (.inr (0, [])) (fun y1 => .slice (frO y1) (lenB (acws ((l.getD t.k default) :: (srtT l t.k).drop j.1)) 6) (frC 6 y1)) (fun y1 => frL 58 y1)), (10, .call (FrX (acws ((srtT l t.k).take j.1 ++ (l.getD t.k default) :: (srtT l t.k).drop j.1))) (.inr (0, [])) (fun y2 => .slice (frO y2) (lenB (acws ((srtT l t.k).take j.1 ++ (l.getD t.k default) :: (srtT l t.k).drop j.1)) 6) (frC 6 y2)) (fun y2 => frL 58 y2))]]]), (True, [(3, .no), (4, .no), (5, .no), (6, .no), (7, .no), (8, .no), (9, .no), (10, .no), (11, .no), (12, .no)], [.no, .opt 10 [(3, .call Unit () (fun _ => (t.s.full j.1 (show j.1 ≤ t.s.n by show j.1 ≤ lenB (acws (srtT l t.k)) 6; rw [lenB_a]; exact j.2.1)).v) (fun _ => t.s.L)), (5, .call Nat 0 (fun m => .slice (some ⟨m, 0, none⟩) 1 1) (fun m => [(m, .cells (acw (l.getD t.k default)).toArray 58)])), (9, .call (FrX (acws ((l.getD t.k default) :: (srtT l t.k).drop j.1))) (.inr (0, [])) (fun y1 => .slice (frO y1) (lenB (acws ((l.getD t.k default) :: (srtT l t.k).drop j.1)) 6) (frC 6 y1)) (fun y1 => frL 58 y1)), (10, .call (FrX (acws ((srtT l t.k).take j.1 ++ (l.getD t.k default) :: (srtT l t.k).drop j.1))) (.inr (0, [])) (fun y2 => .slice (frO y2) (lenB (acws ((srtT l t.k).take j.1 ++ (l.getD t.k default) :: (srtT l t.k).drop j.1)) 6) (frC 6 y2)) (fun y2 => frL 58 y2))]])]])])]] []])]) (.app ((.refl _)) (.app (.nil _) (.nil _))) (rSeqK (fun _ hK20 => hK20 _ _ _ (rSeqK (fun _ hK21 => hK21 _ _ _ (rSeqK (fun _ hK22 => rSeqK (fun _ hK23 => hK23 _ _ _ (rBlkK (fun _ hK24 => rInvTK (⟨ox0 l, ⟨rfl, ⟨⟨rfl, nofun⟩, ⟨ox0_v l, nofun⟩, ⟨rfl, nofun⟩, trivial⟩, trivial⟩, ⟨fun _ g => g, trivial⟩⟩) (fun t _ hK25 => rSeqK (fun _ hK26 => rSeqK (fun _ hK27 => ⟨fun _ g => by subst g; exact rr_lda, fun _ => hK27 _ _ _ (⟨fun h1 => hK26 _ _ _ (rSeqK (fun _ hK28 => rBlkK (fun _ hK29 => rSeqK (fun _ hK30 => ⟨fun _ g => by subst g; exact rr_lda, fun _ => ⟨rr_idx (Int.natCast_nonneg _) (rl_i (rl_g h1)), ⟨fun _ g => by subst g; exact rr_acc t.k rfl (rl_g h1), fun _ => hK30 _ _ _ (rSeqK (fun _ hK31 => rSeqK (fun _ hK32 => ⟨fun h2 => ⟨d_zero _ (hb _) _, fun _ => ⟨gtt (decide_eq_true h2), ⟨gtt (decide_eq_true h2), ⟨gtt (decide_eq_true h2), ⟨(decide_eq_true h2), hK32 _ _ _ (⟨fun h3 => hK31 _ _ _ (hK29 _ _ _ (hK28 _ _ _ (hK25 _ _ _ (⟨t.same (rl_g h1) (em_y h2 h3), by have := rl_g h1; show l.length - (t.k + 1) < l.length - t.k; omega, ⟨rfl, ⟨⟨rfl, nofun⟩, ⟨fr6_v _ _, fun q h => by have h : q ∈ frL 58 (fr6 (srtT_same (rl_g h1) (em_y h2 h3)) t.y) := h; rw [fr6_L] at h; exact h⟩, ⟨congrArg _ (add1 (by have := rl_g h1; omega)), nofun⟩, trivial⟩, trivial⟩, ⟨fun _ g => g, trivial⟩⟩)))), fun h3 => hK31 _ _ _ (rSeqK (fun _ hK33 => hK33 _ _ _ (rSeqK (fun _ hK34 => rBlkK (fun _ hK35 => rInvTK (⟨jx0 _ _, ⟨rfl, ⟨⟨rfl, nofun⟩, ⟨rfl, fun _ h => h⟩, ⟨rfl, nofun⟩, ⟨rfl, rfl, rfl⟩, ⟨congrArg (fun n : Nat => Value.int .i64 (n : Int)) (lenB_a _), nofun⟩, trivial⟩, ⟨⟨rfl, rfl, nofun⟩, trivial⟩⟩, ⟨fun _ g => g, trivial⟩⟩) (fun j _ hK36 => rSeqK (fun _ hK37 => rSeqK (fun _ hK38 => ⟨fun h4 => ⟨gtt (j_pos h4), ⟨gtt (j_pos h4), ⟨⟨gtt (j_pos h4), lp_subJ (j_sub h4 (by have := j.2.1; have := srtT_le l t.k; have := t.hk; omega)) _⟩, ⟨⟨gtt (j_pos h4), t.s.idx (Int.natCast_nonneg _) (by show ((j.1 - 1 : Nat) : Int) < ((lenB (acws (srtT l t.k)) 6 : Nat) : Int); rw [lenB_a]; have := j.2.1; omega)⟩, ⟨gtt (j_pos h4), ⟨⟨gtt (j_pos h4), t.s.adr (j.1 - 1) rfl (by show j.1 - 1 < lenB (acws (srtT l t.k)) 6; rw [lenB_a]; have := j.2.1; omega) (by intro q h; simp [h])⟩, ⟨gtt (j_pos h4), ⟨gtt (j_pos h4), ⟨gtt (j_pos h4), ⟨(j_pos h4), hK38 _ _ _ (⟨fun h5 => hK37 _ _ _ (rBlkK (fun _ hK39 => ⟨lp_subJ (j_sub h4 (by have := j.2.1; have := srtT_le l t.k; have := t.hk; omega)) _, hK39 _ _ _ (hK36 _ _ _ (⟨jxN j h4 h5, by show j.1 - 1 < j.1; omega, ⟨rfl, ⟨⟨rfl, nofun⟩, ⟨rfl, fun _ h => h⟩, ⟨rfl, nofun⟩, ⟨rfl, rfl, rfl⟩, ⟨rfl, nofun⟩, trivial⟩, ⟨⟨rfl, rfl, nofun⟩, trivial⟩⟩, ⟨fun _ g => g, trivial⟩⟩))⟩)), fun h5 => hK37 _ _ _ (hK36 _ _ _ (hK35 _ _ _ (hK34 _ _ _ (⟨give_fullA t.s j.1 (show j.1 ≤ t.s.n by show j.1 ≤ lenB (acws (srtT l t.k)) 6; rw [lenB_a]; exact j.2.1) (by intro q h; simp [h]), fun _ => ⟨build_a (l.getD t.k default) _, fun m => ⟨⟨Int.natCast_nonneg _, Int.ofNat_le.2 (show j.1 ≤ t.s.n by show j.1 ≤ lenB (acws (srtT l t.k)) 6; rw [lenB_a]; exact j.2.1), Int.ofNat_le.2 t.s.hc⟩, ⟨give_app1 m (l.getD t.k default) (t.s.from j.1 (show j.1 ≤ t.s.n by show j.1 ≤ lenB (acws (srtT l t.k)) 6; rw [lenB_a]; exact j.2.1)) (by intro q h; simp at h; simp [h]) (by intro q h; have h : q ∈ t.s.L := h; simp [h]) (by show lenB (acws (srtT l t.k)) 6 - j.1 ≤ 900000; rw [lenB_a]; have := srtT_le l t.k; have := t.hk; omega), fun y1 => ⟨give_appA (t.s.full j.1 (show j.1 ≤ t.s.n by show j.1 ≤ lenB (acws (srtT l t.k)) 6; rw [lenB_a]; exact j.2.1)) (Ass.fr ((l.getD t.k default) :: (srtT l t.k).drop j.1) y1) (by intro q h; have h : q ∈ t.s.L := h; simp [h]) (by intro q h; have h : q ∈ frL 58 y1 := h; simp [h]) rfl (by show 0 < lenB (acws ((l.getD t.k default) :: (srtT l t.k).drop j.1)) 6; rw [lenB_a]; simp) (by show j.1 + lenB (acws ((l.getD t.k default) :: (srtT l t.k).drop j.1)) 6 ≤ 1000000; rw [lenB_a]; simp; have := j.2.1; have := srtT_le l t.k; have := t.hk; omega), fun y2 => hK29 _ _ _ (hK28 _ _ _ (hK25 _ _ _ (⟨t.ins ho (rl_g h1) (em_n h3) j (.inr (fun e => of_decide_eq_false h5 (by omega))) y2, by have := rl_g h1; show l.length - (t.k + 1) < l.length - t.k; omega, ⟨rfl, ⟨⟨rfl, nofun⟩, ⟨fr6_v _ _, fun q h => by have h : q ∈ frL 58 (fr6 (jx_ins ho (rl_g h1) (em_n h3) j (.inr (fun e => of_decide_eq_false h5 (by omega)))) y2) := h; rw [fr6_L] at h; exact h⟩, ⟨congrArg _ (add1 (by have := rl_g h1; omega)), nofun⟩, trivial⟩, trivial⟩, ⟨fun _ g => g, trivial⟩⟩)))⟩⟩⟩⟩⟩))))⟩)⟩⟩⟩⟩⟩⟩⟩⟩⟩⟩, fun h4 => ⟨fun _ => ⟨gtf (j_zer h4), ⟨gtf (j_zer h4), ⟨gtf (j_zer h4), ⟨gtf (j_zer h4), ⟨gtf (j_zer h4), ⟨gtf (j_zer h4), ⟨gtf (j_zer h4), ⟨gtf (j_zer h4), ⟨gtf (j_zer h4), ⟨(j_zer h4), hK38 _ _ _ (⟨rfl, hK37 _ _ _ (hK36 _ _ _ (hK35 _ _ _ (hK34 _ _ _ (⟨give_fullA t.s j.1 (show j.1 ≤ t.s.n by show j.1 ≤ lenB (acws (srtT l t.k)) 6; rw [lenB_a]; exact j.2.1) (by intro q h; simp [h]), fun _ => ⟨build_a (l.getD t.k default) _, fun m => ⟨⟨Int.natCast_nonneg _, Int.ofNat_le.2 (show j.1 ≤ t.s.n by show j.1 ≤ lenB (acws (srtT l t.k)) 6; rw [lenB_a]; exact j.2.1), Int.ofNat_le.2 t.s.hc⟩, ⟨give_app1 m (l.getD t.k default) (t.s.from j.1 (show j.1 ≤ t.s.n by show j.1 ≤ lenB (acws (srtT l t.k)) 6; rw [lenB_a]; exact j.2.1)) (by intro q h; simp at h; simp [h]) (by intro q h; have h : q ∈ t.s.L := h; simp [h]) (by show lenB (acws (srtT l t.k)) 6 - j.1 ≤ 900000; rw [lenB_a]; have := srtT_le l t.k; have := t.hk; omega), fun y1 => ⟨give_appA (t.s.full j.1 (show j.1 ≤ t.s.n by show j.1 ≤ lenB (acws (srtT l t.k)) 6; rw [lenB_a]; exact j.2.1)) (Ass.fr ((l.getD t.k default) :: (srtT l t.k).drop j.1) y1) (by intro q h; have h : q ∈ t.s.L := h; simp [h]) (by intro q h; have h : q ∈ frL 58 y1 := h; simp [h]) rfl (by show 0 < lenB (acws ((l.getD t.k default) :: (srtT l t.k).drop j.1)) 6; rw [lenB_a]; simp) (by show j.1 + lenB (acws ((l.getD t.k default) :: (srtT l t.k).drop j.1)) 6 ≤ 1000000; rw [lenB_a]; simp; have := j.2.1; have := srtT_le l t.k; have := t.hk; omega), fun y2 => hK29 _ _ _ (hK28 _ _ _ (hK25 _ _ _ (⟨t.ins ho (rl_g h1) (em_n h3) j (.inl (Nat.eq_zero_of_not_pos h4)) y2, by have := rl_g h1; show l.length - (t.k + 1) < l.length - t.k; omega, ⟨rfl, ⟨⟨rfl, nofun⟩, ⟨fr6_v _ _, fun q h => by have h : q ∈ frL 58 (fr6 (jx_ins ho (rl_g h1) (em_n h3) j (.inl (Nat.eq_zero_of_not_pos h4))) y2) := h; rw [fr6_L] at h; exact h⟩, ⟨congrArg _ (add1 (by have := rl_g h1; omega)), nofun⟩, trivial⟩, trivial⟩, ⟨fun _ g => g, trivial⟩⟩)))⟩⟩⟩⟩⟩))))⟩)⟩⟩⟩⟩⟩⟩⟩⟩⟩⟩, fun h => (h trivial).elim⟩⟩))))))))⟩)⟩⟩⟩⟩⟩, fun h2 => ⟨fun _ => ⟨d_zero _ (hb _) _, fun _ => ⟨gtf (decide_eq_false h2), ⟨gtf (decide_eq_false h2), ⟨gtf (decide_eq_false h2), ⟨(decide_eq_false h2), hK32 _ _ _ (⟨rfl, hK31 _ _ _ (rSeqK (fun _ hK40 => hK40 _ _ _ (rSeqK (fun _ hK41 => rBlkK (fun _ hK42 => rInvTK (⟨jx0 _ _, ⟨rfl, ⟨⟨rfl, nofun⟩, ⟨rfl, fun _ h => h⟩, ⟨rfl, nofun⟩, ⟨rfl, rfl, rfl⟩, ⟨congrArg (fun n : Nat => Value.int .i64 (n : Int)) (lenB_a _), nofun⟩, trivial⟩, ⟨⟨rfl, rfl, nofun⟩, trivial⟩⟩, ⟨fun _ g => g, trivial⟩⟩) (fun j _ hK43 => rSeqK (fun _ hK44 => rSeqK (fun _ hK45 => ⟨fun h4 => ⟨gtt (j_pos h4), ⟨gtt (j_pos h4), ⟨⟨gtt (j_pos h4), lp_subJ (j_sub h4 (by have := j.2.1; have := srtT_le l t.k; have := t.hk; omega)) _⟩, ⟨⟨gtt (j_pos h4), t.s.idx (Int.natCast_nonneg _) (by show ((j.1 - 1 : Nat) : Int) < ((lenB (acws (srtT l t.k)) 6 : Nat) : Int); rw [lenB_a]; have := j.2.1; omega)⟩, ⟨gtt (j_pos h4), ⟨⟨gtt (j_pos h4), t.s.adr (j.1 - 1) rfl (by show j.1 - 1 < lenB (acws (srtT l t.k)) 6; rw [lenB_a]; have := j.2.1; omega) (by intro q h; simp [h])⟩, ⟨gtt (j_pos h4), ⟨gtt (j_pos h4), ⟨gtt (j_pos h4), ⟨(j_pos h4), hK45 _ _ _ (⟨fun h5 => hK44 _ _ _ (rBlkK (fun _ hK46 => ⟨lp_subJ (j_sub h4 (by have := j.2.1; have := srtT_le l t.k; have := t.hk; omega)) _, hK46 _ _ _ (hK43 _ _ _ (⟨jxN j h4 h5, by show j.1 - 1 < j.1; omega, ⟨rfl, ⟨⟨rfl, nofun⟩, ⟨rfl, fun _ h => h⟩, ⟨rfl, nofun⟩, ⟨rfl, rfl, rfl⟩, ⟨rfl, nofun⟩, trivial⟩, ⟨⟨rfl, rfl, nofun⟩, trivial⟩⟩, ⟨fun _ g => g, trivial⟩⟩))⟩)), fun h5 => hK44 _ _ _ (hK43 _ _ _ (hK42 _ _ _ (hK41 _ _ _ (⟨give_fullA t.s j.1 (show j.1 ≤ t.s.n by show j.1 ≤ lenB (acws (srtT l t.k)) 6; rw [lenB_a]; exact j.2.1) (by intro q h; simp [h]), fun _ => ⟨build_a (l.getD t.k default) _, fun m => ⟨⟨Int.natCast_nonneg _, Int.ofNat_le.2 (show j.1 ≤ t.s.n by show j.1 ≤ lenB (acws (srtT l t.k)) 6; rw [lenB_a]; exact j.2.1), Int.ofNat_le.2 t.s.hc⟩, ⟨give_app1 m (l.getD t.k default) (t.s.from j.1 (show j.1 ≤ t.s.n by show j.1 ≤ lenB (acws (srtT l t.k)) 6; rw [lenB_a]; exact j.2.1)) (by intro q h; simp at h; simp [h]) (by intro q h; have h : q ∈ t.s.L := h; simp [h]) (by show lenB (acws (srtT l t.k)) 6 - j.1 ≤ 900000; rw [lenB_a]; have := srtT_le l t.k; have := t.hk; omega), fun y1 => ⟨give_appA (t.s.full j.1 (show j.1 ≤ t.s.n by show j.1 ≤ lenB (acws (srtT l t.k)) 6; rw [lenB_a]; exact j.2.1)) (Ass.fr ((l.getD t.k default) :: (srtT l t.k).drop j.1) y1) (by intro q h; have h : q ∈ t.s.L := h; simp [h]) (by intro q h; have h : q ∈ frL 58 y1 := h; simp [h]) rfl (by show 0 < lenB (acws ((l.getD t.k default) :: (srtT l t.k).drop j.1)) 6; rw [lenB_a]; simp) (by show j.1 + lenB (acws ((l.getD t.k default) :: (srtT l t.k).drop j.1)) 6 ≤ 1000000; rw [lenB_a]; simp; have := j.2.1; have := srtT_le l t.k; have := t.hk; omega), fun y2 => hK29 _ _ _ (hK28 _ _ _ (hK25 _ _ _ (⟨t.ins ho (rl_g h1) (em_b h2) j (.inr (fun e => of_decide_eq_false h5 (by omega))) y2, by have := rl_g h1; show l.length - (t.k + 1) < l.length - t.k; omega, ⟨rfl, ⟨⟨rfl, nofun⟩, ⟨fr6_v _ _, fun q h => by have h : q ∈ frL 58 (fr6 (jx_ins ho (rl_g h1) (em_b h2) j (.inr (fun e => of_decide_eq_false h5 (by omega)))) y2) := h; rw [fr6_L] at h; exact h⟩, ⟨congrArg _ (add1 (by have := rl_g h1; omega)), nofun⟩, trivial⟩, trivial⟩, ⟨fun _ g => g, trivial⟩⟩)))⟩⟩⟩⟩⟩))))⟩)⟩⟩⟩⟩⟩⟩⟩⟩⟩⟩, fun h4 => ⟨fun _ => ⟨gtf (j_zer h4), ⟨gtf (j_zer h4), ⟨gtf (j_zer h4), ⟨gtf (j_zer h4), ⟨gtf (j_zer h4), ⟨gtf (j_zer h4), ⟨gtf (j_zer h4), ⟨gtf (j_zer h4), ⟨gtf (j_zer h4), ⟨(j_zer h4), hK45 _ _ _ (⟨rfl, hK44 _ _ _ (hK43 _ _ _ (hK42 _ _ _ (hK41 _ _ _ (⟨give_fullA t.s j.1 (show j.1 ≤ t.s.n by show j.1 ≤ lenB (acws (srtT l t.k)) 6; rw [lenB_a]; exact j.2.1) (by intro q h; simp [h]), fun _ => ⟨build_a (l.getD t.k default) _, fun m => ⟨⟨Int.natCast_nonneg _, Int.ofNat_le.2 (show j.1 ≤ t.s.n by show j.1 ≤ lenB (acws (srtT l t.k)) 6; rw [lenB_a]; exact j.2.1), Int.ofNat_le.2 t.s.hc⟩, ⟨give_app1 m (l.getD t.k default) (t.s.from j.1 (show j.1 ≤ t.s.n by show j.1 ≤ lenB (acws (srtT l t.k)) 6; rw [lenB_a]; exact j.2.1)) (by intro q h; simp at h; simp [h]) (by intro q h; have h : q ∈ t.s.L := h; simp [h]) (by show lenB (acws (srtT l t.k)) 6 - j.1 ≤ 900000; rw [lenB_a]; have := srtT_le l t.k; have := t.hk; omega), fun y1 => ⟨give_appA (t.s.full j.1 (show j.1 ≤ t.s.n by show j.1 ≤ lenB (acws (srtT l t.k)) 6; rw [lenB_a]; exact j.2.1)) (Ass.fr ((l.getD t.k default) :: (srtT l t.k).drop j.1) y1) (by intro q h; have h : q ∈ t.s.L := h; simp [h]) (by intro q h; have h : q ∈ frL 58 y1 := h; simp [h]) rfl (by show 0 < lenB (acws ((l.getD t.k default) :: (srtT l t.k).drop j.1)) 6; rw [lenB_a]; simp) (by show j.1 + lenB (acws ((l.getD t.k default) :: (srtT l t.k).drop j.1)) 6 ≤ 1000000; rw [lenB_a]; simp; have := j.2.1; have := srtT_le l t.k; have := t.hk; omega), fun y2 => hK29 _ _ _ (hK28 _ _ _ (hK25 _ _ _ (⟨t.ins ho (rl_g h1) (em_b h2) j (.inl (Nat.eq_zero_of_not_pos h4)) y2, by have := rl_g h1; show l.length - (t.k + 1) < l.length - t.k; omega, ⟨rfl, ⟨⟨rfl, nofun⟩, ⟨fr6_v _ _, fun q h => by have h : q ∈ frL 58 (fr6 (jx_ins ho (rl_g h1) (em_b h2) j (.inl (Nat.eq_zero_of_not_pos h4))) y2) := h; rw [fr6_L] at h; exact h⟩, ⟨congrArg _ (add1 (by have := rl_g h1; omega)), nofun⟩, trivial⟩, trivial⟩, ⟨fun _ g => g, trivial⟩⟩)))⟩⟩⟩⟩⟩))))⟩)⟩⟩⟩⟩⟩⟩⟩⟩⟩⟩, fun h => (h trivial).elim⟩⟩))))))))⟩)⟩⟩⟩⟩⟩, fun h => (h trivial).elim⟩⟩)))⟩⟩⟩)))), fun h1 => hK26 _ _ _ (hK25 _ _ _ (hK24 _ _ _ (hK22 _ _ _ (rSeqK (fun _ hK47 => hK47 _ _ _ (⟨fr6 (ox_fin t h1) t.y, fr6_v _ _, fun q h => by have h : q ∈ frL 58 (fr6 (ox_fin t h1) t.y) := h; rw [fr6_L] at h; have h : q ∈ t.s.L := h; simp [h], fun _ g => g, trivial⟩))))))⟩)⟩))))))))))))
theorem rs_accounts {p : Nat} {L : Led} {c : Nat} {F : Facts} (g : rqL p L c F) (hL : LOk L) (hc : c ≤ 400000) (A : Facts) : CallR Tryd.prog 16 [.pointer (some ⟨p, 0, none⟩)] A F (FrX (acws L.acc)) (fun y => .slice (frO y) (lenB (acws L.acc) 6) (frC 6 y)) (fun y => frL 58 y) := by
  obtain ⟨l, hs, hl, x, _, _, rfl⟩ := g
  have e := srt_eq hs.once hL.asc hL.full hs.get
  rw [← e]
  exact r_accounts p l x L.v (Nat.le_trans hl hc) hs.once (same_b hs hL) A
end Go.Proofs.YtkibbcomfjhgpaaDoor

