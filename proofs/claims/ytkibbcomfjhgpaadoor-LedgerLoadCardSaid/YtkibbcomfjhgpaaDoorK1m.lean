/- Layer 11: the map of accounts: what a map's block holds, and what a lookup, a store and a removal do. No conditions. -/
import Derived.Test.YtkibbcomfjhgpaaDoorK1n
import Derived.Test.YtkibbcomfjhgpaaDoorSxt
import Derived.MapKept
import Derived.Carry
namespace Go.Proofs.YtkibbcomfjhgpaaDoor
open Go.RowKit Sx
set_option maxRecDepth 100000

/-- An account as a value. -/
abbrev AV (x : Ac) : Value := .agg #[.int .u64 x.a, .int .u64 (limb x.b 0), .int .u64 (limb x.b 1), .int .u64 (limb x.b 2), .int .u64 (limb x.b 3), .int .u64 x.n]
/-- Its words. -/
abbrev acw (x : Ac) : List Value := [.int .u64 x.a, .int .u64 (limb x.b 0), .int .u64 (limb x.b 1), .int .u64 (limb x.b 2), .int .u64 (limb x.b 3), .int .u64 x.n]
def ent (q : Ac × Nat) : MapEntry := ⟨.int .u64 q.1.a, AV q.1, q.2⟩
abbrev ents (l : List (Ac × Nat)) : List MapEntry := l.map ent
/-- The accounts of a map in the order of its entries: each once, none empty, with the lookups of acc; each entry with a stamp of its own. -/
structure MOk (l : List (Ac × Nat)) (clock : Nat) (acc : List Ac) : Prop where
  once : Once (l.map (·.1))
  born : (l.map (·.2)).Nodup
  old : ∀ q ∈ l, q.2 < clock
  full : ∀ q ∈ l, ¬ q.1.emp
  get : ∀ a, getA (l.map (·.1)) a = getA acc a
/-- What a lookup gives: the account, or nothing at all. -/
def lkA (acc : List Ac) (a : Nat) : Ac := if (getA acc a).emp then ⟨0, 0, 0⟩ else getA acc a
theorem lkA_b (acc : List Ac) (a : Nat) : (lkA acc a).b = (getA acc a).b := by
  unfold lkA; split
  · rename_i h; exact h.1.symm
  · rfl
theorem lkA_n (acc : List Ac) (a : Nat) : (lkA acc a).n = (getA acc a).n := by
  unfold lkA; split
  · rename_i h; exact h.2.symm
  · rfl
theorem MOk.nil : MOk [] 0 [] := ⟨List.nodup_nil, List.nodup_nil, fun _ h => (by cases h), fun _ h => (by cases h), fun _ => rfl⟩

/-- The place of an account. -/
def fndM : List (Ac × Nat) → Nat → Nat → Option (Nat × Value)
  | [], _, _ => none
  | q :: r, a, k => if q.1.a = a then some (k, AV q.1) else fndM r a (k + 1)
theorem findNow_ents (l : List (Ac × Nat)) (a : Nat) : ∀ k, Instr.findNow (.int .u64) (.int .u64 (a : Int)) (ents l) k = some (fndM l a k) := by
  induction l with
  | nil => intro k; rfl
  | cons q r ih =>
    intro k
    show Instr.findNow (.int .u64) (.int .u64 (a : Int)) (ent q :: ents r) k = _
    unfold Instr.findNow
    simp only [ent, Instr.sameNow, if_true]
    rw [fndM]
    by_cases h : q.1.a = a
    · rw [if_pos h, h]; simp
    · rw [if_neg h, show ((a : Int) == (q.1.a : Int)) = false by simp; omega]
      exact ih (k + 1)
theorem fndM_none {l : List (Ac × Nat)} {a k : Nat} (h : fndM l a k = none) : ∀ q ∈ l, q.1.a ≠ a := by
  induction l generalizing k with
  | nil => intro q hq; cases hq
  | cons q r ih =>
    rw [fndM] at h
    by_cases e : q.1.a = a
    · rw [if_pos e] at h; cases h
    · rw [if_neg e] at h
      intro z hz
      rcases List.mem_cons.1 hz with rfl | hz
      · exact e
      · exact ih h z hz
theorem fndM_some {l : List (Ac × Nat)} {a k i : Nat} {v : Value} (h : fndM l a k = some (i, v)) : ∃ j q, i = k + j ∧ l[j]? = some q ∧ q.1.a = a ∧ v = AV q.1 ∧ ∀ t z, t < j → l[t]? = some z → z.1.a ≠ a := by
  induction l generalizing k with
  | nil => cases h
  | cons q r ih =>
    rw [fndM] at h
    by_cases e : q.1.a = a
    · rw [if_pos e] at h
      cases h
      exact ⟨0, q, rfl, rfl, e, rfl, fun t _ ht => by omega⟩
    · rw [if_neg e] at h
      obtain ⟨j, z, h1, h2, h3, h4, h5⟩ := ih h
      refine ⟨j + 1, z, by omega, by simpa using h2, h3, h4, fun t y ht hy => ?_⟩
      cases t with
      | zero => simp at hy; rw [← hy]; exact e
      | succ t => exact h5 t y (by omega) (by simpa using hy)
theorem MOk.lk {l : List (Ac × Nat)} {clock : Nat} {acc : List Ac} (h : MOk l clock acc) (a : Nat) :
    (fndM l a 0 = none ∧ lkA acc a = ⟨0, 0, 0⟩) ∨ ∃ i, fndM l a 0 = some (i, AV (lkA acc a)) := by
  cases e : fndM l a 0 with
  | none =>
    refine .inl ⟨rfl, ?_⟩
    have h1 : getA (l.map (·.1)) a = ⟨a, 0, 0⟩ := getA_no fun y hy => by
      obtain ⟨q, hq, rfl⟩ := List.mem_map.1 hy
      exact fndM_none e q hq
    rw [h.get] at h1
    unfold lkA
    rw [h1, if_pos ⟨rfl, rfl⟩]
  | some p =>
    obtain ⟨i, v⟩ := p
    obtain ⟨j, q, h1, h2, h3, h4, _⟩ := fndM_some e
    refine .inr ⟨i, ?_⟩
    have hq : q ∈ l := List.mem_of_getElem? h2
    have h5 : getA (l.map (·.1)) q.1.a = q.1 := getA_mem h.once (List.mem_map_of_mem hq)
    rw [h.get, h3] at h5
    rw [h4]
    unfold lkA
    rw [h5, if_neg (h.full q hq)]

/-- The account is written at its place, or behind. -/
def putM : List (Ac × Nat) → Ac → Nat → List (Ac × Nat)
  | [], x, c => [(x, c)]
  | q :: r, x, c => if q.1.a = x.a then (x, q.2) :: r else q :: putM r x c
theorem putM_none {l : List (Ac × Nat)} {x : Ac} (h : ∀ q ∈ l, q.1.a ≠ x.a) (c : Nat) : putM l x c = l ++ [(x, c)] := by
  induction l with
  | nil => rfl
  | cons q r ih => rw [putM, if_neg (h q List.mem_cons_self), ih fun z hz => h z (List.mem_cons_of_mem _ hz)]; rfl
theorem putM_some {l : List (Ac × Nat)} {x : Ac} {j : Nat} {q : Ac × Nat} (h : l[j]? = some q) (hq : q.1.a = x.a) (hn : ∀ t z, t < j → l[t]? = some z → z.1.a ≠ x.a) (c : Nat) : putM l x c = l.modify j fun q => (x, q.2) := by
  induction l generalizing j with
  | nil => simp at h
  | cons y r ih =>
    cases j with
    | zero =>
      simp at h
      subst h
      rw [putM, if_pos hq]; rfl
    | succ j =>
      rw [putM, if_neg (hn 0 y (by omega) rfl), ih (by simpa using h) fun t z ht hz => hn (t + 1) z (by omega) (by simpa using hz)]
      rfl
theorem putM_accs (l : List (Ac × Nat)) (x : Ac) (c : Nat) : (putM l x c).map (·.1) = putR (l.map (·.1)) x := by
  induction l with
  | nil => rfl
  | cons q r ih =>
    rw [putM, List.map_cons, putR]
    split
    · rfl
    · rw [List.map_cons, ih]
theorem putM_mem {l : List (Ac × Nat)} {x : Ac} {c : Nat} {q : Ac × Nat} (h : q ∈ putM l x c) : q ∈ l ∨ (q.1 = x ∧ (q.2 = c ∨ ∃ z ∈ l, z.2 = q.2)) := by
  induction l with
  | nil => simp [putM] at h; subst h; exact .inr ⟨rfl, .inl rfl⟩
  | cons y r ih =>
    rw [putM] at h
    by_cases e : y.1.a = x.a
    · rw [if_pos e] at h
      rcases List.mem_cons.1 h with rfl | h
      · exact .inr ⟨rfl, .inr ⟨y, List.mem_cons_self, rfl⟩⟩
      · exact .inl (List.mem_cons_of_mem _ h)
    · rw [if_neg e] at h
      rcases List.mem_cons.1 h with rfl | h
      · exact .inl List.mem_cons_self
      · rcases ih h with h | ⟨h1, h2 | ⟨z, h2, h3⟩⟩
        · exact .inl (List.mem_cons_of_mem _ h)
        · exact .inr ⟨h1, .inl h2⟩
        · exact .inr ⟨h1, .inr ⟨z, List.mem_cons_of_mem _ h2, h3⟩⟩
theorem putM_born {l : List (Ac × Nat)} (x : Ac) (c : Nat) (h : (l.map (·.2)).Nodup) (hc : ∀ q ∈ l, q.2 < c) : ((putM l x c).map (·.2)).Nodup := by
  induction l with
  | nil => simp [putM]
  | cons q r ih =>
    rw [List.map_cons] at h
    obtain ⟨h1, h2⟩ := List.nodup_cons.1 h
    rw [putM]
    by_cases e : q.1.a = x.a
    · rw [if_pos e]; exact List.nodup_cons.2 ⟨h1, h2⟩
    · rw [if_neg e, List.map_cons]
      refine List.nodup_cons.2 ⟨fun hm => ?_, ih h2 fun z hz => hc z (List.mem_cons_of_mem _ hz)⟩
      obtain ⟨z, hz, hzb⟩ := List.mem_map.1 hm
      rcases putM_mem hz with hz | ⟨_, hz | ⟨y, hy, hz⟩⟩
      · exact h1 (hzb ▸ List.mem_map_of_mem hz)
      · have := hc q List.mem_cons_self; have hzb : z.2 = q.2 := hzb; omega
      · exact h1 (by rw [show q.2 = y.2 by rw [hz]; exact hzb.symm]; exact List.mem_map_of_mem hy)
theorem MOk.put {l : List (Ac × Nat)} {clock : Nat} {acc : List Ac} (h : MOk l clock acc) {x : Ac} (hx : ¬ x.emp) : MOk (putM l x clock) (clock + 1) (putA acc x) := by
  refine ⟨?_, putM_born x clock h.born h.old, fun q hq => ?_, fun q hq => ?_, fun a => ?_⟩
  · rw [putM_accs]; exact once_putR h.once x
  · rcases putM_mem hq with hq | ⟨_, hq | ⟨z, hz, hq⟩⟩
    · have := h.old q hq; omega
    · omega
    · have := h.old z hz; omega
  · rcases putM_mem hq with hq | ⟨hq, _⟩
    · exact h.full q hq
    · rw [hq]; exact hx
  · rw [putM_accs, getA_putR, getA_put, h.get]
theorem putM_has {l : List (Ac × Nat)} {clock : Nat} {acc : List Ac} (h : MOk l clock acc) {x : Ac} (hx : ¬ x.emp) (hin : ∃ q ∈ l, q.1.a = x.a) : MOk (putM l x clock) clock (putA acc x) := by
  have h' := h.put hx
  refine ⟨h'.once, h'.born, fun q hq => ?_, h'.full, h'.get⟩
  have key : ∀ (l : List (Ac × Nat)), (∀ q ∈ l, q.2 < clock) → (∃ q ∈ l, q.1.a = x.a) → ∀ q ∈ putM l x clock, q.2 < clock := by
    intro l
    induction l with
    | nil => rintro _ ⟨q, hq, _⟩; cases hq
    | cons y r ih =>
      intro h1 h2 q hq
      rw [putM] at hq
      by_cases e : y.1.a = x.a
      · rw [if_pos e] at hq
        rcases List.mem_cons.1 hq with rfl | hq
        · exact h1 y List.mem_cons_self
        · exact h1 q (List.mem_cons_of_mem _ hq)
      · rw [if_neg e] at hq
        rcases List.mem_cons.1 hq with rfl | hq
        · exact h1 q List.mem_cons_self
        · refine ih (fun z hz => h1 z (List.mem_cons_of_mem _ hz)) ?_ q hq
          obtain ⟨z, hz, hza⟩ := h2
          rcases List.mem_cons.1 hz with rfl | hz
          · exact absurd hza e
          · exact ⟨z, hz, hza⟩
  exact key l h.old hin q hq

/-- The account is taken out. -/
def delM (l : List (Ac × Nat)) (a : Nat) : List (Ac × Nat) := l.filter fun q => decide (q.1.a ≠ a)
theorem delM_some {l : List (Ac × Nat)} {a j : Nat} {q : Ac × Nat} (ho : Once (l.map (·.1))) (h : l[j]? = some q) (hq : q.1.a = a) : delM l a = l.eraseIdx j := by
  induction l generalizing j with
  | nil => simp at h
  | cons y r ih =>
    have h' : y.1.a ∉ (r.map (·.1)).map (·.a) ∧ Once (r.map (·.1)) := List.nodup_cons.1 ho
    cases j with
    | zero =>
      simp at h
      subst h
      unfold delM
      rw [List.filter_cons_of_neg (by simp [hq])]
      refine List.filter_eq_self.2 fun z hz => ?_
      simp only [decide_eq_true_eq]
      intro e
      exact h'.1 (by rw [hq, ← e]; exact List.mem_map_of_mem (List.mem_map_of_mem hz))
    | succ j =>
      have hj : r[j]? = some q := by simpa using h
      unfold delM at ih ⊢
      rw [List.filter_cons_of_pos, ih h'.2 hj]
      · rfl
      · simp only [decide_eq_true_eq]
        intro e
        exact h'.1 (by rw [e, ← hq]; exact List.mem_map_of_mem (List.mem_map_of_mem (List.mem_of_getElem? hj)))
theorem delM_none {l : List (Ac × Nat)} {a : Nat} (h : ∀ q ∈ l, q.1.a ≠ a) : delM l a = l := List.filter_eq_self.2 fun z hz => by simpa using h z hz
theorem delM_accs (l : List (Ac × Nat)) (a : Nat) : (delM l a).map (·.1) = delA (l.map (·.1)) a := by
  induction l with
  | nil => rfl
  | cons q r ih =>
    rw [List.map_cons, delA]
    unfold delM at ih ⊢
    by_cases e : q.1.a = a
    · rw [if_pos e, List.filter_cons_of_neg (by simp [e]), ih]
    · rw [if_neg e, List.filter_cons_of_pos (by simp [e]), List.map_cons, ih]
theorem MOk.del {l : List (Ac × Nat)} {clock : Nat} {acc : List Ac} (h : MOk l clock acc) {x : Ac} (hx : x.emp) : MOk (delM l x.a) clock (putA acc x) := by
  have hs : (delM l x.a).Sublist l := List.filter_sublist
  refine ⟨?_, h.born.sublist (hs.map _), fun q hq => h.old q (hs.subset hq), fun q hq => h.full q (hs.subset hq), fun a => ?_⟩
  · exact h.once.sublist ((hs.map _).map _)
  · rw [delM_accs, getA_del, getA_put, h.get]
    by_cases e : a = x.a
    · rw [if_pos e, if_pos e]
      obtain ⟨q1, q2, q3⟩ := x
      obtain ⟨h1, h2⟩ := hx
      simp at h1 h2
      rw [h1, h2]
    · rw [if_neg e, if_neg e]

theorem map_erase {α β : Type} (f : α → β) : ∀ (l : List α) (i : Nat), (l.eraseIdx i).map f = (l.map f).eraseIdx i
  | [], _ => rfl
  | _ :: _, 0 => rfl
  | x :: r, i + 1 => by simp only [List.eraseIdx_cons_succ, List.map_cons, map_erase f r i]

/-! The operations. -/
section
variable {ρ : Operand → Value} {dst : Option Tmp} {type : TypeId} {pos : String} {after : Array Edge} {guard : Option (Nat × Bool)} {m : Nat} {l : List (Ac × Nat)} {clock : Nat} {w : World}
theorem chkA (e : Bool) (a : Nat) : (Instr.checkKey e 10000 29 (.int .u64 (a : Int))).run Tryd.prog w = .ok () w := MapKept.run_checkKey Tryd.underlying29 (show MapKept.IsKey (.int .u64) (.int .u64 (a : Int)) from rfl) e 9999
theorem run_lkM (h : w.heap[m]? = some (.map (ents l).toArray clock)) (a : Nat) {x : Ac} (hx : (fndM l a 0 = none ∧ x = ⟨0, 0, 0⟩) ∨ ∃ i, fndM l a 0 = some (i, AV x)) :
    (Instr.lookup 65 (.map (some m)) (.int .u64 (a : Int)) false).run Tryd.prog w = .ok (AV x) w := by
  have hf : Instr.findNow (.int .u64) (.int .u64 (a : Int)) ((ents l).toArray).toList 0 = some (fndM l a 0) := findNow_ents l a 0
  have hz : (zeroValue 58).run Tryd.prog w = .ok (AV ⟨0, 0, 0⟩) w := by kernel_rfl
  have hk := fun e => chkA (w := w) e a
  have hfk := MapKept.run_findKey (w := w) Tryd.underlying29 hf
  rcases hx with ⟨h1, rfl⟩ | ⟨i, h1⟩
  · rw [h1] at hfk
    simp [Instr.lookup, run_underlying Tryd.underlying65, MapKept.run_getObj_map h, hk, hfk, hz, Result.andThen]
  · rw [h1] at hfk
    simp [Instr.lookup, run_underlying Tryd.underlying65, MapKept.run_getObj_map h, hk, hfk, Result.andThen]
theorem run_lk0 (a : Nat) : (Instr.lookup 65 (.map none) (.int .u64 (a : Int)) false).run Tryd.prog w = .ok (AV ⟨0, 0, 0⟩) w := by
  have hz : (zeroValue 58).run Tryd.prog w = .ok (AV ⟨0, 0, 0⟩) w := by kernel_rfl
  have hk := fun e => chkA (w := w) e a
  have hfk := MapKept.run_findKey (w := w) (k := .int .u64 (a : Int)) (l := []) (a := none) Tryd.underlying29 rfl
  simp [Instr.lookup, run_underlying Tryd.underlying65, hk, hfk, hz, Result.andThen]
theorem run_updM (h : w.heap[m]? = some (.map (ents l).toArray clock)) (x : Ac) :
    ∃ c', (Instr.mapUpdate 65 (.map (some m)) (.int .u64 (x.a : Int)) (AV x)).run Tryd.prog w = .ok () { w with heap := w.heap.setIfInBounds m (.map (ents (putM l x clock)).toArray c') } ∧
      ((c' = clock ∧ ∃ q ∈ l, q.1.a = x.a) ∨ c' = clock + 1) := by
  have hf : Instr.findNow (.int .u64) (.int .u64 (x.a : Int)) ((ents l).toArray).toList 0 = some (fndM l x.a 0) := findNow_ents l x.a 0
  have hk := fun e => chkA (w := w) e x.a
  have hfk := MapKept.run_findKey (w := w) Tryd.underlying29 hf
  cases e : fndM l x.a 0 with
  | none =>
    refine ⟨clock + 1, ?_, .inr rfl⟩
    rw [e] at hfk
    have e2 : (ents (putM l x clock)).toArray = (ents l).toArray.push { key := .int .u64 (x.a : Int), val := AV x, born := clock } := by
      rw [putM_none (fndM_none e)]
      simp [ents, ent]
    rw [e2]
    simp [Instr.mapUpdate, run_underlying Tryd.underlying65, MapKept.run_getObj_map h, hk, hfk, MapKept.run_setObj_map _ h, Result.andThen]
  | some p =>
    obtain ⟨i, v⟩ := p
    obtain ⟨j, q, h1, h2, h3, h4, h5⟩ := fndM_some e
    obtain rfl : i = j := by omega
    refine ⟨clock, ?_, .inl ⟨rfl, q, List.mem_of_getElem? h2, h3⟩⟩
    rw [e] at hfk
    have hes : ((ents l).toArray)[i]? = some (ent q) := by simp [ents, h2]
    have e2 : (ents (putM l x clock)).toArray = (ents l).toArray.modify i (fun e => { e with key := .int .u64 (x.a : Int), val := AV x }) := by
      rw [putM_some h2 h3 h5]
      apply Array.ext'
      rw [Array.toList_modify]
      simp only [ents]
      apply List.ext_getElem?
      intro t
      rw [List.getElem?_map, List.getElem?_modify, List.getElem?_modify, List.getElem?_map]
      cases l[t]? with
      | none => simp
      | some z =>
        by_cases ht : i = t
        · subst ht; simp [ent]
        · simp [ht]
    have hks : (Instr.keyThatStays (.int .u64 (x.a : Int)) (.int .u64 (x.a : Int))).run Tryd.prog w = .ok (.int .u64 (x.a : Int)) w := by
      simp [Instr.keyThatStays, Instr.sameBits]
    have hkk : (((ents l).toArray)[i]?.map (·.key)).getD (.int .u64 (x.a : Int)) = .int .u64 (x.a : Int) := by rw [hes]; simp [ent, h3]
    rw [e2]
    simp only [Instr.mapUpdate, Sem.run_bind, run_underlying Tryd.underlying65, Result.andThen_ok, MapKept.run_getObj_map h, hk, hfk, hkk, hks, MapKept.run_setObj_map _ h]
theorem run_delM (ho : Once (l.map (·.1))) (h : w.heap[m]? = some (.map (ents l).toArray clock)) (a : Nat) {ts : Array TypeId} (hts : ts[0]? = some 65) {ty : TypeId} :
    (Builtin.delete_ ts ty #[.map (some m), .int .u64 (a : Int)]).run Tryd.prog w = .ok (.tuple #[]) { w with heap := w.heap.setIfInBounds m (.map (ents (delM l a)).toArray clock) } := by
  have hf : Instr.findNow (.int .u64) (.int .u64 (a : Int)) ((ents l).toArray).toList 0 = some (fndM l a 0) := findNow_ents l a 0
  have hk := fun e => chkA (w := w) e a
  have hfk := MapKept.run_findKey (w := w) Tryd.underlying29 hf
  cases e : fndM l a 0 with
  | none =>
    rw [e] at hfk
    rw [delM_none (fndM_none e)]
    simp [Builtin.delete_, hts, run_underlying Tryd.underlying65, MapKept.run_getObj_map h, hk, hfk, MapKept.run_setObj_map _ h, Result.andThen]
  | some p =>
    obtain ⟨i, v⟩ := p
    obtain ⟨j, q, h1, h2, h3, h4, h5⟩ := fndM_some e
    obtain rfl : i = j := by omega
    rw [e] at hfk
    have e2 : (ents (delM l a)).toArray = (ents l).toArray.eraseIdxIfInBounds i := by
      rw [delM_some ho h2 h3]
      apply Array.ext'
      rw [Array.toList_eraseIdxIfInBounds]
      exact map_erase ent l i
    rw [e2]
    simp [Builtin.delete_, hts, run_underlying Tryd.underlying65, MapKept.run_getObj_map h, hk, hfk, MapKept.run_setObj_map _ h, Result.andThen]
theorem run_del0 (a : Nat) {ts : Array TypeId} (hts : ts[0]? = some 65) {ty : TypeId} : (Builtin.delete_ ts ty #[.map none, .int .u64 (a : Int)]).run Tryd.prog w = .ok (.tuple #[]) w := by
  have hk := fun e => chkA (w := w) e a
  simp [Builtin.delete_, hts, run_underlying Tryd.underlying65, hk, Result.andThen]
end
end Go.Proofs.YtkibbcomfjhgpaaDoor

