/- How arguments that are made of bools, integers and strings are read as data: what a readable value looks like. No Go function in this text; no conditions. -/
import Derived.Test.YtlaapbenpjopiaaMx
import Derived.Test.YtlaapbenpjopiaaOpen
import Derived.Carry
namespace Go.Proofs.Ytlaapbenpjopiaa
open Go.ChangeShapes Go.WideShapes Go.ChangeAt Go.RowKit Sx

def wfC : Value → Prop
  | .int k n => (Lit.int k n).wf = true
  | .string s => s.size ≤ maxLen
  | _ => True

theorem fitL_join : ∀ {l m : List Leaf} {xs ys : List Value}, fitL l xs = true → fitL m ys = true → fitL (l ++ m) (xs ++ ys) = true
  | [], m, [], ys, _, h => h
  | [], _, _ :: _, _, h, _ => by cases h
  | .b :: r, m, x :: q, ys, h, k => by cases x <;> simp only [fitL, Bool.false_eq_true] at h; simpa [fitL] using fitL_join h k
  | .i kd :: r, m, x :: q, ys, h, k => by
    cases x <;> simp only [fitL, Bool.false_eq_true, Bool.and_eq_true] at h
    simpa [fitL, h.1] using fitL_join h.2 k
  | .s :: r, m, x :: q, ys, h, k => by cases x <;> simp only [fitL, Bool.false_eq_true] at h; simpa [fitL] using fitL_join h k
  | .b :: _, _, [], _, h, _ => by cases h
  | .i _ :: _, _, [], _, h, _ => by cases h
  | .s :: _, _, [], _, h, _ => by cases h

section
variable {H : Type} {enc : TypeId × Value → H} {P : Program} {W : World} {base : Nat} {sp : Nat → Bool} {held : Bool}

/-- What is told of cells that can be read. -/
def Told (ls : List Leaf) (cs : List Value) : Prop := fitL ls cs = true ∧ ∀ c ∈ cs, wfC c
theorem Told.join {l m : List Leaf} {xs ys : List Value} (h : Told l xs) (k : Told m ys) : Told (l ++ m) (xs ++ ys) := ⟨fitL_join h.1 k.1, fun c hc => (List.mem_append.1 hc).elim (h.2 c) (k.2 c)⟩

theorem told_fields {fuel : Nat} {cs : List Value} (f : TypeId → Option (List Leaf)) (hf : ∀ e l, f e = some l → P.cellsOf e = l.length ∧ ∀ ds x, DataW.trod enc P W base sp held fuel e ds = some x → Told l ds ∧ x.2 = []) :
    ∀ (fs : List Field) (off : Nat) (ls : List Leaf) (xs : List (DataW H × List MemPlace)), fieldLeaves P f off fs = some ls → fs.mapM (fun fd => DataW.trod enc P W base sp held fuel fd.type ((cs.drop fd.offset).take (P.cellsOf fd.type))) = some xs →
      Told ls ((cs.drop off).take ls.length) ∧ ∀ x ∈ xs, x.2 = []
  | [], off, ls, xs, h, hx => by
    simp only [fieldLeaves, Option.some.injEq] at h
    subst h
    simp at hx
    subst hx
    exact ⟨⟨by simp [fitL], by simp⟩, by simp⟩
  | fd :: r, off, ls, xs, h, hx => by
    unfold fieldLeaves at h
    cases hb : ((fd.name != "_") && Nat.beq fd.offset off) with
    | false => rw [hb] at h; cases h
    | true =>
      rw [hb] at h
      simp only [cond_true] at h
      simp only [Bool.and_eq_true] at hb
      have hoff := Nat.eq_of_beq_eq_true hb.2
      split at h
      · rename_i l hl
        split at h
        · rename_i m hm
          simp only [Option.some.injEq] at h
          subst h
          rw [List.mapM_cons] at hx
          simp only [bind, Option.bind_eq_some_iff, pure, Option.some.injEq] at hx
          obtain ⟨x, hx1, xs', hx2, rfl⟩ := hx
          obtain ⟨h1, h2⟩ := hf _ _ hl
          rw [h1, hoff] at hx1
          obtain ⟨t1, t2⟩ := h2 _ _ hx1
          obtain ⟨i1, i2⟩ := told_fields f hf r (off + l.length) m xs' hm hx2
          rw [List.length_append, List.take_add, List.drop_drop]
          exact ⟨t1.join i1, by
            intro y hy
            rcases List.mem_cons.1 hy with rfl | hy
            · exact t2
            · exact i2 y hy⟩
        · cases h
      · cases h

theorem told_items {fuel : Nat} {cs : List Value} {e : TypeId} {l : List Leaf} (hc : P.cellsOf e = l.length) (hf : ∀ ds x, DataW.trod enc P W base sp held fuel e ds = some x → Told l ds ∧ x.2 = []) :
    ∀ (k j : Nat) (xs : List (DataW H × List MemPlace)), (List.range' j k).mapM (fun i => DataW.trod enc P W base sp held fuel e ((cs.drop (i * P.cellsOf e)).take (P.cellsOf e))) = some xs →
      Told (List.replicate k l).flatten ((cs.drop (j * l.length)).take (k * l.length)) ∧ ∀ x ∈ xs, x.2 = []
  | 0, j, xs, hx => by
    simp at hx
    subst hx
    exact ⟨⟨by simp [fitL], by simp⟩, by simp⟩
  | k + 1, j, xs, hx => by
    rw [List.range'_succ, List.mapM_cons] at hx
    simp only [bind, Option.bind_eq_some_iff, pure, Option.some.injEq] at hx
    obtain ⟨x, hx1, xs', hx2, rfl⟩ := hx
    rw [hc] at hx1
    obtain ⟨t1, t2⟩ := hf _ _ hx1
    obtain ⟨i1, i2⟩ := told_items hc hf k (j + 1) xs' hx2
    rw [List.replicate_succ, List.flatten_cons, show (k + 1) * l.length = l.length + k * l.length by rw [Nat.add_mul, Nat.one_mul, Nat.add_comm], List.take_add, List.drop_drop]
    rw [show (j + 1) * l.length = j * l.length + l.length by rw [Nat.add_mul, Nat.one_mul]] at i1
    exact ⟨t1.join i1, by
      intro y hy
      rcases List.mem_cons.1 hy with rfl | hy
      · exact t2
      · exact i2 y hy⟩

theorem told_leaves : ∀ (m : Nat) (t : TypeId) (ls : List Leaf), leaves P m t = some ls → ∀ (fuel : Nat) (cs : List Value) (x : DataW H × List MemPlace), DataW.trod enc P W base sp held fuel t cs = some x → Told ls cs ∧ x.2 = []
  | 0, t, ls, h => by cases h
  | m + 1, t, ls, h => by
    intro fuel cs x hx
    have ih := told_leaves m
    cases fuel with
    | zero => cases hx
    | succ fuel =>
      obtain ⟨it, hit, hsz⟩ := leaves_info h
      have hct : P.cellsOf t = ls.length := by simp [Program.cellsOf, hit, hsz]
      unfold leaves at h
      split at h
      · rename_i i hu hi
        obtain ⟨_, rfl⟩ := leaf_one h
        unfold DataW.trod at hx
        rw [hu] at hx
        split at hx <;> simp_all
        obtain ⟨rfl⟩ := hx
        exact ⟨⟨rfl, by simp [wfC]⟩, rfl⟩
      · rename_i k i hu hi
        obtain ⟨_, rfl⟩ := leaf_one h
        unfold DataW.trod at hx
        rw [hu] at hx
        split at hx <;> simp_all
        obtain ⟨⟨rfl, hw⟩, rfl⟩ := hx
        exact ⟨⟨by simp [fitL], by simp [wfC, hw]⟩, rfl⟩
      · rename_i i hu hi
        obtain ⟨_, rfl⟩ := leaf_one h
        unfold DataW.trod at hx
        rw [hu] at hx
        split at hx <;> simp_all
        obtain ⟨hw, rfl⟩ := hx
        exact ⟨⟨by simp [fitL], by simp [wfC, hw]⟩, rfl⟩
      · rename_i n e i hu hi
        split at h
        · rename_i l hl
          cases hb : Nat.beq i.size (n * l.length) with
          | false => rw [hb] at h; cases h
          | true =>
            rw [hb] at h
            simp only [cond_true, Option.some.injEq] at h
            subst h
            obtain ⟨ie, hie, hse⟩ := leaves_info hl
            have hce : P.cellsOf e = l.length := by simp [Program.cellsOf, hie, hse]
            unfold DataW.trod at hx
            rw [hu] at hx
            simp only at hx
            split at hx
            · rename_i hlen
              simp only [Option.map_eq_some_iff] at hx
              obtain ⟨xs, hxs, rfl⟩ := hx
              rw [List.range_eq_range'] at hxs
              obtain ⟨i1, i2⟩ := told_items hce (fun ds x hx => ih e l hl fuel ds x hx) n 0 xs hxs
              have hl2 : cs.length = n * l.length := by rw [hlen, hct]; simp
              rw [Nat.zero_mul, List.drop_zero, List.take_of_length_le (by omega)] at i1
              exact ⟨i1, by simp only [List.flatMap_eq_nil_iff]; exact i2⟩
            · cases hx
        · cases h
      · rename_i fs i hu hi
        cases hs : P.stoodInHeld t with
        | true => rw [hs] at h; cases h
        | false =>
          rw [hs] at h
          simp only [cond_false] at h
          split at h
          · rename_i l hl
            cases hb : Nat.beq i.size l.length with
            | false => rw [hb] at h; cases h
            | true =>
              rw [hb] at h
              simp only [cond_true, Option.some.injEq] at h
              subst h
              unfold DataW.trod at hx
              rw [hu] at hx
              simp only at hx
              split at hx
              · rename_i hlen
                simp only [Option.map_eq_some_iff] at hx
                obtain ⟨xs, hxs, rfl⟩ := hx
                obtain ⟨i1, i2⟩ := told_fields (cs := cs) (leaves P m) (fun e l hl => ⟨by
                  obtain ⟨ie, hie, hse⟩ := leaves_info hl
                  simp [Program.cellsOf, hie, hse], fun ds x hx => ih e l hl fuel ds x hx⟩) fs.toList 0 l xs hl hxs
                rw [List.drop_zero, List.take_of_length_le (by omega)] at i1
                exact ⟨i1, by simp only [List.flatMap_eq_nil_iff]; exact i2⟩
              · cases hx
          · cases h
      · cases h

/-- An argument that is an array or a struct of such parts. -/
theorem open_plain {m : Nat} {t : TypeId} {ls : List Leaf} (hl : leaves P m t = some ls) (hu : (∃ fs, P.underlying t = some (.struct fs)) ∨ ∃ n e, P.underlying t = some (.array n e)) {r : Reach} {b : Nat} {v : Value} {d : DataW H} {p : List MemPlace}
    (hv : Value.okWide P W r b t v) (h : DataW.Trod enc P W base sp held t v d p) : ∃ cs : List Value, v = .agg cs.toArray ∧ Told ls cs ∧ p = [] := by
  have : ∃ cs, v = .agg cs := by
    rcases hu with ⟨fs, hu⟩ | ⟨n, e, hu⟩
    · obtain ⟨cs, rfl, _⟩ : ∃ cs, v = .agg cs ∧ cs.size = P.cellsOf t ∧ Row.okWide P W r b t cs := by simpa [Value.okWide, hu] using hv
      exact ⟨cs, rfl⟩
    · obtain ⟨cs, rfl, _⟩ : ∃ cs, v = .agg cs ∧ cs.size = P.cellsOf t ∧ Row.okWide P W r b t cs := by simpa [Value.okWide, hu] using hv
      exact ⟨cs, rfl⟩
  obtain ⟨cs, rfl⟩ := this
  obtain ⟨fuel, hf⟩ := h
  obtain ⟨h1, h2⟩ := told_leaves m t ls hl fuel cs.toList (d, p) hf
  exact ⟨cs.toList, by simp, h1, h2⟩
end

theorem told_i {k : IntKind} {r : List Leaf} {cs : List Value} (h : Told (.i k :: r) cs) : ∃ n q, cs = .int k n :: q ∧ (Lit.int k n).wf = true ∧ Told r q := by
  obtain ⟨h1, h2⟩ := h
  cases cs with
  | nil => cases h1
  | cons c q =>
    cases c <;> simp only [fitL, Bool.false_eq_true, Bool.and_eq_true, beq_iff_eq] at h1
    rename_i k' n
    obtain ⟨rfl, h1⟩ := h1
    exact ⟨n, q, rfl, h2 (.int k n) (by simp), h1, fun c hc => h2 c (by simp [hc])⟩
theorem told_b {r : List Leaf} {cs : List Value} (h : Told (.b :: r) cs) : ∃ s q, cs = .bool s :: q ∧ Told r q := by
  obtain ⟨h1, h2⟩ := h
  cases cs with
  | nil => cases h1
  | cons c q =>
    cases c <;> simp only [fitL, Bool.false_eq_true] at h1
    exact ⟨_, q, rfl, h1, fun c hc => h2 c (by simp [hc])⟩
theorem told_nil {cs : List Value} (h : Told [] cs) : cs = [] := by
  cases cs with
  | nil => rfl
  | cons c q => cases h.1
/-- Four words: a number. -/
theorem told_u {r : List Leaf} {cs : List Value} (h : Told (.i .u64 :: .i .u64 :: .i .u64 :: .i .u64 :: r) cs) : ∃ n q, n < B256 ∧ cs = .int .u64 (limb n 0) :: .int .u64 (limb n 1) :: .int .u64 (limb n 2) :: .int .u64 (limb n 3) :: q ∧ Told r q := by
  obtain ⟨x0, q0, rfl, w0, k0⟩ := told_i h
  obtain ⟨x1, q1, rfl, w1, k1⟩ := told_i k0
  obtain ⟨x2, q2, rfl, w2, k2⟩ := told_i k1
  obtain ⟨x3, q3, rfl, w3, k3⟩ := told_i k2
  obtain ⟨n, hn, z0, z1, z2, z3⟩ := exists_limbs (word_of_wf w0).1 (word_of_wf w0).2 (word_of_wf w1).1 (word_of_wf w1).2 (word_of_wf w2).1 (word_of_wf w2).2 (word_of_wf w3).1 (word_of_wf w3).2
  subst z0 z1 z2 z3
  exact ⟨n, q3, hn, rfl, k3⟩
section
variable {H : Type} {enc : TypeId × Value → H} {W : World} {base : Nat} {sp : Nat → Bool} {held : Bool}
set_option maxRecDepth 100000 in
theorem openU {r : Reach} {b : Nat} {v : Value} {d : DataW H} {p : List MemPlace} (hv : Value.okWide Try.prog W r b 24 v) (h : DataW.Trod enc Try.prog W base sp held 24 v d p) : ∃ n, n < B256 ∧ v = U n ∧ p = [] := by
  obtain ⟨cs, rfl, ht, rfl⟩ := open_plain lvU_ok (.inr ⟨_, _, Try.underlying24⟩) hv h
  obtain ⟨n, q, hn, rfl, hq⟩ := told_u ht
  obtain rfl := told_nil hq
  exact ⟨n, hn, rfl, rfl⟩
set_option maxRecDepth 100000 in
theorem openB {r : Reach} {b : Nat} {v : Value} {d : DataW H} {p : List MemPlace} (hv : Value.okWide Try.prog W r b 4 v) (h : DataW.Trod enc Try.prog W base sp held 4 v d p) : ∃ g, v = .bool g ∧ p = [] := by
  obtain ⟨g, rfl⟩ := okWide_bool Try.underlying4 hv
  obtain ⟨fuel, hf⟩ := h
  exact ⟨g, rfl, (told_leaves 1 _ [.b] (by kernel_rfl) fuel _ (d, p) hf).2⟩
set_option maxRecDepth 100000 in
theorem openS {r : Reach} {b : Nat} {v : Value} {d : DataW H} {p : List MemPlace} (hv : Value.okWide Try.prog W r b 9 v) (h : DataW.Trod enc Try.prog W base sp held 9 v d p) : ∃ s : ByteArray, s.size ≤ maxLen ∧ v = .string s ∧ p = [] := by
  obtain ⟨s, rfl⟩ := okWide_string Try.underlying9 hv
  obtain ⟨fuel, hf⟩ := h
  obtain ⟨⟨_, h1⟩, h2⟩ := told_leaves 1 _ [.s] (by kernel_rfl) fuel _ (d, p) hf
  exact ⟨s, h1 (.string s) (by simp [Value.cells]), rfl, h2⟩
end
end Go.Proofs.Ytlaapbenpjopiaa

