/- Layer 8: the tree as a thing: the struct's block and the rows of its levels; what reads and turns it. No conditions. -/
import Derived.Test.YtgbfolkpgmjaeaaDoorM8b
namespace Go.Proofs.YtgbfolkpgmjaeaaDoor
open Go.RowKit Sx
set_option maxRecDepth 100000

/-- The place of a row, apart from what it holds. -/
abbrev Fq := Option Addr ⊕ (Nat × List Value)
def fqO : Fq → Option Addr
  | .inl o => o
  | .inr q => some ⟨q.1, 0, none⟩
def fqC (c : List Value) : Fq → Nat
  | .inl _ => 0
  | .inr q => (c.length + q.2.length) / 32
def fqL (c : List Value) : Fq → Facts
  | .inl _ => []
  | .inr q => [(q.1, .cells (c ++ q.2).toArray 28)]
def fqV (c : List Value) : Fq → Prop
  | .inl _ => c = []
  | .inr q => (c.length + q.2.length) % 32 = 0
def frQ {c : List Value} : FrX c → Fq
  | .inl x => .inl x.2
  | .inr q => .inr q
theorem frQ_O {c : List Value} (x : FrX c) : fqO (frQ x) = frO x := by cases x <;> rfl
theorem frQ_C {c : List Value} (x : FrX c) : fqC c (frQ x) = frC 32 x := by cases x <;> rfl
theorem frQ_L {c : List Value} (x : FrX c) : fqL c (frQ x) = frL 28 x := by cases x <;> rfl
theorem frQ_V {c : List Value} (x : FrX c) (h : FrOk 32 x) : fqV c (frQ x) := by
  cases x with
  | inl q => exact q.1.down
  | inr q => exact h
theorem fqX {c : List Value} (q : Fq) (h : fqV c q) : ∃ x : FrX c, frQ x = q ∧ FrOk 32 x := by
  cases q with
  | inl o => exact ⟨.inl (⟨h⟩, o), rfl, trivial⟩
  | inr q => exact ⟨.inr q, rfl, h⟩

abbrev Rows := Nat → List Value
def tcell (cv : Rows) (fr : Nat → Fq) (d : Nat) : Value := .slice (fqO (fr d)) (lenB (cv d) 32) (fqC (cv d) (fr d))
def tcells (cv : Rows) (fr : Nat → Fq) : List Value := (List.range 64).map (tcell cv fr)
theorem tcells_len (cv : Rows) (fr : Nat → Fq) : (tcells cv fr).length = 64 := by simp [tcells]
theorem tcells_get (cv : Rows) (fr : Nat → Fq) {d : Nat} (h : d < 64) : (tcells cv fr)[d]? = some (tcell cv fr d) := by simp [tcells, h]
/-- The blocks of the tree at m. -/
def treeF (m : Nat) (cv : Rows) (fr : Nat → Fq) : Facts := (m, .cells (tcells cv fr).toArray 50) :: (List.range 64).flatMap fun d => fqL (cv d) (fr d)
structure TrOk (m : Nat) (cv : Rows) (fr : Nat → Fq) : Prop where
  v : ∀ d, d < 64 → fqV (cv d) (fr d)
  m : ∀ d, d < 64 → ∀ q ∈ fqL (cv d) (fr d), q.1 ≠ m
  two : ∀ d e, d < 64 → e < 64 → d ≠ e → ∀ q ∈ fqL (cv d) (fr d), ∀ q' ∈ fqL (cv e) (fr e), q'.1 ≠ q.1
def Tr (m : Nat) (cv : Rows) : TP := fun F => ∃ fr, F = treeF m cv fr ∧ TrOk m cv fr
theorem tree_lv {m : Nat} {cv : Rows} {fr : Nat → Fq} {d : Nat} (h : d < 64) : ∀ q ∈ fqL (cv d) (fr d), q ∈ treeF m cv fr := fun _ hq =>
  List.mem_cons_of_mem _ (List.mem_flatMap.2 ⟨d, List.mem_range.2 h, hq⟩)
theorem tree_mem {m : Nat} {cv : Rows} {fr : Nat → Fq} {q : Nat × Obj} (h : q ∈ treeF m cv fr) : q = (m, .cells (tcells cv fr).toArray 50) ∨ ∃ d, d < 64 ∧ q ∈ fqL (cv d) (fr d) := by
  rcases List.mem_cons.1 h with h | h
  · exact .inl h
  · obtain ⟨d, hd, hq⟩ := List.mem_flatMap.1 h
    exact .inr ⟨d, List.mem_range.1 hd, hq⟩

section
variable {ρ : Operand → Value} {dst : Option Tmp} {type : TypeId} {pos : String} {after : Array Edge} {guard : Option (Nat × Bool)} {m : Nat} {cv : Rows} {fr : Nat → Fq} {A : Facts} {d : Nat} {X Y : Operand}
/-- The address of level d. -/
theorem ld_f0 (m : Nat) (A : Facts) (hx : ρ X = .pointer (some ⟨m, 0, none⟩) := by rfl) : ∀ w, Sx.Holds w A → (execOp ρ ⟨dst, .fieldAddr 50 X 0, type, pos, after, guard⟩).run Tryd.prog w = .ok (.value (.pointer (some ⟨m, 0, none⟩))) w := by
  intro w _
  have h : pureRun Tryd.prog (execOp (fun _ => .pointer (some ⟨m, 0, none⟩)) ⟨dst, .fieldAddr 50 X 0, type, pos, after, guard⟩) = some (.value (.pointer (some ⟨m, 0, none⟩))) := by kernel_rfl
  have e : execOp ρ ⟨dst, .fieldAddr 50 X 0, type, pos, after, guard⟩ = execOp (fun _ => .pointer (some ⟨m, 0, none⟩)) ⟨dst, .fieldAddr 50 X 0, type, pos, after, guard⟩ := by
    simp only [execOp, hx]
  rw [e]
  exact pureRun_sound h w
theorem ld_ix (m : Nat) (h : d < 64) (A : Facts) (hx : ρ X = .pointer (some ⟨m, 0, none⟩) := by rfl) (hy : ρ Y = .int .i64 (d : Int) := by rfl) : ∀ w, Sx.Holds w A → (execOp ρ ⟨dst, .indexAddr 48 X Y, type, pos, after, guard⟩).run Tryd.prog w = .ok (.value (.pointer (some ⟨m, d, none⟩))) w := by
  intro w _
  obtain ⟨inf, hinf, hs⟩ : ∃ i, Tryd.prog.info? 22 = some i ∧ i.size = 1 := by
    have h1 : (Tryd.prog.info? 22).map (fun i => i.size) = some 1 := by kernel_rfl
    cases h : Tryd.prog.info? 22 with
    | none => rw [h] at h1; cases h1
    | some i => rw [h] at h1; simp at h1; exact ⟨i, rfl, h1⟩
  simp [execOp, Instr.indexAt, run_underlying Tryd.underlying48, hx, hy, Instr.sureAddr, asIntOf, h, run_size hinf, add_none, hs]
/-- The row of level d is loaded. -/
theorem rd_cell (h : d < 64) (hx : ρ X = .pointer (some ⟨m, d, none⟩) := by rfl) : ReadsOp Tryd.prog (execOp ρ ⟨dst, .load 22 X, type, pos, after, guard⟩) A (treeF m cv fr) Unit (fun _ => tcell cv fr d) (fun _ => []) := by
  intro w hA hF hap
  have h1 := hF _ List.mem_cons_self
  simp only at h1
  have hc : w.cell? ⟨m, d, none⟩ = some (tcell cv fr d) := by
    simp only [World.cell?, h1]
    have := tcells_get cv fr h
    simpa using this
  have hrun : (execOp ρ ⟨dst, .load 22 X, type, pos, after, guard⟩).run Tryd.prog w = .ok (.value (tcell cv fr d)) w := by
    simp [execOp, Instr.loadAt, hx, Instr.sureAddr, loadVar, Tryd.isAgg22, run_load, hc]
  unfold OpRun
  rw [hrun]
  exact ⟨(), rfl, fun _ h => (by cases h), fun _ h => (by cases h), .refl _ _⟩
/-- A hash of level d is loaded. -/
theorem rd_lv {ls : List Hx} {o : Option Addr} (hok : TrOk m cv fr) (hd : d < 64) (e : cv d = hcs ls) (ho : fqO (fr d) = o) {j : Int} (i : Nat) (ej : j = i) (hi : i < ls.length) (hx : ρ X = .pointer (some ((o.getD ⟨0, 0, none⟩).add (j.toNat * 32))) := by rfl) :
    ReadsOp Tryd.prog (execOp ρ ⟨dst, .load 28 X, type, pos, after, guard⟩) A (treeF m cv fr) Unit (fun _ => H8 (ls.getD i H0)) (fun _ => []) := by
  intro w hA hF hap
  subst ho
  obtain ⟨x, hx1, hx2⟩ := fqX (fr d) (hok.v d hd)
  have hl := (Hss.ofFr (cv d) ls e x).load (j := j) i ej (by show i < lenB (cv d) 32; rw [e, lenB_h]; exact hi) (A := treeF m cv fr) (fun q hq => tree_lv hd q (by rw [← hx1, frQ_L]; exact hq)) w hF
  rw [show (Hss.ofFr (cv d) ls e x).o = fqO (fr d) by rw [← hx1, frQ_O]; rfl, show (Hss.ofFr (cv d) ls e x).l = ls from rfl] at hl
  have hrun : (execOp ρ ⟨dst, .load 28 X, type, pos, after, guard⟩).run Tryd.prog w = .ok (.value (H8 (ls.getD i H0))) w := by
    simp [execOp, Instr.loadAt, hx, Instr.sureAddr, hl]
  unfold OpRun
  rw [hrun]
  exact ⟨(), rfl, fun _ h => (by cases h), fun _ h => (by cases h), .refl _ _⟩
theorem idx_lv {ls : List Hx} {o : Option Addr} {n : Nat} (hok : TrOk m cv fr) (hd : d < 64) (e : cv d = hcs ls) (ho : fqO (fr d) = o) (hn : n = ls.length) {j : Int} (h0 : 0 ≤ j) (h1 : j < ls.length) : idxOk o j n := by
  subst ho hn
  obtain ⟨x, hx1, _⟩ := fqX (fr d) (hok.v d hd)
  have := (Hss.ofFr (cv d) ls e x).idx (i := j) h0 (by show j < ((lenB (cv d) 32 : Nat) : Int); rw [e, lenB_h]; exact h1)
  rw [show (Hss.ofFr (cv d) ls e x).o = fqO (fr d) by rw [← hx1, frQ_O]; rfl, show (Hss.ofFr (cv d) ls e x).n = ls.length by show lenB (cv d) 32 = _; rw [e, lenB_h]] at this
  exact this
end

/-- One level put in another's place. -/
def putR (cv : Rows) (d : Nat) (v : List Value) : Rows := fun e => if e = d then v else cv e
def putQ (fr : Nat → Fq) (d : Nat) (q : Fq) : Nat → Fq := fun e => if e = d then q else fr e
/-- What the tree has while its row d has grown and the struct does not know yet. -/
def midF (m : Nat) (cv : Rows) (fr : Nat → Fq) (d : Nat) (L : Facts) : Facts := (m, .cells (tcells cv fr).toArray 50) :: (List.range 64).flatMap fun e => if e = d then L else fqL (cv e) (fr e)
/-- The new row lies apart from the others. -/
def Sep (m : Nat) (cv : Rows) (fr : Nat → Fq) (d : Nat) (L : Facts) : Prop := ∀ q ∈ L, q.1 ≠ m ∧ ∀ e, e < 64 → e ≠ d → ∀ q' ∈ fqL (cv e) (fr e), q'.1 ≠ q.1
theorem mid_mem {m : Nat} {cv : Rows} {fr : Nat → Fq} {d : Nat} {L : Facts} {q : Nat × Obj} (h : q ∈ midF m cv fr d L) : q = (m, .cells (tcells cv fr).toArray 50) ∨ (d < 64 ∧ q ∈ L) ∨ ∃ e, e < 64 ∧ e ≠ d ∧ q ∈ fqL (cv e) (fr e) := by
  rcases List.mem_cons.1 h with h | h
  · exact .inl h
  · obtain ⟨e, he, hq⟩ := List.mem_flatMap.1 h
    by_cases hd : e = d
    · rw [if_pos hd] at hq; exact .inr (.inl ⟨hd ▸ List.mem_range.1 he, hq⟩)
    · rw [if_neg hd] at hq; exact .inr (.inr ⟨e, List.mem_range.1 he, hd, hq⟩)
theorem put_L (cv : Rows) (fr : Nat → Fq) (d : Nat) (v : List Value) (q : Fq) (e : Nat) : fqL (putR cv d v e) (putQ fr d q e) = if e = d then fqL v q else fqL (cv e) (fr e) := by
  unfold putR putQ
  by_cases h : e = d
  · rw [if_pos h, if_pos h, if_pos h]
  · rw [if_neg h, if_neg h, if_neg h]
theorem putR_cells (cv : Rows) (fr : Nat → Fq) {d : Nat} (hd : d < 64) (v : List Value) (q : Fq) : setRange (tcells cv fr) d [.slice (fqO q) (lenB v 32) (fqC v q)] = tcells (putR cv d v) (putQ fr d q) := by
  apply List.ext_getElem?
  intro j
  have hl := tcells_len cv fr
  unfold setRange
  by_cases h1 : j < d
  · rw [List.append_assoc, List.getElem?_append_left (by simp; omega), List.getElem?_take_of_lt h1, tcells_get _ _ (by omega), tcells_get _ _ (by omega)]
    unfold tcell putR putQ
    rw [if_neg (by omega), if_neg (by omega)]
  · by_cases h2 : j = d
    · subst h2
      rw [List.append_assoc, List.getElem?_append_right (by rw [List.length_take]; exact Nat.min_le_left _ _), List.length_take, hl, Nat.min_eq_left (by omega), Nat.sub_self, tcells_get _ _ hd]
      unfold tcell putR putQ
      rw [if_pos rfl, if_pos rfl]; rfl
    · rw [List.getElem?_append_right (by simp; omega)]
      by_cases h3 : j < 64
      · rw [List.getElem?_drop, tcells_get _ _ h3]
        have : d + [Value.slice (fqO q) (lenB v 32) (fqC v q)].length + (j - (List.take d (tcells cv fr) ++ [Value.slice (fqO q) (lenB v 32) (fqC v q)]).length) = j := by simp; omega
        rw [this, tcells_get _ _ h3]
        unfold tcell putR putQ
        rw [if_neg h2, if_neg h2]
      · rw [List.getElem?_eq_none (by simp; omega), List.getElem?_eq_none (by rw [tcells_len]; omega)]

section
variable {ρ : Operand → Value} {dst : Option Tmp} {type : TypeId} {pos : String} {after : Array Edge} {guard : Option (Nat × Bool)} {m : Nat} {cv : Rows} {fr : Nat → Fq} {A : Facts} {d : Nat} {X Y : Operand}
theorem app_tree {ls : List Hx} {h : Hx} {r : Nat} (hok : TrOk m cv fr) (hd : d < 64) (e : cv d = hcs ls) (hn : ls.length ≤ 1000000) (hA : Sub [(r, Obj.cells (bsc h 32).toArray 28)] A) (hx : ρ X = tcell cv fr d := by rfl) (hy : ρ Y = .slice (some ⟨r, 0, none⟩) 1 1 := by rfl) :
    GivesT Tryd.prog (execOp ρ ⟨dst, .call ⟨.builtin .append, #[X, Y], #[22, 22]⟩, type, pos, after, guard⟩) A (fun F => F = treeF m cv fr) (FrX (cv d ++ bsc h 32)) (fun y => .slice (frO y) (lenB (cv d ++ bsc h 32) 32) (frC 32 y)) (fun _ => [])
      (fun y F => F = midF m cv fr d (frL 28 y) ∧ FrOk 32 y ∧ Sep m cv fr d (frL 28 y)) := by
  obtain ⟨i, z, hi, hs, hby, hz, hzs⟩ := info_h
  obtain ⟨x, hx1, hx2⟩ := fqX (fr d) (hok.v d hd)
  have hXv : ρ X = .slice (frO x) (lenB (cv d) 32) (frC 32 x) := by rw [hx]; unfold tcell; rw [← hx1, frQ_O, frQ_C]
  have hxL : frL 28 x = fqL (cv d) (fr d) := by rw [← hx1, frQ_L]
  have hlen : (cv d).length = ls.length * 32 := by rw [e, hcs_len]
  have g := app_thing (P := Tryd.prog) (ρ := ρ) (dst := dst) (type := type) (pos := pos) (after := after) (guard := guard) (A := A) (F0 := treeF m cv fr) (x := x) (n := 1) (G := fun y => midF m cv fr d (frL 28 y)) (xs := bsc h 32) (X := X) (Y := Y)
    Tryd.underlying22 hi hz (by rw [hzs, hs]) (by omega) (by omega) (by rw [hs]; exact hXv) hy (by rw [hs, e, lenB_h, hcs_len]) (by rw [hs]; exact hx2) (by rw [hs]; exact row_src r _ hA) (by rw [hlen, bsc_len]; omega) (fun q hq => tree_lv hd q (hxL ▸ hq)) (fun y q hq => by
      rcases mid_mem hq with rfl | ⟨_, h1⟩ | ⟨e', h1, h2, h3⟩
      · exact .inr ⟨List.mem_cons_self, fun q' hq' => hok.m d hd q' (hxL ▸ hq')⟩
      · exact .inl h1
      · exact .inr ⟨tree_lv h1 q h3, fun q' hq' => hok.two e' d h1 hd h2 q h3 q' (hxL ▸ hq')⟩)
  rw [hs] at g
  intro w F hT hA' hF hap
  refine OpRunT.mono (g w F hT hA' hF hap) ?_
  rintro v w' ⟨y, F', e1, ⟨g1, g2, g3⟩, g4⟩
  refine ⟨y, F', e1, ⟨g1, g2, fun q hq => ⟨fun e2 => ?_, fun e' h1 h2 q' hq' => ?_⟩⟩, g4⟩
  · exact g3 q hq (m, .cells (tcells cv fr).toArray 50) List.mem_cons_self (fun q2 hq2 => hok.m d hd q2 (hxL ▸ hq2)) e2.symm
  · exact g3 q hq q' (tree_lv h1 q' hq') (fun q2 hq2 => hok.two e' d h1 hd h2 q' hq' q2 (hxL ▸ hq2))
theorem store_tree {v : List Value} {y : FrX v} (hok : TrOk m cv fr) (hd : d < 64) (hx : ρ X = .pointer (some ⟨m, d, none⟩) := by rfl) (hy : ρ Y = .slice (frO y) (lenB v 32) (frC 32 y) := by rfl) :
    GivesT Tryd.prog (execOp ρ ⟨dst, .store 22 X Y, type, pos, after, guard⟩) A (fun F => F = midF m cv fr d (frL 28 y) ∧ FrOk 32 y ∧ Sep m cv fr d (frL 28 y)) Unit (fun _ => undef) (fun _ => [])
      (fun _ F => F = treeF m (putR cv d v) (putQ fr d (frQ y)) ∧ TrOk m (putR cv d v) (putQ fr d (frQ y))) := by
  refine givesT_of fun F0 hT0 => ?_
  obtain ⟨rfl, hy1, hy2⟩ := hT0
  obtain ⟨inf, hinf, hs⟩ : ∃ i, Tryd.prog.info? 22 = some i ∧ i.size = 1 := by
    have h1 : (Tryd.prog.info? 22).map (fun i => i.size) = some 1 := by kernel_rfl
    cases h : Tryd.prog.info? 22 with
    | none => rw [h] at h1; cases h1
    | some i => rw [h] at h1; simp at h1; exact ⟨i, rfl, h1⟩
  have hL : ∀ e, fqL (putR cv d v e) (putQ fr d (frQ y) e) = if e = d then frL 28 y else fqL (cv e) (fr e) := fun e => by rw [put_L, frQ_L]
  have hok' : TrOk m (putR cv d v) (putQ fr d (frQ y)) := by
    refine ⟨fun e he => ?_, fun e he q hq => ?_, fun e e' he he' hne q hq q' hq' => ?_⟩
    · unfold putR putQ
      by_cases h : e = d
      · rw [if_pos h, if_pos h]; exact frQ_V y hy1
      · rw [if_neg h, if_neg h]; exact hok.v e he
    · rw [hL] at hq
      by_cases h : e = d
      · rw [if_pos h] at hq; exact (hy2 q hq).1
      · rw [if_neg h] at hq; exact hok.m e he q hq
    · rw [hL] at hq hq'
      by_cases h : e = d <;> by_cases h' : e' = d
      · exact absurd (h.trans h'.symm) hne
      · rw [if_pos h] at hq; rw [if_neg h'] at hq'; exact (hy2 q hq).2 e' he' h' q' hq'
      · rw [if_neg h] at hq; rw [if_pos h'] at hq'; exact Ne.symm ((hy2 q' hq').2 e he h q hq)
      · rw [if_neg h] at hq; rw [if_neg h'] at hq'; exact hok.two e e' he he' hne q hq q' hq'
  have g := store_thing (P := Tryd.prog) (ρ := ρ) (dst := dst) (type := type) (pos := pos) (after := after) (guard := guard) (A := A) (F0 := midF m cv fr d (frL 28 y)) (G := treeF m (putR cv d v) (putQ fr d (frQ y))) (m := m) (off := d) (c := tcells cv fr) (e := 50)
    (vs := [.slice (fqO (frQ y)) (lenB v 32) (fqC v (frQ y))]) (X := X) (Y := Y) hinf hx hy (by rw [frQ_O, frQ_C]; rfl) (by rw [hs]; rfl) (fun u hu => by obtain rfl := List.mem_singleton.1 hu; rfl) (by rw [hs, tcells_len]; omega) List.mem_cons_self (fun q hq => by
      rcases tree_mem hq with rfl | ⟨e, he, h1⟩
      · left; rw [putR_cells cv fr hd]
      · right
        have hm : q.1 ≠ m := hok'.m e he q h1
        refine ⟨List.mem_cons_of_mem _ (List.mem_flatMap.2 ⟨e, List.mem_range.2 he, ?_⟩), hm⟩
        rw [← hL]; exact h1)
  intro w F hT hA' hF hap
  refine OpRunT.mono (g w F hT hA' hF hap) ?_
  rintro v w' ⟨x, F', e1, g1, g4⟩
  exact ⟨x, F', e1, ⟨g1, hok'⟩, g4⟩
end

/-! The levels of a list. -/
/-- The root of the leaves from s to e. -/
def part (l : List Hx) (s e : Nat) : Hx := rootF ((l.drop s).take (e - s))
/-- The roots of the complete groups of 2^d leaves. -/
def lev (l : List Hx) (d : Nat) : List Hx := (List.range (l.length / 2 ^ d)).map fun j => part l (j * 2 ^ d) (j * 2 ^ d + 2 ^ d)
theorem lev_len (l : List Hx) (d : Nat) : (lev l d).length = l.length / 2 ^ d := by simp [lev]
theorem lev_get (l : List Hx) (d j : Nat) (h : j < l.length / 2 ^ d) : (lev l d).getD j H0 = part l (j * 2 ^ d) (j * 2 ^ d + 2 ^ d) := by simp [lev, List.getD, h]
theorem part_app (l : List Hx) (x : Hx) {s e : Nat} (he : e ≤ l.length) : part (l ++ [x]) s e = part l s e := by
  unfold part
  by_cases h : s ≤ l.length
  · rw [List.drop_append_of_le_length h, List.take_append_of_le_length (by simp; omega)]
  · rw [show e - s = 0 by omega, List.take_zero, List.take_zero]
theorem group_le {n d j : Nat} (h : j < n / 2 ^ d) : j * 2 ^ d + 2 ^ d ≤ n := by
  have h1 : (j + 1) * 2 ^ d ≤ n / 2 ^ d * 2 ^ d := Nat.mul_le_mul_right _ h
  have h2 := Nat.div_mul_le_self n (2 ^ d)
  rw [Nat.add_mul, Nat.one_mul] at h1
  omega
theorem lev_no (l : List Hx) (x : Hx) {d : Nat} (h : ¬ 2 ^ d ∣ l.length + 1) : lev (l ++ [x]) d = lev l d := by
  unfold lev
  rw [List.length_append, List.length_singleton, Nat.succ_div, if_neg h, Nat.add_zero]
  refine List.map_congr_left fun j hj => ?_
  exact part_app l x (group_le (List.mem_range.1 hj))
theorem lev_yes (l : List Hx) (x : Hx) {d : Nat} (h : 2 ^ d ∣ l.length + 1) : lev (l ++ [x]) d = lev l d ++ [part (l ++ [x]) (l.length + 1 - 2 ^ d) (l.length + 1)] := by
  obtain ⟨k, hk⟩ := h
  have hp : 0 < 2 ^ d := Nat.two_pow_pos d
  have hq : l.length / 2 ^ d + 1 = k := by
    have h1 : (l.length + 1) / 2 ^ d = l.length / 2 ^ d + 1 := by rw [Nat.succ_div, if_pos ⟨k, hk⟩]
    rw [← h1, hk, Nat.mul_div_cancel_left _ hp]
  have hlast : l.length / 2 ^ d * 2 ^ d = l.length + 1 - 2 ^ d := by
    rw [hk, ← hq, Nat.mul_add, Nat.mul_one, Nat.mul_comm]; omega
  have hge : 2 ^ d ≤ l.length + 1 := Nat.le_of_dvd (by omega) ⟨k, hk⟩
  unfold lev
  rw [List.length_append, List.length_singleton, show (l.length + 1) / 2 ^ d = l.length / 2 ^ d + 1 by rw [Nat.succ_div, if_pos ⟨k, hk⟩], List.range_succ, List.map_append, List.map_singleton, hlast, show l.length + 1 - 2 ^ d + 2 ^ d = l.length + 1 by omega]
  congr 1
  refine List.map_congr_left fun j hj => ?_
  exact part_app l x (group_le (List.mem_range.1 hj))
/-- A part is cut where P8.1 says. -/
theorem part_cut (l : List Hx) {s e : Nat} (h : 2 ≤ e - s) (he : e ≤ l.length) : part l s e = nodeF (part l s (s + spl (e - s))) (part l (s + spl (e - s)) e) := by
  have h1 := spl_lt h
  have hl : ((l.drop s).take (e - s)).length = e - s := by simp; omega
  unfold part
  rw [root_2 (by rw [hl]; exact h), hl, List.take_take, Nat.min_eq_left (Nat.le_of_lt h1), List.drop_take, List.drop_drop, Nat.add_sub_cancel_left, show e - s - spl (e - s) = e - (s + spl (e - s)) by omega]
theorem part_1 (l : List Hx) {s : Nat} (h : s < l.length) : part l s (s + 1) = l.getD s H0 := by
  unfold part
  have hl : ((l.drop s).take (s + 1 - s)).length = 1 := by simp; omega
  rw [root_1 hl]
  simp [List.getD, List.getElem?_drop]
theorem spl_pow (d : Nat) : spl (2 ^ (d + 1)) = 2 ^ d := spl_eq (by rw [Nat.pow_succ]; have := Nat.two_pow_pos d; omega) (by rw [Nat.pow_succ]; omega)
/-- While a leaf is appended: the levels below d know it. -/
def mixl (l : List Hx) (x : Hx) (d : Nat) : Nat → List Hx := fun e => if e < d then lev (l ++ [x]) e else lev l e
abbrev hrows (c : Nat → List Hx) : Rows := fun e => hcs (c e)
theorem mix_0 (l : List Hx) (x : Hx) : mixl l x 0 = lev l := by funext e; unfold mixl; rw [if_neg (by omega)]
theorem mix_put (l : List Hx) (x : Hx) {d : Nat} (h : 2 ^ d ∣ l.length + 1) : putR (hrows (mixl l x d)) d (hcs (mixl l x d d) ++ bsc (part (l ++ [x]) (l.length + 1 - 2 ^ d) (l.length + 1)) 32) = hrows (mixl l x (d + 1)) := by
  funext e
  unfold putR
  by_cases he : e = d
  · subst he
    rw [if_pos rfl]
    show _ = hcs (mixl l x (e + 1) e)
    unfold mixl
    rw [if_neg (by omega), if_pos (by omega), lev_yes l x h, hcs_app, hcs_1]
  · rw [if_neg he]
    show hcs (mixl l x d e) = hcs (mixl l x (d + 1) e)
    unfold mixl
    by_cases h1 : e < d
    · rw [if_pos h1, if_pos (by omega)]
    · rw [if_neg h1, if_neg (by omega)]
theorem mix_end (l : List Hx) (x : Hx) {d : Nat} (h : ¬ 2 ^ d ∣ l.length + 1) : mixl l x d = lev (l ++ [x]) := by
  funext e
  unfold mixl
  by_cases h1 : e < d
  · rw [if_pos h1]
  · rw [if_neg h1, lev_no l x fun h2 => h (Nat.dvd_trans (Nat.pow_dvd_pow 2 (by omega)) h2)]
end Go.Proofs.YtgbfolkpgmjaeaaDoor

