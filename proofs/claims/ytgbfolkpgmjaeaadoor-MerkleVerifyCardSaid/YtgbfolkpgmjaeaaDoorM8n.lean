/- Layer 8: hashes in rows, slices of hashes, roots and proofs as values. No Go function in this text; no conditions. -/
import Derived.Test.YtgbfolkpgmjaeaaDoorH7s
import Derived.Test.YtgbfolkpgmjaeaaDoorH7t
import Derived.Test.YtgbfolkpgmjaeaaDoorSxt
import Derived.Deep.MidRow
namespace Go.Proofs.YtgbfolkpgmjaeaaDoor
open Go.RowKit Sx
set_option maxRecDepth 100000

abbrev Hx := Nat → UInt8
def H0 : Hx := fun _ => 0
/-- Hashes as cells. -/
def hcs : List Hx → List Value
  | [] => []
  | h :: r => bsc h 32 ++ hcs r
theorem bsc_len (h : Hx) : (bsc h 32).length = 32 := cl_length _ _ _
theorem hcs_len : ∀ l, (hcs l).length = l.length * 32
  | [] => rfl
  | h :: r => by unfold hcs; rw [List.length_append, bsc_len, hcs_len r, List.length_cons]; omega
theorem hcs_app : ∀ l m, hcs (l ++ m) = hcs l ++ hcs m
  | [], m => rfl
  | h :: r, m => by show bsc h 32 ++ hcs (r ++ m) = (bsc h 32 ++ hcs r) ++ hcs m; rw [hcs_app r m, List.append_assoc]
theorem hcs_1 (h : Hx) : hcs [h] = bsc h 32 := by unfold hcs hcs; rw [List.append_nil]
theorem hcs_get : ∀ (l : List Hx) (i j : Nat), i < l.length → j < 32 → (hcs l)[i * 32 + j]? = (bsc (l.getD i H0) 32)[j]?
  | [], i, j, hi, _ => absurd hi (by simp)
  | h :: r, 0, j, _, hj => by
    unfold hcs
    rw [Nat.zero_mul, Nat.zero_add, List.getElem?_append_left (by rw [bsc_len]; exact hj)]; rfl
  | h :: r, i + 1, j, hi, hj => by
    unfold hcs
    rw [List.getElem?_append_right (by rw [bsc_len]; omega), bsc_len, show (i + 1) * 32 + j - 32 = i * 32 + j by omega, hcs_get r i j (by simpa using hi) hj]
    simp [List.getD]
theorem cl_one (g : Hx) : ∀ n k, ∀ u ∈ cl (fun i => v8 (g i)) k n, u.oneCell' = true
  | 0, k, u, hu => by cases hu
  | n + 1, k, u, hu => by
    rcases List.mem_cons.1 hu with rfl | hu
    · rfl
    · exact cl_one g n (k + 1) u hu
theorem bsc_one (h : Hx) : ∀ u ∈ bsc h 32, u.oneCell' = true := cl_one h 32 0
theorem hcs_one : ∀ l, ∀ u ∈ hcs l, u.oneCell' = true
  | [], u, hu => by cases hu
  | h :: r, u, hu => (List.mem_append.1 hu).elim (bsc_one h u) (hcs_one r u)
theorem lenB_h (l : List Hx) : lenB (hcs l) 32 = l.length := by
  show (hcs l).length / 32 = _
  rw [hcs_len, Nat.mul_div_cancel _ (by decide)]
theorem info_h : ∃ i z, Tryd.prog.info? 28 = some i ∧ i.size = 32 ∧ i.bytes = 32 ∧ i.zero = some z ∧ z.cells.size = 32 := by
  have h1 : (Tryd.prog.info? 28).map (fun i => (i.size, i.bytes, i.zero.map (fun z => z.cells.size))) = some (32, 32, some 32) := by kernel_rfl
  cases h : Tryd.prog.info? 28 with
  | none => rw [h] at h1; cases h1
  | some i =>
    rw [h] at h1
    simp only [Option.map_some, Option.some.injEq, Prod.mk.injEq] at h1
    cases hz : i.zero with
    | none => rw [hz] at h1; simp at h1
    | some z => rw [hz] at h1; simp at h1; exact ⟨i, z, rfl, h1.1, h1.2.1, hz, h1.2.2⟩

/-- A slice of hashes, nil or not: where it lies, what it holds, and the memory that shows it. -/
structure Hss where
  o : Option Addr
  n : Nat
  cap : Nat
  l : List Hx
  L : Facts
  hl : l.length = n
  hc : n ≤ cap
  hs : 0 < n → o.isSome = true
  h : ∀ w, Sx.Holds w L → ∀ i, i < n → ∃ b k, (o.getD ⟨0, 0, none⟩).add (i * 32) = ⟨b, k, none⟩ ∧ World.rangeAt w b k (bsc (l.getD i H0) 32)
abbrev Hss.v (y : Hss) : Value := .slice y.o y.n y.cap
theorem Hss.idx (y : Hss) {i : Int} (h0 : 0 ≤ i) (h1 : i < y.n) : idxOk y.o i y.n := by
  have := y.hs (by omega)
  cases e : y.o with
  | none => rw [e] at this; cases this
  | some a => exact ⟨h0, h1⟩
theorem Hss.load (y : Hss) {j : Int} (i : Nat) (e : j = i) (hi : i < y.n) {A : Facts} (hA : Sub y.L A) : ∀ w, Sx.Holds w A → (loadVar 28 ((y.o.getD ⟨0, 0, none⟩).add (j.toNat * 32))).run Tryd.prog w = .ok (H8 (y.l.getD i H0)) w := by
  intro w hw
  subst e
  obtain ⟨b, k, h1, h2⟩ := y.h w (hA.holds hw) i hi
  rw [Int.toNat_natCast, h1]
  exact run_loadVar_mid w b k _ _ _ h2 Tryd.underlying28 rfl (by kernel_rfl)
def Hss.nil : Hss where
  o := none
  n := 0
  cap := 0
  l := []
  L := []
  hl := rfl
  hc := Nat.le_refl _
  hs := fun h => absurd h (by decide)
  h := fun _ _ i hi => absurd hi (by omega)
theorem addH (a : Addr) (i j : Nat) : (a.add i).add j = a.add (i + j) := by
  unfold Addr.add
  split <;> split <;> simp_all <;> omega
/-- The part from l to h. -/
def Hss.sub (y : Hss) (l h : Nat) (hlh : l ≤ h) (hh : h ≤ y.n) : Hss where
  o := subO y.o y.cap l 32
  n := h - l
  cap := y.cap - l
  l := (y.l.drop l).take (h - l)
  L := y.L
  hl := by simp [y.hl]; omega
  hc := by have := y.hc; omega
  hs := fun h0 => by
    have := y.hs (by omega)
    unfold subO
    split
    · exact this
    · cases e : y.o with
      | none => rw [e] at this; cases this
      | some a => rfl
  h := fun w hw i hi => by
    obtain ⟨b, k, h1, h1'⟩ := y.h w hw (l + i) (by omega)
    have h2 := y.hs (by omega)
    have h3 := y.hc
    refine ⟨b, k, ?_, ?_⟩
    · unfold subO
      rw [if_neg (by omega)]
      cases e : y.o with
      | none => rw [e] at h2; cases h2
      | some a =>
        rw [e] at h1
        simp only [Option.getD_some, Option.map_some] at h1 ⊢
        rw [addH, ← Nat.add_mul]
        exact h1
    · have e : ((y.l.drop l).take (h - l)).getD i H0 = y.l.getD (l + i) H0 := by simp [List.getD, List.getElem?_drop, hi]
      rw [e]; exact h1'
/-- A row of hashes that lies in memory, something behind it. -/
theorem rows_range {w : World} {m : Nat} {l : List Hx} {sp : List Value} {e : TypeId} (h : w.heap[m]? = some (.cells (hcs l ++ sp).toArray e)) {i : Nat} (hi : i < l.length) : World.rangeAt w m (i * 32) (bsc (l.getD i H0) 32) := by
  intro j v hj
  have hj32 : j < 32 := by have := (List.getElem?_eq_some_iff.1 hj).1; rwa [bsc_len] at this
  simp only [World.cell?, h]
  have : (hcs l ++ sp)[i * 32 + j]? = some v := by
    rw [List.getElem?_append_left (by rw [hcs_len]; omega), hcs_get l i j hi hj32]; exact hj
  simpa using this
/-- A buffer that was given away. -/
def Hss.ofFr (c : List Value) (l : List Hx) (e : c = hcs l) (x : FrX c) : Hss where
  o := frO x
  n := lenB c 32
  cap := frC 32 x
  l := l
  L := frL 28 x
  hl := by subst e; exact (lenB_h l).symm
  hc := by
    cases x with
    | inl q => have := q.1.down; subst this; exact Nat.le_refl _
    | inr q => show c.length / 32 ≤ (c.length + q.2.length) / 32; exact Nat.div_le_div_right (by omega)
  hs := fun h => by
    cases x with
    | inl q => have := q.1.down; rw [this] at h; exact absurd h (by decide)
    | inr q => rfl
  h := fun w hw i hi => by
    cases x with
    | inl q => have := q.1.down; rw [this] at hi; exact absurd hi (by simp [lenB])
    | inr q =>
      have h1 := hw _ (List.mem_singleton.2 rfl)
      simp only at h1
      refine ⟨q.1, i * 32, by simp only [frO, Option.getD_some, add_none, Nat.zero_add], ?_⟩
      subst e
      exact rows_range h1 (by rw [lenB_h] at hi; exact hi)
def Hss.fr (l : List Hx) (x : FrX (hcs l)) : Hss := Hss.ofFr (hcs l) l rfl x
/-- Another name for the same contents. -/
def frCast {c c' : List Value} (e : c = c') (x : FrX c) : FrX c' := e ▸ x
theorem frO_cast {c c' : List Value} (e : c = c') (x : FrX c) : frO (frCast e x) = frO x := by subst e; rfl
theorem frC_cast {c c' : List Value} (e : c = c') (x : FrX c) (n : Nat) : frC n (frCast e x) = frC n x := by subst e; rfl
theorem frOk_cast {c c' : List Value} (e : c = c') (x : FrX c) (n : Nat) (h : FrOk n x) : FrOk n (frCast e x) := by subst e; exact h
theorem frL_cast {c c' : List Value} (e : c = c') (x : FrX c) (t : TypeId) : frL t (frCast e x) = frL t x := by subst e; rfl

/-- Where the list of n leaves is cut: the greatest power of two below n. -/
def spl (n : Nat) : Nat := 2 ^ Nat.log2 (n - 1)
theorem spl_pos (n : Nat) : 0 < spl n := Nat.two_pow_pos _
theorem spl_lt {n : Nat} (h : 2 ≤ n) : spl n < n := by
  have := Nat.log2_self_le (n := n - 1) (by omega)
  unfold spl; omega
theorem spl_ge {n : Nat} (h : 2 ≤ n) : n ≤ 2 * spl n := by
  have := Nat.lt_log2_self (n := n - 1)
  unfold spl
  rw [Nat.pow_succ] at this
  omega
theorem spl_eq {n k : Nat} (h1 : 2 ^ k < n) (h2 : n ≤ 2 * 2 ^ k) : spl n = 2 ^ k := by
  unfold spl
  have h0 : 0 < 2 ^ k := Nat.two_pow_pos _
  have : Nat.log2 (n - 1) = k := (Nat.log2_eq_iff (by omega)).2 ⟨by omega, by rw [Nat.pow_succ]; omega⟩
  rw [this]
/-- The hash of two. -/
def nodeF (x y : Hx) : Hx := dgF (sha ([1] ++ bl x ++ bl y))
def emptyF : Hx := dgF (sha [])
def rootF (l : List Hx) : Hx :=
  if _h : 2 ≤ l.length then nodeF (rootF (l.take (spl l.length))) (rootF (l.drop (spl l.length))) else l.headD emptyF
termination_by l.length
decreasing_by
  · have := spl_lt _h; simp; omega
  · have := spl_lt _h; have := spl_pos l.length; simp; omega
theorem root_2 {l : List Hx} (h : 2 ≤ l.length) : rootF l = nodeF (rootF (l.take (spl l.length))) (rootF (l.drop (spl l.length))) := by
  rw [rootF, dif_pos h]
theorem root_0 : rootF [] = emptyF := by rw [rootF, dif_neg (by decide)]; rfl
theorem root_1 {l : List Hx} (h : l.length = 1) : rootF l = l.getD 0 H0 := by
  rw [rootF, dif_neg (by omega)]
  cases l with
  | nil => cases h
  | cons x r => rfl
def proofF (l : List Hx) (i : Nat) : List Hx :=
  if _h : 2 ≤ l.length then
    if i < spl l.length then proofF (l.take (spl l.length)) i ++ [rootF (l.drop (spl l.length))]
    else proofF (l.drop (spl l.length)) (i - spl l.length) ++ [rootF (l.take (spl l.length))]
  else []
termination_by l.length
decreasing_by
  · have := spl_lt _h; simp; omega
  · have := spl_lt _h; have := spl_pos l.length; simp; omega
theorem proof_l {l : List Hx} {i : Nat} (h : 2 ≤ l.length) (hi : i < spl l.length) : proofF l i = proofF (l.take (spl l.length)) i ++ [rootF (l.drop (spl l.length))] := by
  rw [proofF, dif_pos h, if_pos hi]
theorem proof_r {l : List Hx} {i : Nat} (h : 2 ≤ l.length) (hi : ¬ i < spl l.length) : proofF l i = proofF (l.drop (spl l.length)) (i - spl l.length) ++ [rootF (l.take (spl l.length))] := by
  rw [proofF, dif_pos h, if_neg hi]
theorem proof_0 {l : List Hx} {i : Nat} (h : l.length < 2) : proofF l i = [] := by
  rw [proofF, dif_neg (by omega)]
/-- The root that a proof shows; the proof is read from its end. -/
def upR : Nat → Nat → Hx → List Hx → Option Hx
  | n, _, x, [] => if n = 1 then some x else none
  | n, i, x, y :: q => if n = 1 then none else if i < spl n then (upR (spl n) i x q).map (nodeF · y) else (upR (n - spl n) (i - spl n) x q).map (nodeF y ·)
theorem up_proof : ∀ (k : Nat) (l : List Hx) (i : Nat), l.length = k → i < l.length → upR l.length i (l.getD i H0) (proofF l i).reverse = some (rootF l) := by
  intro k
  induction k using Nat.strongRecOn with
  | ind k ih =>
    intro l i hk hi
    by_cases h : 2 ≤ l.length
    · have h1 := spl_lt h
      have h2 := spl_pos l.length
      have e : ¬ l.length = 1 := by omega
      by_cases hs : i < spl l.length
      · rw [proof_l h hs, List.reverse_append, List.reverse_singleton, List.singleton_append, upR, if_neg e, if_pos hs, root_2 h]
        have hl : (l.take (spl l.length)).length = spl l.length := by simp; omega
        have := ih (spl l.length) (by omega) (l.take (spl l.length)) i hl (by omega)
        rw [hl] at this
        have e2 : (l.take (spl l.length)).getD i H0 = l.getD i H0 := by simp [List.getD, hs]
        rw [e2] at this
        rw [this]
        rfl
      · rw [proof_r h hs, List.reverse_append, List.reverse_singleton, List.singleton_append, upR, if_neg e, if_neg hs, root_2 h]
        have hl : (l.drop (spl l.length)).length = l.length - spl l.length := by simp
        have := ih (l.length - spl l.length) (by omega) (l.drop (spl l.length)) (i - spl l.length) hl (by omega)
        rw [hl] at this
        have e2 : (l.drop (spl l.length)).getD (i - spl l.length) H0 = l.getD i H0 := by
          simp only [List.getD, List.getElem?_drop]
          rw [show spl l.length + (i - spl l.length) = i by omega]
        rw [e2] at this
        rw [this]
        rfl
    · have h1 : l.length = 1 := by omega
      rw [proof_0 (by omega), root_1 h1, List.reverse_nil, upR, if_pos h1, show i = 0 by omega]
theorem proof_len : ∀ (k : Nat) (l : List Hx) (i : Nat), l.length = k → (proofF l i).length ≤ l.length := by
  intro k
  induction k using Nat.strongRecOn with
  | ind k ih =>
    intro l i hk
    by_cases h : 2 ≤ l.length
    · have h1 := spl_lt h
      have h2 := spl_pos l.length
      by_cases hs : i < spl l.length
      · have hl : (l.take (spl l.length)).length = spl l.length := by simp; omega
        have := ih _ (by omega) _ i hl
        rw [proof_l h hs, List.length_append, List.length_singleton]; omega
      · have hl : (l.drop (spl l.length)).length = l.length - spl l.length := by simp
        have := ih _ (by omega) _ (i - spl l.length) hl
        rw [proof_r h hs, List.length_append, List.length_singleton]; omega
    · rw [proof_0 (by omega)]; simp
def eqH (x y : Hx) : Bool := cellsEq (bsc x 32) (bsc y 32)
/-- What Verify answers. -/
def verB (root : Hx) (n i : Int) (x : Hx) (p : List Hx) : Bool :=
  if i < 0 ∨ n ≤ i then false else match upR n.toNat i.toNat x p.reverse with
    | some r => eqH r root
    | none => false
section
variable {ρ : Operand → Value} {dst : Option Tmp} {type : TypeId} {pos : String} {after : Array Edge} {guard : Option (Nat × Bool)}
/-- []api.Hash{h}. -/
theorem build_h (h : Hx) (A : Facts) {x : Operand} (hx : ρ x = H8 h := by rfl) : GivesOp Tryd.prog (execOp ρ ⟨dst, .buildSlice 22 1 #[(0, x)], type, pos, after, guard⟩) A Nat (fun m => .slice (some ⟨m, 0, none⟩) 1 1) (fun m => [(m, .cells (bsc h 32).toArray 28)]) := by
  obtain ⟨i, z, hi, hs, _, hz, hzs⟩ := info_h
  refine gives_alloc (F := []) id (.cells (bsc h 32).toArray 28) (fun w => ?_) (fun k => rfl) (fun _ h => by cases h)
  have hf : Instr.fill (fun j => some (j * 32, 32)) ((Array.range (1 * 32)).map (z.cells[· % z.cells.size]!)) [(0, H8 h)] = some (bsc h 32).toArray := by
    have hsz : ((Array.range (1 * 32)).map (z.cells[· % z.cells.size]!)).size = 32 := by simp
    refine fill_sound (fun j => some (j * 32, 32)) [(0, H8 h)] ((Array.range (1 * 32)).map (z.cells[· % z.cells.size]!)).toList (bsc h 32) ?_
    unfold fillL fillL
    simp only
    have e1 : Nat.beq (H8 h).cells.toList.length 32 = true := rfl
    have e2 : Nat.ble (0 * 32 + 32) ((Array.range (1 * 32)).map (z.cells[· % z.cells.size]!)).toList.length = true := by rw [Array.length_toList, hsz]; rfl
    rw [e1, e2]
    simp only [Bool.and_self, cond_true, Option.some.injEq]
    have e3 : (H8 h).cells.toList = bsc h 32 := rfl
    rw [e3]
    unfold setRange
    rw [Nat.zero_mul, List.take_zero, List.nil_append, bsc_len, List.drop_of_length_le (by rw [Array.length_toList, hsz]; decide), List.append_nil]
  have hb := run_buildSlice w 22 28 1 #[(0, H8 h)] (bsc h 32).toArray i z Tryd.underlying22 hi hz (by rw [hs]; decide) (by rw [hs]; decide) (by rw [hs]; exact hf)
  simp [execOp, hx, hb]
end
end Go.Proofs.YtgbfolkpgmjaeaaDoor

