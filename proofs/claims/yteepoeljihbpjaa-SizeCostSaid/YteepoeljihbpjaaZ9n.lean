/- Layer 9: compression and its inverse as functions on lists of bytes, and what is true of them. No Go function in this text; no conditions. -/
import Derived.Test.YteepoeljihbpjaaSxb
namespace Go.Proofs.Yteepoeljihbpjaa

abbrev Bs := List UInt8
/-- How many of the next k bytes from i on equal those at distance d. -/
def mrun (l : Bs) (d : Nat) : Nat → Nat → Nat
  | _, 0 => 0
  | i, k + 1 => if l.getD i 0 = l.getD (i - d) 0 then mrun l d (i + 1) k + 1 else 0
theorem mrun_le (l : Bs) (d : Nat) : ∀ k i, mrun l d i k ≤ k
  | 0, _ => Nat.le_refl _
  | k + 1, i => by
    unfold mrun
    split
    · exact Nat.succ_le_succ (mrun_le l d k (i + 1))
    · exact Nat.zero_le _
theorem mrun_eq (l : Bs) (d : Nat) : ∀ k i j, d ≤ i → j < mrun l d i k → l.getD (i + j) 0 = l.getD (i + j - d) 0
  | 0, i, j, _, h => absurd h (Nat.not_lt_zero _)
  | k + 1, i, j, hd, h => by
    unfold mrun at h
    split at h
    · rename_i e
      cases j with
      | zero => exact e
      | succ j =>
        have := mrun_eq l d k (i + 1) j (by omega) (by omega)
        rw [show i + (j + 1) = i + 1 + j by omega]; exact this
    · exact absurd h (Nat.not_lt_zero _)
theorem mrun_of (l : Bs) (d : Nat) : ∀ k i n, n ≤ k → (∀ j, j < n → l.getD (i + j) 0 = l.getD (i + j - d) 0) → (n = k ∨ l.getD (i + n) 0 ≠ l.getD (i + n - d) 0) → mrun l d i k = n
  | 0, i, n, h, _, _ => by unfold mrun; omega
  | k + 1, i, n, h, h1, h2 => by
    unfold mrun
    cases n with
    | zero =>
      rw [if_neg]
      rcases h2 with h2 | h2
      · omega
      · exact h2
    | succ n =>
      rw [if_pos (show l.getD i 0 = l.getD (i - d) 0 from h1 0 (by omega))]
      rw [mrun_of l d k (i + 1) n (by omega) (fun j hj => by have := h1 (j + 1) (by omega); rw [show i + 1 + j = i + (j + 1) by omega]; exact this) (by
        rcases h2 with h2 | h2
        · left; omega
        · right; rw [show i + 1 + n = i + (n + 1) by omega]; exact h2)]
/-- The length of the match at i with distance d. -/
def mlen (l : Bs) (i d : Nat) : Nat := mrun l d i (min 131 (l.length - i))
theorem mlen_le (l : Bs) (i d : Nat) : mlen l i d ≤ min 131 (l.length - i) := mrun_le l d _ i
/-- The longest match among the distances up to the second number, and its smallest distance. -/
def bestTo (l : Bs) (i : Nat) : Nat → Nat × Nat
  | 0 => (0, 0)
  | d + 1 => if (bestTo l i d).1 < mlen l i (d + 1) then (mlen l i (d + 1), d + 1) else bestTo l i d
theorem bestTo_le (l : Bs) (i : Nat) : ∀ d, (bestTo l i d).1 ≤ min 131 (l.length - i)
  | 0 => Nat.zero_le _
  | d + 1 => by
    unfold bestTo
    split
    · exact mlen_le l i (d + 1)
    · exact bestTo_le l i d
theorem bestTo_d (l : Bs) (i : Nat) : ∀ d, (bestTo l i d).2 ≤ d ∧ (0 < (bestTo l i d).1 → 1 ≤ (bestTo l i d).2 ∧ (bestTo l i d).1 = mlen l i (bestTo l i d).2)
  | 0 => ⟨Nat.le_refl _, fun h => absurd h (Nat.lt_irrefl _)⟩
  | d + 1 => by
    have ih := bestTo_d l i d
    unfold bestTo
    split
    · exact ⟨Nat.le_refl _, fun _ => ⟨by simp, rfl⟩⟩
    · exact ⟨by omega, ih.2⟩
theorem bestTo_mono (l : Bs) (i : Nat) {d : Nat} : ∀ e, d ≤ e → (bestTo l i d).1 ≤ (bestTo l i e).1
  | 0, h => by rw [Nat.le_zero.1 h]; exact Nat.le_refl _
  | e + 1, h => by
    rcases Nat.lt_or_ge d (e + 1) with h1 | h1
    · have := bestTo_mono l i (d := d) e (by omega)
      have h2 : (bestTo l i e).1 ≤ (bestTo l i (e + 1)).1 := by
        conv => rhs; unfold bestTo
        split
        · simp; omega
        · exact Nat.le_refl _
      omega
    · rw [show d = e + 1 by omega]; exact Nat.le_refl _
theorem bestTo_keep (l : Bs) (i : Nat) {d : Nat} : ∀ e, d ≤ e → (∀ x, d < x → x ≤ e → mlen l i x ≤ (bestTo l i d).1) → bestTo l i e = bestTo l i d
  | 0, h, _ => by rw [Nat.le_zero.1 h]
  | e + 1, h, hx => by
    rcases Nat.lt_or_ge d (e + 1) with h1 | h1
    · have ih := bestTo_keep l i (d := d) e (by omega) (fun x h2 h3 => hx x h2 (by omega))
      have := hx (e + 1) h1 (Nat.le_refl _)
      conv => lhs; unfold bestTo
      rw [ih, if_neg (by omega)]
    · rw [show d = e + 1 by omega]
/-- The best match at i. -/
def best (l : Bs) (i : Nat) : Nat × Nat := bestTo l i (min 1024 i)
/-- The same, where it is worth a token. -/
def found (l : Bs) (i : Nat) : Nat × Nat := if 4 ≤ (best l i).1 then best l i else (0, 0)

/-! What the search through positions of one hash has seen. -/
def Seen (l : Bs) (i d : Nat) (b : Nat × Nat) : Prop := b.1 ≤ (bestTo l i d).1 ∧ (4 ≤ (bestTo l i d).1 → b = bestTo l i d)
theorem seen_zero (l : Bs) (i : Nat) : Seen l i 0 (0, 0) := ⟨Nat.zero_le _, fun _ => rfl⟩
theorem seen_skip {l : Bs} {i d : Nat} {b : Nat × Nat} (h : Seen l i d b) : ∀ e, d ≤ e → (∀ x, d < x → x ≤ e → mlen l i x < 4) → Seen l i e b
  | 0, h0, _ => by rw [Nat.le_zero.1 h0] at h; exact h
  | e + 1, h0, hx => by
    rcases Nat.lt_or_ge d (e + 1) with h1 | h1
    · have ih := seen_skip h e (by omega) (fun x h2 h3 => hx x h2 (by omega))
      have hm := hx (e + 1) h1 (Nat.le_refl _)
      unfold Seen bestTo
      split
      · exact ⟨by have := ih.1; show b.1 ≤ mlen l i (e + 1); omega, fun h4 => by have h4 : 4 ≤ mlen l i (e + 1) := h4; omega⟩
      · exact ih
    · rw [show e + 1 = d by omega]; exact h
theorem seen_step {l : Bs} {i d : Nat} {b : Nat × Nat} (h : Seen l i d b) : Seen l i (d + 1) (if b.1 < mlen l i (d + 1) then (mlen l i (d + 1), d + 1) else b) := by
  have h1 := h.1
  have h2 := h.2
  unfold Seen bestTo
  by_cases h4 : 4 ≤ (bestTo l i d).1
  · rw [h2 h4]
    split <;> exact ⟨Nat.le_refl _, fun _ => rfl⟩
  · by_cases h5 : 4 ≤ mlen l i (d + 1)
    · rw [if_pos (by omega), if_pos (by omega)]
      exact ⟨Nat.le_refl _, fun _ => rfl⟩
    · constructor
      · split <;> split
        · exact Nat.le_refl _
        · have : (mlen l i (d + 1), d + 1).1 = mlen l i (d + 1) := rfl
          omega
        · have : (mlen l i (d + 1), d + 1).1 = mlen l i (d + 1) := rfl
          omega
        · omega
      · intro h6
        exfalso
        split at h6
        · have : (mlen l i (d + 1), d + 1).1 = mlen l i (d + 1) := rfl
          omega
        · omega
theorem seen_found {l : Bs} {i : Nat} {b : Nat × Nat} (h : Seen l i (min 1024 i) b) : (if b.1 < 4 then (0, 0) else b) = found l i := by
  unfold found
  have h1 := h.1
  have h2 := h.2
  show _ = if 4 ≤ (bestTo l i (min 1024 i)).1 then bestTo l i (min 1024 i) else (0, 0)
  by_cases h4 : 4 ≤ (bestTo l i (min 1024 i)).1
  · rw [if_pos h4, ← h2 h4, if_neg]
    rw [← h2 h4] at h4; omega
  · rw [if_neg h4, if_pos (by omega)]
theorem seen_full {l : Bs} {i d : Nat} {b : Nat × Nat} (h : Seen l i d b) (hb : min 131 (l.length - i) ≤ b.1) {e : Nat} (hd : d ≤ e) : Seen l i e b := by
  have h1 := h.1
  have h2 := h.2
  have h3 := bestTo_le l i d
  have e1 : bestTo l i e = bestTo l i d := bestTo_keep l i e hd fun x _ _ => by have := mlen_le l i x; omega
  unfold Seen
  rw [e1]
  exact h

/-! Tokens. -/
def litsF : Nat → Bs → Bs
  | 0, _ => []
  | k + 1, l => if l = [] then [] else UInt8.ofNat (min l.length 127) :: (l.take 127 ++ litsF k (l.drop 127))
def lits (l : Bs) : Bs := litsF l.length l
theorem litsF_any : ∀ k m (l : Bs), l.length ≤ k → l.length ≤ m → litsF k l = litsF m l
  | 0, m, l, h, _ => by
    have : l = [] := List.length_eq_zero_iff.1 (by omega)
    subst this
    cases m <;> simp [litsF]
  | k + 1, 0, l, _, h => by
    have : l = [] := List.length_eq_zero_iff.1 (by omega)
    subst this
    simp [litsF]
  | k + 1, m + 1, l, h1, h2 => by
    unfold litsF
    split
    · rfl
    · rename_i hl
      have : 0 < l.length := List.length_pos_iff.2 hl
      rw [litsF_any k m (l.drop 127) (by simp; omega) (by simp; omega)]
theorem lits_nil : lits [] = [] := rfl
theorem lits_cons {l : Bs} (h : 0 < l.length) : lits l = UInt8.ofNat (min l.length 127) :: (l.take 127 ++ lits (l.drop 127)) := by
  unfold lits
  obtain ⟨k, hk⟩ : ∃ k, l.length = k + 1 := ⟨l.length - 1, by omega⟩
  conv => lhs; rw [hk]; unfold litsF
  rw [if_neg (List.length_pos_iff.1 h), litsF_any k (l.drop 127).length _ (by simp; omega) (Nat.le_refl _)]
theorem lits_len : ∀ (k : Nat) (l : Bs), l.length ≤ k → (lits l).length = l.length + (l.length + 126) / 127
  | 0, l, h => by
    have : l = [] := List.length_eq_zero_iff.1 (by omega)
    subst this; rfl
  | k + 1, l, h => by
    rcases Nat.eq_zero_or_pos l.length with h0 | h0
    · have : l = [] := List.length_eq_zero_iff.1 h0
      subst this; rfl
    · rw [lits_cons h0]
      simp only [List.length_cons, List.length_append, List.length_take]
      rw [lits_len k (l.drop 127) (by simp; omega), List.length_drop]
      omega
/-- A match's token. -/
def tok (n d : Nat) : Bs := [UInt8.ofNat (n + 124), UInt8.ofNat ((d - 1) / 256), UInt8.ofNat ((d - 1) % 256)]
def compF (l : Bs) : Nat → Nat → Nat → Bs
  | 0, s, _ => lits (l.drop s)
  | k + 1, s, i => if i < l.length then (if (best l i).1 < 4 then compF l k s (i + 1) else lits ((l.drop s).take (i - s)) ++ (tok (best l i).1 (best l i).2 ++ compF l k (i + (best l i).1) (i + (best l i).1))) else lits (l.drop s)
/-- What is still to come at i, with the literals from s on. -/
def compS (l : Bs) (s i : Nat) : Bs := compF l (l.length - i) s i
def comp (l : Bs) : Bs := compS l 0 0
theorem compF_any (l : Bs) : ∀ k m s i, l.length - i ≤ k → l.length - i ≤ m → compF l k s i = compF l m s i
  | 0, m, s, i, h, _ => by
    cases m with
    | zero => rfl
    | succ m => unfold compF; rw [if_neg (by omega)]
  | k + 1, 0, s, i, _, h => by
    show _ = lits _
    unfold compF; rw [if_neg (by omega)]
  | k + 1, m + 1, s, i, h1, h2 => by
    unfold compF
    split
    · split
      · exact compF_any l k m s (i + 1) (by omega) (by omega)
      · rw [compF_any l k m _ (i + (best l i).1) (by omega) (by omega)]
    · rfl
theorem comp_end {l : Bs} {s i : Nat} (h : l.length ≤ i) : compS l s i = lits (l.drop s) := by
  unfold compS; rw [show l.length - i = 0 by omega]; rfl
theorem comp_lit {l : Bs} {s i : Nat} (h : i < l.length) (h4 : (best l i).1 < 4) : compS l s i = compS l s (i + 1) := by
  unfold compS
  obtain ⟨k, hk⟩ : ∃ k, l.length - i = k + 1 := ⟨l.length - i - 1, by omega⟩
  conv => lhs; rw [hk]; unfold compF
  rw [if_pos h, if_pos h4, compF_any l k (l.length - (i + 1)) _ _ (by omega) (by omega)]
theorem comp_match {l : Bs} {s i : Nat} (h : i < l.length) (h4 : 4 ≤ (best l i).1) : compS l s i = lits ((l.drop s).take (i - s)) ++ (tok (best l i).1 (best l i).2 ++ compS l (i + (best l i).1) (i + (best l i).1)) := by
  unfold compS
  obtain ⟨k, hk⟩ : ∃ k, l.length - i = k + 1 := ⟨l.length - i - 1, by omega⟩
  conv => lhs; rw [hk]; unfold compF
  rw [if_pos h, if_neg (by omega), compF_any l k (l.length - (i + (best l i).1)) _ _ (by omega) (by omega)]
theorem best_1 (l : Bs) (i : Nat) : (best l i).1 ≤ 131 ∧ (best l i).1 ≤ l.length - i := by have := bestTo_le l i (min 1024 i); unfold best; omega
theorem best_2 {l : Bs} {i : Nat} (h : 0 < (best l i).1) : 1 ≤ (best l i).2 ∧ (best l i).2 ≤ 1024 ∧ (best l i).2 ≤ i ∧ (best l i).1 = mlen l i (best l i).2 := by
  have := bestTo_d l i (min 1024 i)
  have h2 := this.2 h
  unfold best at *
  exact ⟨h2.1, by omega, by omega, h2.2⟩
theorem found_pos {l : Bs} {i : Nat} (h : 0 < (found l i).1) : found l i = best l i ∧ 4 ≤ (best l i).1 := by
  unfold found at *
  split at h
  · rename_i h4; exact ⟨if_pos h4, h4⟩
  · exact absurd h (Nat.lt_irrefl _)
theorem found_zero {l : Bs} {i : Nat} (h : ¬ 0 < (found l i).1) : (best l i).1 < 4 := by
  unfold found at h
  split at h
  · exact absurd (by omega) h
  · omega
theorem comp_len (l : Bs) : ∀ (k s i : Nat), l.length - i ≤ k → s ≤ i → i ≤ l.length → (compS l s i).length ≤ (l.length - s) + (l.length - s + 126) / 127 := by
  intro k
  induction k with
  | zero =>
    intro s i h1 h2 h3
    rw [comp_end (by omega), lits_len _ _ (Nat.le_refl _), List.length_drop]; exact Nat.le_refl _
  | succ k ih =>
    intro s i h1 h2 h3
    rcases Nat.lt_or_ge i l.length with h | h
    · by_cases h4 : (best l i).1 < 4
      · rw [comp_lit h h4]; exact ih s (i + 1) (by omega) (by omega) (by omega)
      · have hb := best_1 l i
        rw [comp_match h (by omega)]
        have := ih (i + (best l i).1) (i + (best l i).1) (by omega) (Nat.le_refl _) (by omega)
        simp only [List.length_append, lits_len _ _ (Nat.le_refl _), List.length_take, List.length_drop]
        rw [Nat.min_eq_left (by omega), show (tok (best l i).1 (best l i).2).length = 3 from rfl]
        generalize (best l i).1 = n at *
        omega
    · rw [comp_end h, lits_len _ _ (Nat.le_refl _), List.length_drop]; exact Nat.le_refl _
theorem comp_bound (l : Bs) : (comp l).length ≤ l.length + (l.length + 126) / 127 := comp_len l l.length 0 0 (by omega) (Nat.le_refl _) (Nat.zero_le _)

/-! Tokens carried out. -/
def copyB (o : Bs) (d : Nat) : Nat → Bs
  | 0 => o
  | n + 1 => copyB o d n ++ [(copyB o d n).getD ((copyB o d n).length - d) 0]
theorem copy_len (o : Bs) (d : Nat) : ∀ n, (copyB o d n).length = o.length + n
  | 0 => rfl
  | n + 1 => by unfold copyB; rw [List.length_append, copy_len o d n]; rfl
def decF : Nat → Bs → Bs → Nat × Bs
  | 0, o, _ => (0, o)
  | _ + 1, o, [] => (0, o)
  | k + 1, o, t :: r =>
    if t.toNat < 128 then
      if t.toNat = 0 ∨ r.length < t.toNat then (3, []) else if 65536 < o.length + t.toNat then (6, []) else decF k (o ++ r.take t.toNat) (r.drop t.toNat)
    else if r.length < 2 then (3, []) else if o.length < (r.getD 0 0).toNat * 256 + (r.getD 1 0).toNat + 1 then (3, []) else
      if 65536 < o.length + (t.toNat - 124) then (6, []) else decF k (copyB o ((r.getD 0 0).toNat * 256 + (r.getD 1 0).toNat + 1) (t.toNat - 124)) (r.drop 2)
def decS (o r : Bs) : Nat × Bs := decF r.length o r
def dec (l : Bs) : Nat × Bs := decS [] l
theorem decF_any : ∀ k m o r, r.length ≤ k → r.length ≤ m → decF k o r = decF m o r
  | 0, m, o, r, h, _ => by
    have : r = [] := List.length_eq_zero_iff.1 (by omega)
    subst this; cases m <;> rfl
  | k + 1, 0, o, r, _, h => by
    have : r = [] := List.length_eq_zero_iff.1 (by omega)
    subst this; rfl
  | k + 1, m + 1, o, [], _, _ => rfl
  | k + 1, m + 1, o, t :: r, h1, h2 => by
    rw [List.length_cons] at h1 h2
    unfold decF
    split
    · rw [decF_any k m _ (r.drop t.toNat) (by simp; omega) (by simp; omega)]
    · rw [decF_any k m _ (r.drop 2) (by simp; omega) (by simp; omega)]
theorem dec_nil (o : Bs) : decS o [] = (0, o) := rfl
theorem dec_cons (o : Bs) (t : UInt8) (r : Bs) : decS o (t :: r) = 
    if t.toNat < 128 then
      if t.toNat = 0 ∨ r.length < t.toNat then (3, []) else if 65536 < o.length + t.toNat then (6, []) else decS (o ++ r.take t.toNat) (r.drop t.toNat)
    else if r.length < 2 then (3, []) else if o.length < (r.getD 0 0).toNat * 256 + (r.getD 1 0).toNat + 1 then (3, []) else
      if 65536 < o.length + (t.toNat - 124) then (6, []) else decS (copyB o ((r.getD 0 0).toNat * 256 + (r.getD 1 0).toNat + 1) (t.toNat - 124)) (r.drop 2) := by
  unfold decS
  rw [List.length_cons]
  conv => lhs; unfold decF
  rw [decF_any r.length (r.drop t.toNat).length _ _ (by simp) (Nat.le_refl _), decF_any r.length (r.drop 2).length _ _ (by simp) (Nat.le_refl _)]
theorem drop_cons {l : Bs} {k : Nat} (h : k < l.length) : l.drop k = l.getD k 0 :: l.drop (k + 1) := by
  rw [List.drop_eq_getElem_cons h]
  simp [List.getD, h]
section
variable {l o : Bs} {k : Nat}
/-- One token at k. -/
theorem dec_lit_bad (h : k < l.length) (ht : (l.getD k 0).toNat < 128) (h1 : (l.getD k 0).toNat = 0 ∨ l.length - k - 1 < (l.getD k 0).toNat) : decS o (l.drop k) = (3, []) := by
  rw [drop_cons h, dec_cons, if_pos ht, if_pos]
  rw [List.length_drop]; omega
theorem dec_lit_big (h : k < l.length) (ht : (l.getD k 0).toNat < 128) (h1 : ¬ ((l.getD k 0).toNat = 0 ∨ l.length - k - 1 < (l.getD k 0).toNat)) (h2 : 65536 < o.length + (l.getD k 0).toNat) : decS o (l.drop k) = (6, []) := by
  rw [drop_cons h, dec_cons, if_pos ht, if_neg, if_pos h2]
  rw [List.length_drop]; omega
theorem dec_lit (h : k < l.length) (ht : (l.getD k 0).toNat < 128) (h1 : ¬ ((l.getD k 0).toNat = 0 ∨ l.length - k - 1 < (l.getD k 0).toNat)) (h2 : ¬ 65536 < o.length + (l.getD k 0).toNat) : decS o (l.drop k) = decS (o ++ (l.drop (k + 1)).take (l.getD k 0).toNat) (l.drop (k + 1 + (l.getD k 0).toNat)) := by
  conv => lhs; rw [drop_cons h, dec_cons, if_pos ht]
  rw [if_neg, if_neg h2, List.drop_drop]
  rw [List.length_drop]; omega
theorem drop_getD (l : Bs) (a b : Nat) : (l.drop a).getD b 0 = l.getD (a + b) 0 := by simp [List.getD, List.getElem?_drop]
/-- The distance that a token at k names. -/
def tokD (l : Bs) (k : Nat) : Nat := (l.getD (k + 1) 0).toNat * 256 + (l.getD (k + 2) 0).toNat + 1
theorem tokD_eq (l : Bs) (k : Nat) : ((l.drop (k + 1)).getD 0 0).toNat * 256 + ((l.drop (k + 1)).getD 1 0).toNat + 1 = tokD l k := by
  rw [drop_getD, drop_getD]; rfl
theorem dec_m_short (h : k < l.length) (ht : ¬ (l.getD k 0).toNat < 128) (h1 : l.length - k < 3) : decS o (l.drop k) = (3, []) := by
  rw [drop_cons h, dec_cons, if_neg ht, if_pos]
  rw [List.length_drop]; omega
theorem dec_m_far (h : k < l.length) (ht : ¬ (l.getD k 0).toNat < 128) (h1 : ¬ l.length - k < 3) (h2 : o.length < tokD l k) : decS o (l.drop k) = (3, []) := by
  rw [drop_cons h, dec_cons, if_neg ht, tokD_eq, if_neg, if_pos h2]
  rw [List.length_drop]; omega
theorem dec_m_big (h : k < l.length) (ht : ¬ (l.getD k 0).toNat < 128) (h1 : ¬ l.length - k < 3) (h2 : ¬ o.length < tokD l k) (h3 : 65536 < o.length + ((l.getD k 0).toNat - 124)) : decS o (l.drop k) = (6, []) := by
  rw [drop_cons h, dec_cons, if_neg ht, tokD_eq, if_neg, if_neg h2, if_pos h3]
  rw [List.length_drop]; omega
theorem dec_m (h : k < l.length) (ht : ¬ (l.getD k 0).toNat < 128) (h1 : ¬ l.length - k < 3) (h2 : ¬ o.length < tokD l k) (h3 : ¬ 65536 < o.length + ((l.getD k 0).toNat - 124)) : decS o (l.drop k) = decS (copyB o (tokD l k) ((l.getD k 0).toNat - 124)) (l.drop (k + 3)) := by
  rw [drop_cons h, dec_cons, if_neg ht, tokD_eq, if_neg, if_neg h2, if_neg h3, List.drop_drop]
  rw [List.length_drop]; omega
end

/-! Decompress inverts Compress. -/
theorem ofNat_lt {n : Nat} (h : n < 256) : (UInt8.ofNat n).toNat = n := by rw [UInt8.toNat_ofNat']; omega
theorem dec_lits : ∀ (k : Nat) (s o r : Bs), s.length ≤ k → o.length + s.length ≤ 65536 → decS o (lits s ++ r) = decS (o ++ s) r
  | 0, s, o, r, h, _ => by
    have : s = [] := List.length_eq_zero_iff.1 (by omega)
    subst this; rw [lits_nil, List.nil_append, List.append_nil]
  | k + 1, s, o, r, h, h2 => by
    rcases Nat.eq_zero_or_pos s.length with h0 | h0
    · have : s = [] := List.length_eq_zero_iff.1 h0
      subst this; rw [lits_nil, List.nil_append, List.append_nil]
    · rw [lits_cons h0, List.cons_append, dec_cons, ofNat_lt (by omega)]
      have e0 : min s.length 127 ≤ (s.take 127 ++ lits (s.drop 127) ++ r).length := by simp only [List.length_append, List.length_take]; omega
      rw [if_pos (by omega), if_neg (by omega), if_neg (by omega)]
      have e1 : (s.take 127).length = min s.length 127 := by simp; omega
      rw [List.append_assoc]
      have e2 : (s.take 127 ++ (lits (s.drop 127) ++ r)).take (min s.length 127) = s.take 127 := by
        rw [← e1, List.take_left']
        rfl
      have e3 : (s.take 127 ++ (lits (s.drop 127) ++ r)).drop (min s.length 127) = lits (s.drop 127) ++ r := by
        rw [← e1, List.drop_left']
        rfl
      rw [e2, e3, dec_lits k (s.drop 127) (o ++ s.take 127) r (by simp; omega) (by simp; omega), List.append_assoc, List.take_append_drop]
theorem copy_take (p l : Bs) {i d : Nat} (hd : 1 ≤ d) (hi : d ≤ i) : ∀ n, i + n ≤ l.length → (∀ j, j < n → l.getD (i + j) 0 = l.getD (i + j - d) 0) → copyB (p ++ l.take i) d n = p ++ l.take (i + n)
  | 0, _, _ => rfl
  | n + 1, h, he => by
    unfold copyB
    rw [copy_take p l hd hi n (by omega) (fun j hj => he j (by omega))]
    have e1 : (p ++ l.take (i + n)).length = p.length + (i + n) := by simp; omega
    have e2 : (p ++ l.take (i + n)).getD (p.length + (i + n) - d) 0 = l.getD (i + n) 0 := by
      rw [he n (by omega)]
      simp only [List.getD]
      rw [List.getElem?_append_right (by omega), List.getElem?_take_of_lt (by omega), show p.length + (i + n) - d - p.length = i + n - d by omega]
    rw [e1, e2, List.append_assoc]
    congr 1
    rw [← Nat.add_assoc i n 1, List.take_add_one]
    simp [List.getD, show i + n < l.length by omega]
theorem dec_tok {o r : Bs} {n d : Nat} (h4 : 4 ≤ n) (hn : n ≤ 131) (h1 : 1 ≤ d) (hd : d ≤ o.length) (hd2 : d ≤ 1024) (ho : o.length + n ≤ 65536) : decS o (tok n d ++ r) = decS (copyB o d n) r := by
  unfold tok
  rw [List.cons_append, dec_cons, ofNat_lt (by omega)]
  have e : ((([UInt8.ofNat ((d - 1) / 256), UInt8.ofNat ((d - 1) % 256)] : Bs) ++ r).getD 0 0).toNat * 256 + ((([UInt8.ofNat ((d - 1) / 256), UInt8.ofNat ((d - 1) % 256)] : Bs) ++ r).getD 1 0).toNat + 1 = d := by
    show (UInt8.ofNat ((d - 1) / 256)).toNat * 256 + (UInt8.ofNat ((d - 1) % 256)).toNat + 1 = d
    rw [ofNat_lt (by omega), ofNat_lt (by omega)]; omega
  rw [if_neg (by omega), if_neg (by simp), e, if_neg (by omega), if_neg (by omega), show n + 124 - 124 = n by omega]
  rfl
theorem take_drop_take (l : Bs) {s i : Nat} (h : s ≤ i) : l.take s ++ (l.drop s).take (i - s) = l.take i := by
  conv => rhs; rw [show i = s + (i - s) by omega, List.take_add]
theorem dec_compS (p l r : Bs) (hp : p.length + l.length ≤ 65536) : ∀ (k s i : Nat), l.length - i ≤ k → s ≤ i → i ≤ l.length → decS (p ++ l.take s) (compS l s i ++ r) = decS (p ++ l) r := by
  have fin : ∀ s, s ≤ l.length → decS (p ++ l.take s) (lits (l.drop s) ++ r) = decS (p ++ l) r := fun s hs => by
    rw [dec_lits _ _ _ _ (Nat.le_refl _) (by simp; omega), List.append_assoc, List.take_append_drop]
  intro k
  induction k with
  | zero =>
    intro s i h1 h2 h3
    rw [comp_end (by omega)]; exact fin s (by omega)
  | succ k ih =>
    intro s i h1 h2 h3
    rcases Nat.lt_or_ge i l.length with h | h
    · by_cases h4 : (best l i).1 < 4
      · rw [comp_lit h h4]; exact ih s (i + 1) (by omega) (by omega) (by omega)
      · have hb := best_1 l i
        obtain ⟨hb1, hb2, hb3, hb4⟩ := best_2 (l := l) (i := i) (by omega)
        have hm := mrun_eq l (best l i).2 (min 131 (l.length - i)) i
        rw [show mrun l (best l i).2 i (min 131 (l.length - i)) = (best l i).1 from hb4.symm] at hm
        rw [comp_match h (by omega), List.append_assoc, List.append_assoc, dec_lits _ _ _ _ (Nat.le_refl _) (by simp; omega), List.append_assoc, take_drop_take l h2]
        generalize (best l i).1 = n at *
        generalize (best l i).2 = d at *
        rw [dec_tok (by omega) hb.1 hb1 (by simp; omega) hb2 (by simp; omega), copy_take p l hb1 hb3 n (by omega) (fun j hj => hm j hb3 hj)]
        exact ih (i + n) (i + n) (by omega) (Nat.le_refl _) (by omega)
    · rw [comp_end h]; exact fin s (by omega)
theorem dec_comp_app (p l r : Bs) (hp : p.length + l.length ≤ 65536) : decS p (comp l ++ r) = decS (p ++ l) r := by
  have := dec_compS p l r hp l.length 0 0 (by omega) (Nat.le_refl _) (Nat.zero_le _)
  rw [List.take_zero, List.append_nil] at this
  exact this
theorem dec_comp (l : Bs) (h : l.length ≤ 65536) : dec (comp l) = (0, l) := by
  have := dec_comp_app [] l [] (by simpa using h)
  rw [List.append_nil, List.nil_append, dec_nil] at this
  exact this
theorem dec_comp2 (a b : Bs) (h : a.length + b.length ≤ 65536) : dec (comp a ++ comp b) = (0, a ++ b) := by
  unfold dec
  rw [dec_comp_app [] a _ (by simp; omega), List.nil_append]
  have := dec_comp_app a b [] h
  rw [List.append_nil, dec_nil] at this
  exact this


/-! Positions of one hash. -/
def zw4 (l : Bs) (p : Nat) : Nat := (((l.getD p 0).toNat * 256 + (l.getD (p + 1) 0).toNat) * 256 + (l.getD (p + 2) 0).toNat) * 256 + (l.getD (p + 3) 0).toNat
/-- The hash of the four bytes at p. -/
def hsh (l : Bs) (p : Nat) : Nat := zw4 l p * 2654435761 % 4294967296 / 2097152
theorem hsh_lt (l : Bs) (p : Nat) : hsh l p < 2048 := by unfold hsh; omega
theorem hsh_eq {l : Bs} {i d : Nat} (hd : d ≤ i) (h : 4 ≤ mlen l i d) : hsh l (i - d) = hsh l i := by
  have key := mrun_eq l d (min 131 (l.length - i)) i
  have h0 := key 0 hd (Nat.lt_of_lt_of_le (by decide) h)
  have h1 := key 1 hd (Nat.lt_of_lt_of_le (by decide) h)
  have h2 := key 2 hd (Nat.lt_of_lt_of_le (by decide) h)
  have h3 := key 3 hd (Nat.lt_of_lt_of_le (by decide) h)
  unfold hsh zw4
  rw [show i - d + 1 = i + 1 - d by omega, show i - d + 2 = i + 2 - d by omega, show i - d + 3 = i + 3 - d by omega, ← h1, ← h2, ← h3]
  rw [show l.getD (i - d) 0 = l.getD i 0 from h0.symm]
/-- One more than the last position below n with this hash, or zero. -/
def prevH (l : Bs) (h : Nat) : Nat → Nat
  | 0 => 0
  | n + 1 => if hsh l n = h then n + 1 else prevH l h n
theorem prevH_le (l : Bs) (h : Nat) : ∀ n, prevH l h n ≤ n
  | 0 => Nat.le_refl _
  | n + 1 => by
    have := prevH_le l h n
    unfold prevH
    split
    · exact Nat.le_refl _
    · omega
theorem prevH_is (l : Bs) (h : Nat) : ∀ n, 0 < prevH l h n → hsh l (prevH l h n - 1) = h
  | 0, hp => absurd hp (Nat.lt_irrefl _)
  | n + 1, hp => by
    have ih := prevH_is l h n
    unfold prevH at hp ⊢
    split
    · rename_i e; exact e
    · rename_i e; rw [if_neg e] at hp; exact ih hp
theorem prevH_no (l : Bs) (h : Nat) : ∀ n q, prevH l h n ≤ q → q < n → hsh l q ≠ h
  | 0, q, _, hq => absurd hq (Nat.not_lt_zero _)
  | n + 1, q, h1, h2 => by
    unfold prevH at h1
    split at h1
    · omega
    · rename_i e
      rcases Nat.lt_or_ge q n with h3 | h3
      · exact prevH_no l h n q h1 h3
      · rw [show q = n by omega]; exact e
/-- What is held for a place of the window once the positions below n are in. -/
def bef (l : Bs) (r : Nat) : Nat → Nat
  | 0 => 0
  | n + 1 => if n % 1024 = r then prevH l (hsh l n) n else bef l r n
theorem bef_at (l : Bs) {p : Nat} : ∀ n, p < n → n ≤ p + 1024 → bef l (p % 1024) n = prevH l (hsh l p) p
  | 0, h, _ => absurd h (Nat.not_lt_zero _)
  | n + 1, h1, h2 => by
    unfold bef
    rcases Nat.lt_or_ge p n with h3 | h3
    · rw [if_neg (by omega)]; exact bef_at l n h3 (by omega)
    · rw [show n = p by omega, if_pos rfl]
theorem bef_le (l : Bs) (r : Nat) : ∀ n, bef l r n ≤ n
  | 0 => Nat.le_refl _
  | n + 1 => by
    have := bef_le l r n
    unfold bef
    split
    · have := prevH_le l (hsh l n) n; omega
    · omega
/-- Where the search stands: all distances up to D are seen, 'held' is the next position of the hash, and one. -/
structure Srch (l : Bs) (i D held : Nat) (b : Nat × Nat) : Prop where
  seen : Seen l i D b
  hD : D ≤ 1024
  hi : D ≤ i
  le : held ≤ i - D
  no : ∀ q, held ≤ q → q < i - D → hsh l q ≠ hsh l i
  is : 0 < held → hsh l (held - 1) = hsh l i
theorem srch_0 (l : Bs) (i : Nat) : Srch l i 0 (prevH l (hsh l i) i) (0, 0) :=
  ⟨seen_zero l i, Nat.zero_le _, Nat.zero_le _, prevH_le _ _ _, fun q h1 h2 => prevH_no l _ i q h1 h2, prevH_is l _ i⟩
theorem srch_small {l : Bs} {i D held : Nat} {b : Nat × Nat} (h : Srch l i D held b) {d : Nat} (h1 : D < d) (h2 : d ≤ i) (h3 : held ≤ i - d) : mlen l i d < 4 := by
  rcases Nat.lt_or_ge (mlen l i d) 4 with h4 | h4
  · exact h4
  · exact absurd (hsh_eq h2 h4) (h.no (i - d) h3 (by omega))
theorem srch_step {l : Bs} {i D held : Nat} {b : Nat × Nat} (h : Srch l i D held b) (h0 : 0 < held) {d : Nat} (hd : d = i - (held - 1)) (h1 : d ≤ 1024) :
    Srch l i d (bef l ((held - 1) % 1024) i) (if b.1 < mlen l i d then (mlen l i d, d) else b) := by
  have h2 := h.le
  have h3 := h.hi
  obtain ⟨e, rfl⟩ : ∃ e, d = e + 1 := ⟨d - 1, by omega⟩
  have hb : bef l ((held - 1) % 1024) i = prevH l (hsh l i) (held - 1) := by
    rw [bef_at l (p := held - 1) i (by omega) (by omega), h.is h0]
  have e1 : i - (e + 1) = held - 1 := by omega
  rw [hb]
  refine ⟨seen_step (seen_skip h.seen e (by omega) fun x hx1 hx2 => srch_small h hx1 (by omega) (by omega)), h1, by omega, by rw [e1]; exact prevH_le _ _ _, fun q h4 h5 => ?_, fun h4 => prevH_is l _ _ h4⟩
  rw [e1] at h5
  exact prevH_no l _ _ q h4 h5
theorem srch_none {l : Bs} {i D : Nat} {b : Nat × Nat} (h : Srch l i D 0 b) : (if b.1 < 4 then (0, 0) else b) = found l i := by
  have := h.hD; have := h.hi
  exact seen_found (seen_skip h.seen (min 1024 i) (by omega) fun x h1 h2 => srch_small h h1 (by omega) (Nat.zero_le _))
theorem srch_far {l : Bs} {i D held : Nat} {b : Nat × Nat} (h : Srch l i D held b) (h1 : 1024 < i - (held - 1)) : (if b.1 < 4 then (0, 0) else b) = found l i := by
  have := h.hD; have := h.hi
  exact seen_found (seen_skip h.seen (min 1024 i) (by omega) fun x h1 h2 => srch_small h h1 (by omega) (by omega))
theorem srch_full {l : Bs} {i D held : Nat} {b : Nat × Nat} (h : Srch l i D held b) (h1 : min 131 (l.length - i) ≤ b.1) : (if b.1 < 4 then (0, 0) else b) = found l i := by
  have := h.hD; have := h.hi
  exact seen_found (seen_full h.seen h1 (by omega))
theorem found_short {l : Bs} {i : Nat} (h : min 131 (l.length - i) < 4) : found l i = (0, 0) := by
  unfold found
  have := bestTo_le l i (min 1024 i)
  rw [if_neg]
  show ¬ 4 ≤ (bestTo l i (min 1024 i)).1
  omega

/-! A run of equal bytes. -/
theorem rep_get {x : UInt8} {k i : Nat} (h : i < k) : (List.replicate k x).getD i 0 = x := by simp [List.getD, h]
theorem rep_mlen (x : UInt8) {k i d : Nat} (hd : 1 ≤ d) (hi : d ≤ i) : mlen (List.replicate k x) i d = min 131 (k - i) := by
  unfold mlen
  rw [List.length_replicate]
  refine mrun_of _ d _ i _ (Nat.le_refl _) (fun j hj => ?_) (.inl rfl)
  rw [rep_get (by omega), rep_get (by omega)]
theorem rep_best (x : UInt8) {k i : Nat} (h1 : 1 ≤ i) (hk : i < k) : best (List.replicate k x) i = (min 131 (k - i), 1) := by
  unfold best
  have : ∀ n, n + 1 ≤ i → bestTo (List.replicate k x) i (n + 1) = (min 131 (k - i), 1) := by
    intro n
    induction n with
    | zero =>
      intro hn
      unfold bestTo bestTo
      rw [if_pos (by rw [rep_mlen x (by omega) (by omega)]; show 0 < _; omega), rep_mlen x (by omega) (by omega)]
    | succ n ih =>
      intro hn
      have e := ih (by omega)
      rw [bestTo, e, if_neg]
      rw [rep_mlen x (by omega) (by omega)]
      exact Nat.lt_irrefl _
  have e : min 1024 i = (min 1024 i - 1) + 1 := by omega
  rw [e]
  exact this _ (by omega)
theorem rep_end (x : UInt8) {k s : Nat} : ∀ (r i : Nat), k - i = r → r < 4 → 1 ≤ i → compS (List.replicate k x) s i = lits (List.replicate (k - s) x)
  | 0, i, h, _, _ => by rw [comp_end (by rw [List.length_replicate]; omega), List.drop_replicate]
  | r + 1, i, h, h4, h1 => by
    rw [comp_lit (by rw [List.length_replicate]; omega) (by rw [rep_best x h1 (by omega)]; show min 131 (k - i) < 4; omega)]
    exact rep_end x r (i + 1) (by omega) (by omega) (by omega)
theorem rep_step (x : UInt8) {k s i : Nat} (h1 : 1 ≤ i) (h4 : 4 ≤ k - i) : compS (List.replicate k x) s i = lits ((List.replicate (k - s) x).take (i - s)) ++ (tok (min 131 (k - i)) 1 ++ compS (List.replicate k x) (i + min 131 (k - i)) (i + min 131 (k - i))) := by
  have e := rep_best x h1 (show i < k by omega)
  rw [comp_match (by rw [List.length_replicate]; omega) (by rw [e]; show 4 ≤ min 131 (k - i); omega), e, List.drop_replicate]
theorem rep_len (x : UInt8) {k : Nat} : ∀ (r i : Nat), k - i = r → i ≤ k → 1 ≤ i → (compS (List.replicate k x) i i).length = 3 * (r / 131) + (if 4 ≤ r % 131 then 3 else if 0 < r % 131 then r % 131 + 1 else 0) := by
  intro r
  induction r using Nat.strongRecOn with
  | ind r ih =>
    intro i h hik h1
    rcases Nat.lt_or_ge r 4 with h4 | h4
    · rw [rep_end x r i h h4 h1, lits_len _ _ (Nat.le_refl _), List.length_replicate, h, if_neg (by omega)]
      split <;> omega
    · rw [rep_step x h1 (by omega), Nat.sub_self, List.take_zero, lits_nil, List.nil_append, List.length_append, show (tok (min 131 (k - i)) 1).length = 3 from rfl, ih (r - min 131 r) (by omega) (i + min 131 (k - i)) (by omega) (by omega) (by omega)]
      rcases Nat.lt_or_ge r 131 with h5 | h5
      · rw [show r - min 131 r = 0 by omega, if_neg (by omega), if_neg (by omega), if_pos (by omega)]; omega
      · rw [show r - min 131 r = r - 131 by omega, show (r - 131) % 131 = r % 131 by omega, show r / 131 = (r - 131) / 131 + 1 by omega]
        omega
/-- The compressed form of a run. -/
theorem rep_comp (x : UInt8) {k : Nat} (h : 1 ≤ k) : (comp (List.replicate k x)).length = 2 + 3 * ((k - 1) / 131) + (if 4 ≤ (k - 1) % 131 then 3 else if 0 < (k - 1) % 131 ∧ 0 < (k - 1) / 131 then 1 + (k - 1) % 131 else (k - 1) % 131) ∧ (comp (List.replicate k x)).getD 1 0 = x := by
  have e0 : comp (List.replicate k x) = compS (List.replicate k x) 0 1 := by
    unfold comp
    exact comp_lit (by rw [List.length_replicate]; omega) (show 0 < 4 by decide)
  rw [e0]
  rcases Nat.lt_or_ge (k - 1) 4 with h4 | h4
  · rw [rep_end x (k - 1) 1 rfl h4 (Nat.le_refl _), Nat.sub_zero]
    constructor
    · rw [lits_len _ _ (Nat.le_refl _), List.length_replicate, if_neg (by omega), if_neg (by omega)]
      omega
    · rw [lits_cons (by rw [List.length_replicate]; omega)]
      obtain ⟨j, rfl⟩ : ∃ j, k = j + 1 := ⟨k - 1, by omega⟩
      rfl
  · rw [rep_step x (Nat.le_refl _) h4]
    obtain ⟨j, rfl⟩ : ∃ j, k = j + 1 := ⟨k - 1, by omega⟩
    have e1 : lits ((List.replicate (j + 1 - 0) x).take (1 - 0)) = [1, x] := rfl
    rw [e1]
    refine ⟨?_, rfl⟩
    rw [List.length_append, List.length_append, show (tok (min 131 (j + 1 - 1)) 1).length = 3 from rfl, rep_len x (j - min 131 j) (1 + min 131 (j + 1 - 1)) (by omega) (by omega) (by omega), Nat.add_sub_cancel]
    rcases Nat.lt_or_ge j 131 with h5 | h5
    · rw [show j - min 131 j = 0 by omega, if_neg (by omega), if_neg (by omega), if_pos (by omega)]
      simp; omega
    · rw [show j - min 131 j = j - 131 by omega, show (j - 131) % 131 = j % 131 by omega, show j / 131 = (j - 131) / 131 + 1 by omega]
      simp only [List.length_cons, List.length_nil]
      split
      · omega
      · split
        · rw [if_pos (by omega)]; omega
        · rw [if_neg (by omega)]; omega

/-! A mchain of matches. -/
def mchain (a b : UInt8) (k : Nat) : Bs := (List.replicate k [a, 0, b]).flatten
theorem mchain_succ (a b : UInt8) (k : Nat) : mchain a b (k + 1) = [a, 0, b] ++ mchain a b k := by
  unfold mchain; rw [List.replicate_succ, List.flatten_cons]
theorem mchain_end (a b : UInt8) (k : Nat) : mchain a b (k + 1) = mchain a b k ++ [a, 0, b] := by
  unfold mchain; rw [List.replicate_succ', List.flatten_append]; simp
theorem mchain_len (a b : UInt8) (k : Nat) : (mchain a b k).length = 3 * k := by
  induction k with
  | zero => rfl
  | succ k ih => rw [mchain_succ, List.length_append, ih]; simp; omega
theorem dec_mchain {a b : UInt8} (ha : 128 ≤ a.toNat) (hb : b.toNat < 2) : ∀ (k : Nat) (o : Bs), 2 ≤ o.length → o.length ≤ 65536 →
    ((decS o (mchain a b k)).1 = 0 ∧ o.length + k * (a.toNat - 124) ≤ 65536 ∧ (decS o (mchain a b k)).2.length = o.length + k * (a.toNat - 124)) ∨ ((decS o (mchain a b k)).1 = 6 ∧ 65536 < o.length + k * (a.toNat - 124))
  | 0, o, _, h => .inl ⟨rfl, by omega, by show o.length = _; omega⟩
  | k + 1, o, h2, h => by
    have e : (([0, b] : Bs) ++ mchain a b k).getD 0 0 = 0 := rfl
    have e1 : (([0, b] : Bs) ++ mchain a b k).getD 1 0 = b := rfl
    have e2 : (([0, b] : Bs) ++ mchain a b k).drop 2 = mchain a b k := rfl
    have e3 : 2 ≤ (([0, b] : Bs) ++ mchain a b k).length := by simp
    rw [mchain_succ, show [a, 0, b] ++ mchain a b k = a :: (([0, b] : Bs) ++ mchain a b k) from rfl, dec_cons, if_neg (by omega), if_neg (by omega), e, e1, e2]
    rw [show (0 : UInt8).toNat = 0 from rfl, if_neg (by omega)]
    have hm : (k + 1) * (a.toNat - 124) = k * (a.toNat - 124) + (a.toNat - 124) := by rw [Nat.add_mul, Nat.one_mul]
    split
    · right
      refine ⟨rfl, ?_⟩
      omega
    · have hl := copy_len o (0 * 256 + b.toNat + 1) (a.toNat - 124)
      have := dec_mchain ha hb k (copyB o (0 * 256 + b.toNat + 1) (a.toNat - 124)) (by omega) (by omega)
      rw [hl] at this
      rcases this with ⟨g1, g2, g3⟩ | ⟨g1, g2⟩
      · left; exact ⟨g1, by omega, by omega⟩
      · right; exact ⟨g1, by omega⟩
end Go.Proofs.Yteepoeljihbpjaa

