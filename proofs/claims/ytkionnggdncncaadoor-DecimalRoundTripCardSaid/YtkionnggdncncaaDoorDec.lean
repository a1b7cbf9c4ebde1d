/- Decimal numerals: their value, the canonical form, groups of digits, their order. No Go function in this text; no conditions. -/
import Derived.Lib.ItoaNum
import GoSem.Op.String
namespace Go.Proofs.YtkionnggdncncaaDoor
open Go.Lib

/-- The value of a digit; is it one? -/
def dgt (b : UInt8) : Nat := b.toNat - 48
def isD (b : UInt8) : Bool := decide (48 ≤ b.toNat) && decide (b.toNat ≤ 57)
/-- The value of a row of digits. -/
def vl (l : List UInt8) : Nat := l.foldl (fun n b => n * 10 + dgt b) 0
/-- One digit or more, no zero ahead of others. -/
def canon (l : List UInt8) : Bool :=
  match l with
  | [] => false
  | b :: r => (decide (b.toNat ≠ 48) || r.isEmpty) && (b :: r).all isD

theorem vl_snoc (l : List UInt8) (b : UInt8) : vl (l ++ [b]) = vl l * 10 + dgt b := by simp [vl]
theorem ofNat_dig {u : Nat} (h : u < 10) : (UInt8.ofNat (48 + u)).toNat = 48 + u := by
  rw [UInt8.toNat_ofNat']; omega
theorem dgt_ofNat {u : Nat} (h : u < 10) : dgt (UInt8.ofNat (48 + u)) = u := by rw [dgt, ofNat_dig h]; omega
theorem isD_ofNat {u : Nat} (h : u < 10) : isD (UInt8.ofNat (48 + u)) = true := by simp only [isD, ofNat_dig h]; simp; omega
theorem ofNat_dgt {b : UInt8} (h : isD b = true) : UInt8.ofNat (48 + dgt b) = b := by
  simp only [isD, Bool.and_eq_true, decide_eq_true_eq] at h
  apply UInt8.toNat.inj
  rw [UInt8.toNat_ofNat']
  unfold dgt
  omega
theorem dgt_lt {b : UInt8} (h : isD b = true) : dgt b < 10 := by
  simp only [isD, Bool.and_eq_true, decide_eq_true_eq] at h
  unfold dgt
  omega
theorem dec_small {u : Nat} (h : u < 10) : decDigits u = [UInt8.ofNat (48 + u)] := by rw [decDigits, dif_pos h]
theorem dec_big {u : Nat} (h : ¬ u < 10) : decDigits u = decDigits (u / 10) ++ [UInt8.ofNat (48 + u % 10)] := by rw [decDigits, dif_neg h]
theorem dec_ne (u : Nat) : decDigits u ≠ [] := by
  by_cases h : u < 10
  · rw [dec_small h]; simp
  · rw [dec_big h]; simp

theorem vl_dec (u : Nat) : vl (decDigits u) = u := by
  induction u using Nat.strongRecOn with
  | _ u ih =>
    by_cases h : u < 10
    · rw [dec_small h, ← List.nil_append [_], vl_snoc, dgt_ofNat h]; simp [vl]
    · rw [dec_big h, vl_snoc, ih (u / 10) (by omega), dgt_ofNat (by omega)]; omega
theorem all_dec (u : Nat) : (decDigits u).all isD = true := by
  induction u using Nat.strongRecOn with
  | _ u ih =>
    by_cases h : u < 10
    · rw [dec_small h]; simp only [List.all_cons, List.all_nil, isD_ofNat h]; rfl
    · rw [dec_big h, List.all_append, ih (u / 10) (by omega)]; simp only [List.all_cons, List.all_nil, isD_ofNat (show u % 10 < 10 by omega)]; rfl
theorem head_dec {u : Nat} (h0 : 1 ≤ u) : ∃ b r, decDigits u = b :: r ∧ b.toNat ≠ 48 := by
  induction u using Nat.strongRecOn with
  | _ u ih =>
    by_cases h : u < 10
    · exact ⟨_, _, dec_small h, by rw [ofNat_dig h]; omega⟩
    · obtain ⟨b, r, e, hb⟩ := ih (u / 10) (by omega) (by omega)
      exact ⟨b, r ++ [UInt8.ofNat (48 + u % 10)], by rw [dec_big h, e]; rfl, hb⟩
theorem canon_dec (u : Nat) : canon (decDigits u) = true := by
  have ha := all_dec u
  by_cases h : u < 10
  · rw [dec_small h] at ha ⊢; simp only [canon, ha]; simp
  · obtain ⟨b, r, e, hb⟩ := head_dec (u := u) (by omega)
    rw [e] at ha ⊢
    simp only [canon, ha, decide_eq_true hb]
    simp

theorem vl_zeros (k : Nat) : vl (List.replicate k 48) = 0 := by
  induction k with
  | zero => rfl
  | succ k ih => rw [List.replicate_succ', vl_snoc, ih]; rfl

/-- A row of digits that does not open with zero is its value's numeral. -/
theorem dec_vl_pos : ∀ (n : Nat) (l : List UInt8), l.length = n → (∃ b r, l = b :: r ∧ b.toNat ≠ 48) → l.all isD = true → 1 ≤ vl l ∧ decDigits (vl l) = l
  | 0, l, hn, ⟨b, r, e, _⟩, _ => by subst e; simp at hn
  | n + 1, l, hn, ⟨b, r, e, hb⟩, ha => by
    have hne : l ≠ [] := by rw [e]; simp
    obtain ⟨m, c, rfl⟩ : ∃ m c, l = m ++ [c] := ⟨l.dropLast, l.getLast hne, (List.dropLast_concat_getLast hne).symm⟩
    rw [List.all_append, Bool.and_eq_true] at ha
    have hc : isD c = true := by simpa using ha.2
    have hc10 := dgt_lt hc
    rw [vl_snoc]
    cases m with
    | nil =>
      simp only [List.nil_append, List.cons.injEq] at e
      obtain ⟨rfl, _⟩ := e
      have h1 : 1 ≤ dgt c := by
        have hc' := hc
        simp only [isD, Bool.and_eq_true, decide_eq_true_eq] at hc'
        unfold dgt
        omega
      have h0 : vl [] = 0 := rfl
      rw [h0, Nat.zero_mul, Nat.zero_add, dec_small hc10, ofNat_dgt hc]
      exact ⟨h1, rfl⟩
    | cons x m =>
      simp only [List.cons_append, List.cons.injEq] at e
      obtain ⟨h1, h2⟩ := dec_vl_pos n (x :: m) (by simp only [List.length_append, List.length_cons, List.length_nil] at hn ⊢; omega) ⟨x, m, rfl, by rw [e.1]; exact hb⟩ ha.1
      refine ⟨by omega, ?_⟩
      rw [dec_big (by omega), show (vl (x :: m) * 10 + dgt c) / 10 = vl (x :: m) by omega, show (vl (x :: m) * 10 + dgt c) % 10 = dgt c by omega, h2, ofNat_dgt hc]

theorem dec_vl {l : List UInt8} (h : canon l = true) : decDigits (vl l) = l := by
  cases l with
  | nil => cases h
  | cons b r =>
    simp only [canon, Bool.and_eq_true, Bool.or_eq_true, decide_eq_true_eq, List.isEmpty_iff] at h
    by_cases hb : b.toNat = 48
    · have hr : r = [] := h.1.resolve_left fun x => x hb
      subst hr
      have e : b = 48 := UInt8.toNat.inj hb
      subst e
      rw [show vl [48] = 0 by rfl, dec_small (by omega)]
      rfl
    · exact (dec_vl_pos _ _ rfl ⟨b, r, rfl, hb⟩ h.2).2

/-- k digits of r, zeros ahead. -/
def dgs : Nat → Nat → List UInt8
  | 0, _ => []
  | k + 1, r => dgs k (r / 10) ++ [UInt8.ofNat (48 + r % 10)]
theorem dgs_length : ∀ k r, (dgs k r).length = k
  | 0, _ => rfl
  | k + 1, r => by simp [dgs, dgs_length k]
theorem dec_group (k : Nat) : ∀ (q r : Nat), 1 ≤ q → r < 10 ^ k → decDigits (q * 10 ^ k + r) = decDigits q ++ dgs k r := by
  induction k with
  | zero => intro q r _ hr; simp at hr; subst hr; simp [dgs]
  | succ k ih =>
    intro q r hq hr
    have hp : q * 10 ^ (k + 1) = q * 10 ^ k * 10 := by rw [Nat.pow_succ, Nat.mul_assoc]
    have hp1 : 1 ≤ 10 ^ k := Nat.one_le_pow _ _ (by decide)
    have hq1 : 1 ≤ q * 10 ^ k := Nat.mul_le_mul hq hp1
    rw [Nat.pow_succ] at hr
    rw [hp, dec_big (by omega), show (q * 10 ^ k * 10 + r) / 10 = q * 10 ^ k + r / 10 by omega, show (q * 10 ^ k * 10 + r) % 10 = r % 10 by omega, ih q (r / 10) hq (by omega), dgs, List.append_assoc]
theorem dgs_zero (k : Nat) : dgs k 0 = List.replicate k 48 := by
  induction k with
  | zero => rfl
  | succ k ih => rw [dgs, show 0 / 10 = 0 by rfl, ih, List.replicate_succ']; rfl
theorem nDigits_le {u k : Nat} (hk : 1 ≤ k) (h : u < 10 ^ k) : nDigits u ≤ k := by
  induction k generalizing u with
  | zero => omega
  | succ k ih =>
    by_cases h1 : u < 10
    · rw [nDigits_small h1]; omega
    · rw [nDigits_big h1]
      cases k with
      | zero => simp at h; omega
      | succ k => have := ih (u := u / 10) (by omega) (by rw [Nat.pow_succ] at h; omega); omega
theorem dgs_pad (k : Nat) : ∀ r, 1 ≤ k → r < 10 ^ k → dgs k r = List.replicate (k - nDigits r) 48 ++ decDigits r := by
  induction k with
  | zero => intro r h; omega
  | succ k ih =>
    intro r _ hr
    by_cases h : r < 10
    · rw [nDigits_small h, dec_small h, dgs, show r / 10 = 0 by omega, dgs_zero, show r % 10 = r by omega]; rfl
    · rw [nDigits_big h, dec_big h, dgs]
      cases k with
      | zero => simp at hr; omega
      | succ k =>
        rw [ih (r / 10) (by omega) (by rw [Nat.pow_succ] at hr; omega), ← List.append_assoc]
        congr 3
        omega

/-! Order. -/
theorem less_snoc : ∀ (l m : List UInt8) (x y : UInt8), l.length = m.length → Op.bytesLess (l ++ [x]) (m ++ [y]) = (Op.bytesLess l m || (decide (l = m) && decide (x < y)))
  | [], [], x, y, _ => by simp [Op.bytesLess]
  | a :: l, b :: m, x, y, h => by
    have ih := less_snoc l m x y (by simpa using h)
    simp only [List.cons_append, Op.bytesLess, ih, List.cons.injEq]
    by_cases e : a = b
    · simp [e]
    · have e1 : (a == b) = false := by simpa using e
      simp [e, e1]
  | [], _ :: _, _, _, h => by simp at h
  | _ :: _, [], _, _, h => by simp at h
theorem dec_inj {a b : Nat} (h : decDigits a = decDigits b) : a = b := by rw [← vl_dec a, ← vl_dec b, h]
theorem dec_eq_iff (a b : Nat) : decDigits a = decDigits b ↔ a = b := ⟨dec_inj, fun h => by rw [h]⟩
theorem nDigits_mono {a b : Nat} (h : a ≤ b) : nDigits a ≤ nDigits b := by
  induction b using Nat.strongRecOn generalizing a with
  | _ b ih =>
    by_cases h1 : a < 10
    · rw [nDigits_small h1]; exact nDigits_pos b
    · rw [nDigits_big h1, nDigits_big (show ¬ b < 10 by omega)]
      have := ih (b / 10) (by omega) (a := a / 10) (by omega)
      omega
theorem less_dec (a : Nat) : ∀ b, nDigits a = nDigits b → Op.bytesLess (decDigits a) (decDigits b) = decide (a < b) := by
  induction a using Nat.strongRecOn with
  | _ a ih =>
    intro b h
    by_cases h1 : a < 10
    · have h2 : b < 10 := by
        by_cases h2 : b < 10
        · exact h2
        · rw [nDigits_small h1, nDigits_big h2] at h
          have := nDigits_pos (b / 10)
          omega
      rw [dec_small h1, dec_small h2]
      simp only [Op.bytesLess, Bool.and_false, Bool.or_false]
      have : UInt8.ofNat (48 + a) < UInt8.ofNat (48 + b) ↔ a < b := by rw [UInt8.lt_iff_toNat_lt, ofNat_dig h1, ofNat_dig h2]; omega
      simp only [this]
    · have h2 : ¬ b < 10 := by
        intro h2
        rw [nDigits_small h2, nDigits_big h1] at h
        have := nDigits_pos (a / 10)
        omega
      rw [nDigits_big h1, nDigits_big h2] at h
      have h3 : nDigits (a / 10) = nDigits (b / 10) := by omega
      rw [dec_big h1, dec_big h2, less_snoc _ _ _ _ (by rw [decDigits_length, decDigits_length, h3]), ih (a / 10) (by omega) (b / 10) h3]
      have h4 : UInt8.ofNat (48 + a % 10) < UInt8.ofNat (48 + b % 10) ↔ a % 10 < b % 10 := by rw [UInt8.lt_iff_toNat_lt, ofNat_dig (by omega), ofNat_dig (by omega)]; omega
      simp only [dec_eq_iff, h4]
      rw [Bool.eq_iff_iff]
      simp only [Bool.or_eq_true, Bool.and_eq_true, decide_eq_true_eq]
      omega
/-- The numeral of the smaller number is shorter, or as long and smaller. -/
theorem order_dec (a b : Nat) : (decide (nDigits a < nDigits b) || (decide (nDigits a = nDigits b) && Op.bytesLess (decDigits a) (decDigits b))) = decide (a < b) := by
  by_cases h : nDigits a = nDigits b
  · rw [less_dec a b h]; simp [h]
  · simp only [h, decide_false, Bool.false_and, Bool.or_false, decide_eq_decide]
    constructor
    · intro h1
      by_cases h2 : a < b
      · exact h2
      · have := nDigits_mono (show b ≤ a by omega); omega
    · intro h1
      have := nDigits_mono (show a ≤ b by omega)
      omega
end Go.Proofs.YtkionnggdncncaaDoor

