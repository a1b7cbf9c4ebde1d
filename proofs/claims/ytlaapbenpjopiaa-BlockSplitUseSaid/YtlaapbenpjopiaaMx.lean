/- Decimal numerals: their value, the canonical form, groups of digits, their order. No Go function in this text; no conditions. Bridges between contracts of calls and what the writer of conditions asks: values alone, and slices of digits. No Go function in this text; no conditions. What the writer of conditions needs of this program: its orders, its types' comparisons. No conditions. Contracts that hold where memory meets a condition; guards; the bytes of a string. No Go function in this text; no conditions besides. -/
import Derived.Lib.ItoaNum
import GoSem.Op.String
import Derived.Test.YtlaapbenpjopiaaSx
import Derived.Test.YtlaapbenpjopiaaMr
import Derived.Laws.Strings
namespace Go.Proofs.Ytlaapbenpjopiaa
open Go.Lib

/-- The value of a digit; is it one? -/
def dgt (b : UInt8) : Nat := b.toNat - 48
def isD (b : UInt8) : Bool := decide (48 ≤ b.toNat) && decide (b.toNat ≤ 57)
/-- The value of a row of digits. -/
def vl (l : List UInt8) : Nat := l.foldl (fun n b => n * 10 + dgt b) 0
/-- One digit or more, no zero ahead of others. -/
def canon (l : List UInt8) : Bool :=
  match l with
  | [] => false
  | b :: r => (decide (b.toNat ≠ 48) || r.isEmpty) && (b :: r).all isD

theorem vl_snoc (l : List UInt8) (b : UInt8) : vl (l ++ [b]) = vl l * 10 + dgt b := by simp [vl]
theorem ofNat_dig {u : Nat} (h : u < 10) : (UInt8.ofNat (48 + u)).toNat = 48 + u := by
  rw [UInt8.toNat_ofNat']; omega
theorem dgt_ofNat {u : Nat} (h : u < 10) : dgt (UInt8.ofNat (48 + u)) = u := by rw [dgt, ofNat_dig h]; omega
theorem isD_ofNat {u : Nat} (h : u < 10) : isD (UInt8.ofNat (48 + u)) = true := by simp only [isD, ofNat_dig h]; simp; omega
theorem ofNat_dgt {b : UInt8} (h : isD b = true) : UInt8.ofNat (48 + dgt b) = b := by
  simp only [isD, Bool.and_eq_true, decide_eq_true_eq] at h
  apply UInt8.toNat.inj
  rw [UInt8.toNat_ofNat']
  unfold dgt
  omega
theorem dgt_lt {b : UInt8} (h : isD b = true) : dgt b < 10 := by
  simp only [isD, Bool.and_eq_true, decide_eq_true_eq] at h
  unfold dgt
  omega
theorem dec_small {u : Nat} (h : u < 10) : decDigits u = [UInt8.ofNat (48 + u)] := by rw [decDigits, dif_pos h]
theorem dec_big {u : Nat} (h : ¬ u < 10) : decDigits u = decDigits (u / 10) ++ [UInt8.ofNat (48 + u % 10)] := by rw [decDigits, dif_neg h]
theorem dec_ne (u : Nat) : decDigits u ≠ [] := by
  by_cases h : u < 10
  · rw [dec_small h]; simp
  · rw [dec_big h]; simp

theorem vl_dec (u : Nat) : vl (decDigits u) = u := by
  induction u using Nat.strongRecOn with
  | _ u ih =>
    by_cases h : u < 10
    · rw [dec_small h, ← List.nil_append [_], vl_snoc, dgt_ofNat h]; simp [vl]
    · rw [dec_big h, vl_snoc, ih (u / 10) (by omega), dgt_ofNat (by omega)]; omega
theorem all_dec (u : Nat) : (decDigits u).all isD = true := by
  induction u using Nat.strongRecOn with
  | _ u ih =>
    by_cases h : u < 10
    · rw [dec_small h]; simp only [List.all_cons, List.all_nil, isD_ofNat h]; rfl
    · rw [dec_big h, List.all_append, ih (u / 10) (by omega)]; simp only [List.all_cons, List.all_nil, isD_ofNat (show u % 10 < 10 by omega)]; rfl
theorem head_dec {u : Nat} (h0 : 1 ≤ u) : ∃ b r, decDigits u = b :: r ∧ b.toNat ≠ 48 := by
  induction u using Nat.strongRecOn with
  | _ u ih =>
    by_cases h : u < 10
    · exact ⟨_, _, dec_small h, by rw [ofNat_dig h]; omega⟩
    · obtain ⟨b, r, e, hb⟩ := ih (u / 10) (by omega) (by omega)
      exact ⟨b, r ++ [UInt8.ofNat (48 + u % 10)], by rw [dec_big h, e]; rfl, hb⟩
theorem canon_dec (u : Nat) : canon (decDigits u) = true := by
  have ha := all_dec u
  by_cases h : u < 10
  · rw [dec_small h] at ha ⊢; simp only [canon, ha]; simp
  · obtain ⟨b, r, e, hb⟩ := head_dec (u := u) (by omega)
    rw [e] at ha ⊢
    simp only [canon, ha, decide_eq_true hb]
    simp

theorem vl_zeros (k : Nat) : vl (List.replicate k 48) = 0 := by
  induction k with
  | zero => rfl
  | succ k ih => rw [List.replicate_succ', vl_snoc, ih]; rfl

/-- A row of digits that does not open with zero is its value's numeral. -/
theorem dec_vl_pos : ∀ (n : Nat) (l : List UInt8), l.length = n → (∃ b r, l = b :: r ∧ b.toNat ≠ 48) → l.all isD = true → 1 ≤ vl l ∧ decDigits (vl l) = l
  | 0, l, hn, ⟨b, r, e, _⟩, _ => by subst e; simp at hn
  | n + 1, l, hn, ⟨b, r, e, hb⟩, ha => by
    have hne : l ≠ [] := by rw [e]; simp
    obtain ⟨m, c, rfl⟩ : ∃ m c, l = m ++ [c] := ⟨l.dropLast, l.getLast hne, (List.dropLast_concat_getLast hne).symm⟩
    rw [List.all_append, Bool.and_eq_true] at ha
    have hc : isD c = true := by simpa using ha.2
    have hc10 := dgt_lt hc
    rw [vl_snoc]
    cases m with
    | nil =>
      simp only [List.nil_append, List.cons.injEq] at e
      obtain ⟨rfl, _⟩ := e
      have h1 : 1 ≤ dgt c := by
        have hc' := hc
        simp only [isD, Bool.and_eq_true, decide_eq_true_eq] at hc'
        unfold dgt
        omega
      have h0 : vl [] = 0 := rfl
      rw [h0, Nat.zero_mul, Nat.zero_add, dec_small hc10, ofNat_dgt hc]
      exact ⟨h1, rfl⟩
    | cons x m =>
      simp only [List.cons_append, List.cons.injEq] at e
      obtain ⟨h1, h2⟩ := dec_vl_pos n (x :: m) (by simp only [List.length_append, List.length_cons, List.length_nil] at hn ⊢; omega) ⟨x, m, rfl, by rw [e.1]; exact hb⟩ ha.1
      refine ⟨by omega, ?_⟩
      rw [dec_big (by omega), show (vl (x :: m) * 10 + dgt c) / 10 = vl (x :: m) by omega, show (vl (x :: m) * 10 + dgt c) % 10 = dgt c by omega, h2, ofNat_dgt hc]

theorem dec_vl {l : List UInt8} (h : canon l = true) : decDigits (vl l) = l := by
  cases l with
  | nil => cases h
  | cons b r =>
    simp only [canon, Bool.and_eq_true, Bool.or_eq_true, decide_eq_true_eq, List.isEmpty_iff] at h
    by_cases hb : b.toNat = 48
    · have hr : r = [] := h.1.resolve_left fun x => x hb
      subst hr
      have e : b = 48 := UInt8.toNat.inj hb
      subst e
      rw [show vl [48] = 0 by rfl, dec_small (by omega)]
      rfl
    · exact (dec_vl_pos _ _ rfl ⟨b, r, rfl, hb⟩ h.2).2

/-- k digits of r, zeros ahead. -/
def dgs : Nat → Nat → List UInt8
  | 0, _ => []
  | k + 1, r => dgs k (r / 10) ++ [UInt8.ofNat (48 + r % 10)]
theorem dgs_length : ∀ k r, (dgs k r).length = k
  | 0, _ => rfl
  | k + 1, r => by simp [dgs, dgs_length k]
theorem dec_group (k : Nat) : ∀ (q r : Nat), 1 ≤ q → r < 10 ^ k → decDigits (q * 10 ^ k + r) = decDigits q ++ dgs k r := by
  induction k with
  | zero => intro q r _ hr; simp at hr; subst hr; simp [dgs]
  | succ k ih =>
    intro q r hq hr
    have hp : q * 10 ^ (k + 1) = q * 10 ^ k * 10 := by rw [Nat.pow_succ, Nat.mul_assoc]
    have hp1 : 1 ≤ 10 ^ k := Nat.one_le_pow _ _ (by decide)
    have hq1 : 1 ≤ q * 10 ^ k := Nat.mul_le_mul hq hp1
    rw [Nat.pow_succ] at hr
    rw [hp, dec_big (by omega), show (q * 10 ^ k * 10 + r) / 10 = q * 10 ^ k + r / 10 by omega, show (q * 10 ^ k * 10 + r) % 10 = r % 10 by omega, ih q (r / 10) hq (by omega), dgs, List.append_assoc]
theorem dgs_zero (k : Nat) : dgs k 0 = List.replicate k 48 := by
  induction k with
  | zero => rfl
  | succ k ih => rw [dgs, show 0 / 10 = 0 by rfl, ih, List.replicate_succ']; rfl
theorem nDigits_le {u k : Nat} (hk : 1 ≤ k) (h : u < 10 ^ k) : nDigits u ≤ k := by
  induction k generalizing u with
  | zero => omega
  | succ k ih =>
    by_cases h1 : u < 10
    · rw [nDigits_small h1]; omega
    · rw [nDigits_big h1]
      cases k with
      | zero => simp at h; omega
      | succ k => have := ih (u := u / 10) (by omega) (by rw [Nat.pow_succ] at h; omega); omega
theorem dgs_pad (k : Nat) : ∀ r, 1 ≤ k → r < 10 ^ k → dgs k r = List.replicate (k - nDigits r) 48 ++ decDigits r := by
  induction k with
  | zero => intro r h; omega
  | succ k ih =>
    intro r _ hr
    by_cases h : r < 10
    · rw [nDigits_small h, dec_small h, dgs, show r / 10 = 0 by omega, dgs_zero, show r % 10 = r by omega]; rfl
    · rw [nDigits_big h, dec_big h, dgs]
      cases k with
      | zero => simp at hr; omega
      | succ k =>
        rw [ih (r / 10) (by omega) (by rw [Nat.pow_succ] at hr; omega), ← List.append_assoc]
        congr 3
        omega

/-! Order. -/
theorem less_snoc : ∀ (l m : List UInt8) (x y : UInt8), l.length = m.length → Op.bytesLess (l ++ [x]) (m ++ [y]) = (Op.bytesLess l m || (decide (l = m) && decide (x < y)))
  | [], [], x, y, _ => by simp [Op.bytesLess]
  | a :: l, b :: m, x, y, h => by
    have ih := less_snoc l m x y (by simpa using h)
    simp only [List.cons_append, Op.bytesLess, ih, List.cons.injEq]
    by_cases e : a = b
    · simp [e]
    · have e1 : (a == b) = false := by simpa using e
      simp [e, e1]
  | [], _ :: _, _, _, h => by simp at h
  | _ :: _, [], _, _, h => by simp at h
theorem dec_inj {a b : Nat} (h : decDigits a = decDigits b) : a = b := by rw [← vl_dec a, ← vl_dec b, h]
theorem dec_eq_iff (a b : Nat) : decDigits a = decDigits b ↔ a = b := ⟨dec_inj, fun h => by rw [h]⟩
theorem nDigits_mono {a b : Nat} (h : a ≤ b) : nDigits a ≤ nDigits b := by
  induction b using Nat.strongRecOn generalizing a with
  | _ b ih =>
    by_cases h1 : a < 10
    · rw [nDigits_small h1]; exact nDigits_pos b
    · rw [nDigits_big h1, nDigits_big (show ¬ b < 10 by omega)]
      have := ih (b / 10) (by omega) (a := a / 10) (by omega)
      omega
theorem less_dec (a : Nat) : ∀ b, nDigits a = nDigits b → Op.bytesLess (decDigits a) (decDigits b) = decide (a < b) := by
  induction a using Nat.strongRecOn with
  | _ a ih =>
    intro b h
    by_cases h1 : a < 10
    · have h2 : b < 10 := by
        by_cases h2 : b < 10
        · exact h2
        · rw [nDigits_small h1, nDigits_big h2] at h
          have := nDigits_pos (b / 10)
          omega
      rw [dec_small h1, dec_small h2]
      simp only [Op.bytesLess, Bool.and_false, Bool.or_false]
      have : UInt8.ofNat (48 + a) < UInt8.ofNat (48 + b) ↔ a < b := by rw [UInt8.lt_iff_toNat_lt, ofNat_dig h1, ofNat_dig h2]; omega
      simp only [this]
    · have h2 : ¬ b < 10 := by
        intro h2
        rw [nDigits_small h2, nDigits_big h1] at h
        have := nDigits_pos (a / 10)
        omega
      rw [nDigits_big h1, nDigits_big h2] at h
      have h3 : nDigits (a / 10) = nDigits (b / 10) := by omega
      rw [dec_big h1, dec_big h2, less_snoc _ _ _ _ (by rw [decDigits_length, decDigits_length, h3]), ih (a / 10) (by omega) (b / 10) h3]
      have h4 : UInt8.ofNat (48 + a % 10) < UInt8.ofNat (48 + b % 10) ↔ a % 10 < b % 10 := by rw [UInt8.lt_iff_toNat_lt, ofNat_dig (by omega), ofNat_dig (by omega)]; omega
      simp only [dec_eq_iff, h4]
      rw [Bool.eq_iff_iff]
      simp only [Bool.or_eq_true, Bool.and_eq_true, decide_eq_true_eq]
      omega
/-- The numeral of the smaller number is shorter, or as long and smaller. -/
theorem order_dec (a b : Nat) : (decide (nDigits a < nDigits b) || (decide (nDigits a = nDigits b) && Op.bytesLess (decDigits a) (decDigits b))) = decide (a < b) := by
  by_cases h : nDigits a = nDigits b
  · rw [less_dec a b h]; simp [h]
  · simp only [h, decide_false, Bool.false_and, Bool.or_false, decide_eq_decide]
    constructor
    · intro h1
      by_cases h2 : a < b
      · exact h2
      · have := nDigits_mono (show b ≤ a by omega); omega
    · intro h1
      have := nDigits_mono (show a ≤ b by omega)
      omega
end Go.Proofs.Ytlaapbenpjopiaa

namespace Go.Proofs.Ytlaapbenpjopiaa
open Go.RowKit Sx
set_option maxRecDepth 100000

/-- A function with a body. -/
def Enters (P : Program) (f : FuncId) : Prop := ∃ fn, P.funcs[f]? = some fn ∧ (fn.name == "runtime.NumGoroutine") = false ∧ fn.body.isSome = true

theorem run_enters {P : Program} {f : FuncId} (h : Enters P f) (args : Array Value) (w : World) : (callFunc f args).run P w = .ok (.enter f args) w := by
  obtain ⟨fn, hf, hne, hb⟩ := h
  have hne' : ¬ fn.name = "runtime.NumGoroutine" := by simpa using hne
  obtain ⟨c, hc⟩ := Option.isSome_iff_exists.1 hb
  simp [callFunc, hf, hne', hc]

theorem callRun_enters {P : Program} {f : FuncId} (h : Enters P f) {args : Array Value} {w : World} {R : Value → World → Prop} : CallRun P f args w R ↔ Calls P f args w fun e w' => ∃ v, e = .returned v ∧ R v w' := by
  unfold CallRun
  rw [run_enters h]

def Sub (L A : Facts) : Prop := ∀ q ∈ L, q ∈ A
theorem Sub.nil (A : Facts) : Sub [] A := fun _ h => by cases h
theorem Sub.left (L A : Facts) : Sub L (L ++ A) := fun _ h => List.mem_append.2 (.inl h)

theorem Sx.Gives.sub {P : Program} {f : FuncId} {args : List Value} {A A' : Facts} {X : Type} {ret : X → Value} {M : X → Facts} (h : Gives P f args A X ret M) (hA : Sub A A') : Gives P f args A' X ret M := by
  intro w hw
  have := h w fun q hq => hw q (hA q hq)
  unfold CallRun at this ⊢
  have key : ∀ v w', (∃ x, v = ret x ∧ Holds w' (M x) ∧ (∀ q ∈ M x, w.heap.size ≤ q.1 ∨ ∃ q' ∈ A, q'.1 = q.1) ∧ Below w.heap.size w w') → ∃ x, v = ret x ∧ Holds w' (M x) ∧ (∀ q ∈ M x, w.heap.size ≤ q.1 ∨ ∃ q' ∈ A', q'.1 = q.1) ∧ Below w.heap.size w w' :=
    fun v w' ⟨x, h1, h2, h3, h4⟩ => ⟨x, h1, h2, fun q hq => (h3 q hq).imp id fun ⟨q', h5, h6⟩ => ⟨q', hA q' h5, h6⟩, h4⟩
  split at this
  · exact key _ _ this
  · exact this.mono fun e w' ⟨v, h1, h2⟩ => ⟨v, h1, key _ _ h2⟩
  · exact this

/-- The call gives this value, whatever lies in memory. -/
def Det (P : Program) (f : FuncId) (args : List Value) (v : Value) : Prop := ∀ A, Gives P f args A Unit (fun _ => v) (fun _ => [])
abbrev det (v : Value) : Or := .call Unit () (fun _ => v) (fun _ => [])

theorem gives_none {P : Program} {f : FuncId} {args : List Value} {A : Facts} {v : Value} (hE : Enters P f) (h : ∀ w, Holds w A → Calls P f args.toArray w fun e w' => e = .returned v ∧ Below w.heap.size w w') : Gives P f args A Unit (fun _ => v) (fun _ => []) := by
  intro w hw
  rw [callRun_enters hE]
  exact (h w hw).mono fun e w' ⟨h1, h2⟩ => ⟨v, h1, (), rfl, fun _ h => (by cases h), fun _ h => (by cases h), h2⟩

theorem Det.of_calls {P : Program} {f : FuncId} {args : List Value} {v : Value} (hE : Enters P f) (h : ∀ w, Calls P f args.toArray w fun e w' => e = .returned v ∧ Below w.heap.size w w') : Det P f args v :=
  fun _ => gives_none hE fun w _ => h w

theorem Sx.Gives.calls {P : Program} {f : FuncId} {args : List Value} {A : Facts} {v : Value} {M : Unit → Facts} (h : Gives P f args A Unit (fun _ => v) M) (hE : Enters P f) (w : World) (hw : Holds w A) : Calls P f args.toArray w fun e w' => e = .returned v ∧ Below w.heap.size w w' := by
  have := h w hw
  rw [callRun_enters hE] at this
  exact this.mono fun e w' ⟨u, h1, _, h2, _, _, h3⟩ => ⟨by rw [h1, h2], h3⟩
theorem Det.calls {P : Program} {f : FuncId} {args : List Value} {v : Value} (h : Det P f args v) (hE : Enters P f) (w : World) : Calls P f args.toArray w fun e w' => e = .returned v ∧ Below w.heap.size w w' :=
  (h []).calls hE w fun _ h => by cases h

/-- What is asked of a function's text, and its name. -/
def Good (P : Program) (f : FuncId) (fn : Func) (k : Nat) : Prop := P.funcs[f]? = some fn ∧ (fn.name == "runtime.NumGoroutine") = false ∧ okFn fn k = true
theorem Good.enters {P : Program} {f : FuncId} {fn : Func} {k : Nat} (h : Good P f fn k) : Enters P f := ⟨fn, h.1, h.2.1, by
  have := h.2.2
  unfold okFn at this
  cases hb : fn.body with
  | none => rw [hb] at this; cases this
  | some c => rfl⟩

def bare (args : List Value) : List (Value × Facts) := args.map fun v => (v, [])
theorem bare_facts : ∀ args : List Value, argFacts (bare args) = []
  | [] => rfl
  | _ :: r => by show [] ++ argFacts (bare r) = []; rw [bare_facts r]; rfl
theorem bare_vals (args : List Value) : (bare args).map (·.1) = args := by simp [bare, Function.comp_def]

theorem det_of_vc {P : Program} {f : FuncId} {fn : Func} {args : List Value} {v : Value} {O : List Orc} (hm : P.follows .mixedOrders = true) (hg : Good P f fn args.length) (h : ∀ B, Vc P fn B (bare args) Unit (fun _ => v) (fun _ => []) O) : Det P f args v := by
  intro A
  have := gives_of_vc (B := A) hg.1 hg.2.1 hm (by simpa [bare] using hg.2.2) (h A)
  rw [bare_facts, bare_vals, List.append_nil] at this
  exact this

theorem Sub.app {L M A : Facts} (h : Sub L A) (k : Sub M A) : Sub (L ++ M) A := fun q hq => (List.mem_append.1 hq).elim (h q) (k q)
theorem Sub.refl (A : Facts) : Sub A A := fun _ h => h
theorem Sub.holds {L A : Facts} (h : Sub L A) {w : World} (hw : Holds w A) : Holds w L := fun q hq => hw q (h q hq)

theorem gives_of_vcF {P : Program} {f : FuncId} {fn : Func} {args : List (Value × Facts)} {B A : Facts} {X : Type} {ret : X → Value} {M : X → Facts} {O : List Orc} (hm : P.follows .mixedOrders = true) (hg : Good P f fn args.length) (hA : Sub (B ++ argFacts args) A) (h : Vc P fn B args X ret M O) : Gives P f (args.map (·.1)) A X ret M :=
  (gives_of_vc hg.1 hg.2.1 hm hg.2.2 h).sub hA

/-- A slice that reads as the number n, and the memory that shows it. -/
structure BigX (n : Nat) where
  A : Option Addr
  cap : Nat
  L : Facts
  h : ∀ w, Holds w L → Big w (.slice A (nd n) cap) n
abbrev BigX.v {n : Nat} (x : BigX n) : Value := .slice x.A (nd n) x.cap

theorem cell_same {w w' : World} {b : Nat} (h : w'.heap[b]? = w.heap[b]?) (i : Nat) : w'.cell? ⟨b, i, none⟩ = w.cell? ⟨b, i, none⟩ := by unfold World.cell?; rw [h]

theorem bigX_of {w : World} {v : Value} {n : Nat} (h : Big w v n) : ∃ x : BigX n, v = x.v ∧ Holds w x.L ∧ ∀ q ∈ x.L, v.ownBlock = some q.1 := by
  obtain ⟨A, cap, rfl, h1, h2, h3, h4⟩ := h
  by_cases h0 : 0 < nd n
  · obtain ⟨b, rfl, hb, hc⟩ := h4 h0
    refine ⟨⟨some ⟨b, 0, none⟩, cap, [(b, w.heap[b])], fun w' hw => ⟨_, cap, rfl, h1, h2, h3, fun _ => ⟨b, rfl, ?_, fun i hi => ?_⟩⟩⟩, rfl, ?_, ?_⟩
    · exact lt_of_some (hw (b, w.heap[b]) (by simp))
    · rw [cell_same (w := w) (by rw [hw (b, w.heap[b]) (by simp)]; simp [hb])]; exact hc i hi
    · intro q hq; simp only [List.mem_singleton] at hq; subst hq; simp [hb]
    · intro q hq; simp only [List.mem_singleton] at hq; subst hq; rfl
  · exact ⟨⟨A, cap, [], fun w' _ => ⟨A, cap, rfl, h1, h2, h3, fun h => absurd h h0⟩⟩, rfl, fun _ h => (by cases h), fun _ h => (by cases h)⟩

/-- One such slice, in memory that there is none of: only that the type is not empty is wanted of it. -/
def bigX0 (n : Nat) : BigX n where
  A := none
  cap := 0
  L := [(0, .cells #[] 0), (0, .cells #[] 1)]
  h w hw := by
    have h0 : w.heap[0]? = _ := hw (0, .cells #[] 0) (by simp)
    have h1 : w.heap[0]? = _ := hw (0, .cells #[] 1) (by simp)
    rw [h0] at h1
    simp at h1

/-- A call that gives a number in a new slice. -/
theorem gives_big {P : Program} {f : FuncId} {args : List Value} {A : Facts} {n : Nat} (hE : Enters P f) (h : ∀ w, Holds w A → Calls P f args.toArray w fun e w' => ∃ v, e = .returned v ∧ Big w' v n ∧ Fresh w v ∧ Below w.heap.size w w') :
    Gives P f args A (BigX n) BigX.v BigX.L := by
  intro w hw
  rw [callRun_enters hE]
  refine (h w hw).mono fun e w' ⟨v, h1, h2, h3, h4⟩ => ⟨v, h1, ?_⟩
  obtain ⟨x, e1, e2, e3⟩ := bigX_of h2
  exact ⟨x, e1, e2, fun q hq => .inl (h3 _ (e3 q hq)), h4⟩
abbrev big (n : Nat) : Or := .call (BigX n) (bigX0 n) BigX.v BigX.L
abbrev big2 (n m : Nat) : Or := .call (BigX n × BigX m) (bigX0 n, bigX0 m) (fun x => .tuple #[x.1.v, x.2.v]) (fun x => x.1.L ++ x.2.L)
/-- A sign and a number. -/
abbrev sb (s : Bool) (n : Nat) : Or := .call (BigX n) (bigX0 n) (fun x => .agg #[.bool s, x.v]) BigX.L

/-- A call that gives two. -/
theorem gives_big2 {P : Program} {f : FuncId} {args : List Value} {A : Facts} {n m : Nat} (hE : Enters P f) (h : ∀ w, Holds w A → Calls P f args.toArray w fun e w' => ∃ u v, e = .returned (.tuple #[u, v]) ∧ Big w' u n ∧ Big w' v m ∧ Below w.heap.size w w' ∧ Fresh w u ∧ Fresh w v) :
    Gives P f args A (BigX n × BigX m) (fun x => .tuple #[x.1.v, x.2.v]) (fun x => x.1.L ++ x.2.L) := by
  intro w hw
  rw [callRun_enters hE]
  refine (h w hw).mono fun e w' ⟨u, v, h1, h2, h3, h4, h5, h6⟩ => ⟨_, h1, ?_⟩
  obtain ⟨x, e1, e2, e3⟩ := bigX_of h2
  obtain ⟨y, f1, f2, f3⟩ := bigX_of h3
  refine ⟨(x, y), by rw [e1, f1], fun q hq => (List.mem_append.1 hq).elim (e2 q) (f2 q), fun q hq => .inl ?_, h4⟩
  rcases List.mem_append.1 hq with hq | hq
  · exact h5 _ (e3 q hq)
  · exact h6 _ (f3 q hq)
end Go.Proofs.Ytlaapbenpjopiaa

namespace Go.Proofs.Ytlaapbenpjopiaa
open Go.RowKit Sx
set_option maxRecDepth 100000

theorem Try.mixed : Try.prog.follows .mixedOrders = true := by kernel_rfl

def lvU : List Leaf := [.i .u64, .i .u64, .i .u64, .i .u64]
theorem lvU_ok : leaves Try.prog 3 24 = some lvU := by kernel_rfl
theorem guardU : Try.prog.eqGuardType Try.prog.depth 24 = false := by kernel_rfl
theorem eqT_api_Uint256 {xs ys : Array Value} (hx : fitL lvU xs.toList = true) (hy : fitL lvU ys.toList = true) : EqRun Try.prog 24 (.agg xs) (.agg ys) (cellsEq xs.toList ys.toList) :=
  eqRun_of lvU_ok (by omega) (.inr ⟨_, _, Try.underlying24⟩) guardU hx hy

def lvI : List Leaf := [.b, .i .u64, .i .u64, .i .u64, .i .u64]
/-- A pair of a sign and a magnitude. -/
abbrev Ic (s : Bool) (n : Nat) : Value := .agg #[.bool s, .int .u64 (limb n 0), .int .u64 (limb n 1), .int .u64 (limb n 2), .int .u64 (limb n 3)]
/-- Is the number zero? As Go's '==' answers. -/
abbrev isz (n : Nat) : Bool := cellsEq [.int .u64 (limb n 0), .int .u64 (limb n 1), .int .u64 (limb n 2), .int .u64 (limb n 3)] [.int .u64 0, .int .u64 0, .int .u64 0, .int .u64 0]
end Go.Proofs.Ytlaapbenpjopiaa

namespace Go.Proofs.Ytlaapbenpjopiaa
open Go.RowKit Sx
set_option maxRecDepth 100000

theorem gtt {b : Bool} (h : b = true) : (b == true) = true := by rw [h]; rfl
theorem gtf {b : Bool} (h : b = false) : (b == true) = false := by rw [h]; rfl
theorem gff {b : Bool} (h : b = false) : (b == false) = true := by rw [h]; rfl
theorem gft {b : Bool} (h : b = true) : (b == false) = false := by rw [h]; rfl
theorem nt {b : Bool} (h : b = true) : (!b) = false := by rw [h]; rfl
theorem nf {b : Bool} (h : b = false) : (!b) = true := by rw [h]; rfl

/-- Memory that meets E. -/
def EnvF (E : World → Prop) (A : Facts) : Prop := ∀ w, Sx.Holds w A → E w
theorem EnvF.app {E : World → Prop} {A : Facts} (h : EnvF E A) (L : Facts) : EnvF E (A ++ L) := fun w hw => h w fun q hq => hw q (List.mem_append.2 (.inl hq))
/-- The call gives this value where memory meets E. -/
def DetE (E : World → Prop) (f : FuncId) (args : List Value) (v : Value) : Prop := ∀ A, EnvF E A → Gives Try.prog f args A Unit (fun _ => v) (fun _ => [])
theorem Det.E {E : World → Prop} {f : FuncId} {args : List Value} {v : Value} (h : Det Try.prog f args v) : DetE E f args v := fun A _ => h A
theorem DetE.of_calls {E : World → Prop} {f : FuncId} {args : List Value} {v : Value} (hE : Enters Try.prog f) (h : ∀ w, E w → Calls Try.prog f args.toArray w fun e w' => e = .returned v ∧ Below w.heap.size w w') : DetE E f args v :=
  fun _ hA => gives_none hE fun w hw => h w (hA w hw)
theorem DetE.mono {E E' : World → Prop} {f : FuncId} {args : List Value} {v : Value} (h : DetE E f args v) (k : ∀ w, E' w → E w) : DetE E' f args v := fun A hA => h A fun w hw => k w (hA w hw)
theorem Sub.none {L A : Facts} (h : L = []) : Sub L A := by subst h; exact .nil A
/-- A law's call, out of its contract. -/
theorem lawE {E : World → Prop} {f : FuncId} {args : List Value} {v : Value} (hE : Enters Try.prog f) {w : World} (hA : ∃ A, EnvF E A ∧ Sx.Holds w A) (h : DetE E f args v) : Calls Try.prog f args.toArray w fun e w' => e = .returned v ∧ Below w.heap.size w w' := by
  obtain ⟨A, h1, h2⟩ := hA
  exact (h A h1).calls hE w h2

/-! Bytes. -/
abbrev bs (s : ByteArray) : List UInt8 := s.data.toList
theorem bs_len (s : ByteArray) : (bs s).length = s.size := rfl
theorem bs_eq {s t : ByteArray} (h : bs s = bs t) : s = t := by cases s; cases t; congr 1; exact Array.ext' h
theorem bs_app (s t : ByteArray) : bs (s ++ t) = bs s ++ bs t := by simp [bs]
theorem mk_app (l m : List UInt8) : (⟨l.toArray⟩ ++ ⟨m.toArray⟩ : ByteArray) = ⟨(l ++ m).toArray⟩ := bs_eq (by rw [bs_app])
theorem size_mk (l : List UInt8) : (⟨l.toArray⟩ : ByteArray).size = l.length := rfl
theorem mk_bs (s : ByteArray) : (⟨(bs s).toArray⟩ : ByteArray) = s := bs_eq rfl
theorem byteAt_eq (s : ByteArray) (i : Nat) (h : i < s.size) : byteAt s i = (((bs s)[i]'h).toNat : Int) := by
  unfold byteAt
  rw [ByteArray.getElem?_lt' s i h]
  rfl
theorem take_succ (s : ByteArray) (i : Nat) (h : i < s.size) : (bs s).take (i + 1) = (bs s).take i ++ [(bs s)[i]'h] := by
  rw [List.take_add_one, List.getElem?_eq_getElem h]; rfl
theorem take_all (s : ByteArray) : (bs s).take s.size = bs s := List.take_of_length_le (Nat.le_refl _)
/-- '==' of two strings, as the model has it. -/
theorem seq_eq (s t : ByteArray) : (s.toList == t.toList) = decide (bs s = bs t) := by
  rw [ByteArray.toList_eq, ByteArray.toList_eq]
  by_cases h : s.data.toList = t.data.toList
  · rw [decide_eq_true h]; exact beq_iff_eq.2 h
  · rw [decide_eq_false h]; exact beq_eq_false_iff_ne.2 h
theorem wrap_nat {n : Nat} (h : n < 9223372036854775808) : IntKind.i64.wrap (n : Int) = (n : Int) := by simp [IntKind.wrap, IntKind.bits, IntKind.signed]; omega
theorem wrap_succ {n : Nat} (h : n < 9223372036854775807) : IntKind.i64.wrap ((n : Int) + 1) = ((n + 1 : Nat) : Int) := by simp [IntKind.wrap, IntKind.bits, IntKind.signed]; omega
theorem ix_ok {i n : Nat} (h : i < n) : (0 : Int) ≤ (i : Int) ∧ (i : Int).toNat < n := ⟨Int.natCast_nonneg _, h⟩
theorem lt_of_dec {i n : Nat} (h : decide ((i : Int) < (n : Int)) = true) : i < n := by simpa using h
theorem ge_of_dec {i n : Nat} (h : decide ((i : Int) < (n : Int)) = false) : n ≤ i := by simpa using h
end Go.Proofs.Ytlaapbenpjopiaa

