/- A writer of conditions for calls of Go functions: symbolic states, one step for each operation, and the theorem that what it asks suffices. No Go function in this text; no conditions. -/
import Derived.Below
import Derived.LoopN
import Derived.Orders
import Derived.WalkLawsBesides
import Derived.Laws.CopyRow
import Derived.Laws.Cells
import Derived.ChangeKeysEq
import Derived.Laws.StructEq
import Derived.Deep.AppendSrc
import Derived.Laws.AppendOwn
import Derived.Laws.MakeOwn
namespace Go.Proofs.Ytlaapbenpjopiaa.Sx
open Go.RowKit

/-- Blocks of memory that hold what is listed. -/
abbrev Facts := List (Nat × Obj)
/-- What is said of the blocks of a thing: memory that somebody holds alone, and that changes. -/
abbrev TP : Type := Facts → Prop

/-- A value in a slot: a value as it stands, with the memory that it leads to; an address in a block of the call's own; a slice of n elements in such a block; or the call's own buffer k (a slice that grows by 'append'), as it is at its turn 'ver', with elements of sz cells. -/
inductive SV where
  | v (x : Value) (L : Facts)
  | p (k off : Nat)
  | s (k off n c : Nat)
  | a (k ver sz : Nat)

/-- The block of the call's own that it leads to. -/
def SV.key : SV → Option Nat
  | .v _ _ => none
  | .p k _ => some k
  | .s k _ _ _ => some k
  | .a k _ _ => some k

structure Blk where
  t : TypeId
  c : List Value
  L : Facts

/-- A plain block; else a buffer: its type number tells the elements' type and its turn, and c is what it holds up to its length (what lies behind is not told). -/
def Blk.norm : Blk → Bool
  | ⟨t, _, _⟩ => Nat.blt t 1048576
def Blk.ver : Blk → Nat
  | ⟨t, _, _⟩ => t / 1048576
def Blk.ty : Blk → Nat
  | ⟨t, _, _⟩ => t % 1048576
def bufT (e ver : Nat) : Nat := 1048576 * ver + e
def lenB (c : List Value) (sz : Nat) : Nat := bif Nat.beq sz 1 then c.length else c.length / sz

/-- What a buffer may be, seen from outside: nothing but a length of 0; or a row with something behind it. -/
abbrev FrX (c : List Value) : Type := (PLift (c = []) × Option Addr) ⊕ (Nat × List Value)
def frO {c : List Value} : FrX c → Option Addr
  | .inl q => q.2
  | .inr q => some ⟨q.1, 0, none⟩
def frC {c : List Value} (sz : Nat) : FrX c → Nat
  | .inl _ => 0
  | .inr q => (c.length + q.2.length) / sz
def frL {c : List Value} (e : TypeId) : FrX c → Facts
  | .inl _ => []
  | .inr q => [(q.1, .cells (c ++ q.2).toArray e)]

/-- The row is a whole number of elements. -/
def FrOk {c : List Value} (sz : Nat) : FrX c → Prop
  | .inl _ => True
  | .inr q => (c.length + q.2.length) % sz = 0

structure St where
  n : Nat
  tm : Nat → Option SV
  hp : Nat → Option Blk
  nx : Nat
  th : Nat → Option TP

def set {α : Type} (f : Nat → Option α) (i : Nat) (x : α) : Nat → Option α := fun j => bif Nat.beq i j then some x else f j

def St.put (s : St) (d : Option Tmp) (x : SV) : St :=
  match d with
  | none => s
  | some d => { s with tm := set s.tm d x }

def St.ev (s : St) : Operand → Option SV
  | .tmp t => s.tm t
  | .const x => some (.v x [])
  | .global g => some (.v (.pointer (some ⟨g, 0, none⟩)) [])
  | .func f => some (.v (.func (.func f) #[] #[]) [])

def St.valOf (s : St) (x : Operand) : Value :=
  match s.ev x with
  | some (.v y _) => y
  | _ => undef

def St.factsOf (s : St) : List Operand → Option Facts
  | [] => some []
  | x :: r =>
    match s.ev x with
    | some (.v _ L) =>
      match s.factsOf r with
      | some M => some (L ++ M)
      | none => none
    | _ => none

/-- What an operation that only reads gives. -/
inductive Rd : Type 1 where
  | ret (s : SV)
  | chk (p : Prop) (s : SV)
  | many (p : Prop) (X : Type) (x0 : X) (out : X → SV)
  | bad

def Rd.wp : Rd → (SV → Prop) → Prop
  | .ret s, k => k s
  | .chk p s, k => p ∧ k s
  | .many p X _ out, k => p ∧ ∀ x : X, k (out x)
  | .bad, _ => False

def Rd.under (q : Prop) : Rd → Rd
  | .ret s => .chk q s
  | .chk p s => .chk (q ∧ p) s
  | .many p X x0 out => .many (q ∧ p) X x0 out
  | .bad => .bad

theorem Rd.wp_mono {r : Rd} {k k' : SV → Prop} (h : r.wp k) (hk : ∀ s, k s → k' s) : r.wp k' := by
  cases r with
  | ret s => exact hk _ h
  | chk p s => exact ⟨h.1, hk _ h.2⟩
  | many p X x0 out => exact ⟨h.1, fun x => hk _ (h.2 x)⟩
  | bad => exact h

theorem Rd.wp_under {q : Prop} {r : Rd} {k : SV → Prop} (h : (r.under q).wp k) : q ∧ r.wp k := by
  cases r with
  | ret s => exact h
  | chk p s => exact ⟨h.1.1, h.1.2, h.2⟩
  | many p X x0 out => exact ⟨h.1.1, h.1.2, h.2⟩
  | bad => exact h.elim

/-- Two operations that only read, in either order. -/
theorem Rd.swap {r r' : Rd} {k : SV → SV → Prop} (h : r.wp fun x => r'.wp fun y => k x y) : r'.wp fun y => r.wp fun x => k x y := by
  cases r with
  | ret s => exact h
  | bad => exact h.elim
  | chk p s =>
    cases r' with
    | ret s' => exact h
    | chk p' s' => exact ⟨h.2.1, h.1, h.2.2⟩
    | many p' X' x0' out' => exact ⟨h.2.1, fun y => ⟨h.1, h.2.2 y⟩⟩
    | bad => exact h.2.elim
  | many p X x0 out =>
    cases r' with
    | ret s' => exact h
    | chk p' s' => exact ⟨(h.2 x0).1, h.1, fun x => (h.2 x).2⟩
    | many p' X' x0' out' => exact ⟨(h.2 x0).1, fun y => ⟨h.1, fun x => (h.2 x).2 y⟩⟩
    | bad => exact (h.2 x0).elim

def Holds (w : World) (L : Facts) : Prop := ∀ q ∈ L, w.heap[q.1]? = some q.2

/-- A call of function f, whether it has a body or is an entry of the model. -/
def CallRun (P : Program) (f : FuncId) (args : Array Value) (w : World) (R : Value → World → Prop) : Prop :=
  match (callFunc f args).run P w with
  | .ok (.value v) w' => R v w'
  | .ok (.enter g as) w' => Calls P g as w' fun e w'' => ∃ v, e = .returned v ∧ R v w''
  | _ => False

/-- The same of whatever operation. -/
def OpRun (P : Program) (m : Sem Next) (w : World) (R : Value → World → Prop) : Prop :=
  match m.run P w with
  | .ok (.value v) w' => R v w'
  | .ok (.enter g as) w' => Calls P g as w' fun e w'' => ∃ v, e = .returned v ∧ R v w''
  | _ => False

/-- The same, where there may be no value. -/
def OpRunT (P : Program) (m : Sem Next) (w : World) (R : Value → World → Prop) : Prop :=
  match m.run P w with
  | .ok (.value v) w' => R v w'
  | .ok (.enter g as) w' => Calls P g as w' fun e w'' => ∃ v, e = .returned v ∧ R v w''
  | .ok .skip w' => R undef w'
  | _ => False
theorem OpRun.t {P : Program} {m : Sem Next} {w : World} {R : Value → World → Prop} (h : OpRun P m w R) : OpRunT P m w R := by
  unfold OpRun at h
  unfold OpRunT
  split at h
  · rename_i e; rw [e]; exact h
  · rename_i e; rw [e]; exact h
  · exact h.elim

/-- A contract: the call returns one of the listed values; memory that was there is as it was. -/
def Gives (P : Program) (f : FuncId) (args : List Value) (A : Facts) (X : Type) (ret : X → Value) (L : X → Facts) : Prop :=
  ∀ w, Holds w A → CallRun P f args.toArray w fun v w' =>
    ∃ x, v = ret x ∧ Holds w' (L x) ∧ (∀ q ∈ L x, w.heap.size ≤ q.1 ∨ ∃ q' ∈ A, q'.1 = q.1) ∧ Below w.heap.size w w'

/-- The same contract of whatever operation. -/
def GivesOp (P : Program) (m : Sem Next) (A : Facts) (X : Type) (ret : X → Value) (L : X → Facts) : Prop :=
  ∀ w, Holds w A → OpRun P m w fun v w' =>
    ∃ x, v = ret x ∧ Holds w' (L x) ∧ (∀ q ∈ L x, w.heap.size ≤ q.1 ∨ ∃ q' ∈ A, q'.1 = q.1) ∧ Below w.heap.size w w'

/-- A slice that nobody else holds: of no length, or in a new block. -/
def Fresh (n0 : Nat) (w : World) (e sz : Nat) (c : List Value) (v : Value) : Prop :=
  (c = [] ∧ ∃ o, v = .slice o 0 0) ∨ ∃ m sp n cap, n0 ≤ m ∧ w.heap[m]? = some (.cells (c ++ sp).toArray e) ∧ v = .slice (some ⟨m, 0, none⟩) n cap ∧ c.length = n * sz ∧ c.length + sp.length = cap * sz

/-- A contract: the operation gives such a slice, with one of the listed contents. -/
def OwnOp (P : Program) (m : Sem Next) (A : Facts) (X : Type) (e sz : Nat) (c : X → List Value) : Prop :=
  ∀ w, Holds w A → OpRun P m w fun v w' => ∃ x, Fresh w.heap.size w' e sz (c x) v ∧ Below w.heap.size w w'

/-- No block of the second is one of the first. -/
def Apart (L M : Facts) : Prop := ∀ q ∈ L, ∀ q' ∈ M, q'.1 ≠ q.1
/-- Where a call began, and the blocks that it may write. -/
structure Start where
  w : World
  own : Facts
abbrev Start.heap (S : Start) := S.w.heap
/-- What was there is as it was, but for what may be written. -/
structure Still (S : Start) (w : World) : Prop where
  os : w.os = S.w.os
  tape : w.tape = S.w.tape
  output : w.output = S.w.output
  size : S.heap.size ≤ w.heap.size
  block : ∀ k, k < S.heap.size → (∀ q ∈ S.own, q.1 ≠ k) → w.heap[k]? = S.heap[k]?
theorem Still.trans {S : Start} {w w' : World} (h : Still S w) (b : Below w.heap.size w w') : Still S w' :=
  ⟨b.os.trans h.os, b.tape.trans h.tape, b.output.trans h.output, Nat.le_trans h.size b.size, fun k hk ho => (b.block k (Nat.lt_of_lt_of_le hk h.size)).trans (h.block k hk ho)⟩
theorem Still.below {w w' : World} (h : Still ⟨w, []⟩ w') : Below w.heap.size w w' := ⟨h.os, h.tape, h.output, h.size, fun k hk => h.block k hk fun _ hq => by cases hq⟩
theorem Still.refl (w : World) (F : Facts) : Still ⟨w, F⟩ w := ⟨rfl, rfl, rfl, Nat.le_refl _, fun _ _ _ => rfl⟩
theorem Below.still {w w' : World} {F : Facts} (h : Below w.heap.size w w') : Still ⟨w, F⟩ w' := ⟨h.os, h.tape, h.output, h.size, fun k hk _ => h.block k hk⟩

/-- The operation reads a thing, and turns it. -/
def TPost (A : Facts) (X : Type) (ret : X → Value) (L : X → Facts) (T : X → TP) (w : World) (F : Facts) (v : Value) (w' : World) : Prop :=
  ∃ x F', v = ret x ∧ T x F' ∧ Holds w' (L x) ∧ Holds w' F' ∧ Apart (L x) F' ∧ (∀ q ∈ L x, w.heap.size ≤ q.1 ∨ ∃ q' ∈ A, q'.1 = q.1) ∧ (∀ q ∈ F', w.heap.size ≤ q.1 ∨ ∃ q' ∈ F, q'.1 = q.1) ∧ Still ⟨w, F⟩ w'
def GivesT (P : Program) (m : Sem Next) (A : Facts) (T : TP) (X : Type) (ret : X → Value) (L : X → Facts) (T' : X → TP) : Prop :=
  ∀ w F, T F → Holds w A → Holds w F → Apart A F → OpRunT P m w (TPost A X ret L T' w F)
def CallT (P : Program) (f : FuncId) (args : List Value) (A : Facts) (T : TP) (X : Type) (ret : X → Value) (L : X → Facts) (T' : X → TP) : Prop :=
  ∀ w F, T F → Holds w A → Holds w F → Apart A F → CallRun P f args.toArray w (TPost A X ret L T' w F)
/-- It reads the thing F. -/
def RPost (A : Facts) (X : Type) (ret : X → Value) (L : X → Facts) (w : World) (v : Value) (w' : World) : Prop :=
  ∃ x, v = ret x ∧ Holds w' (L x) ∧ (∀ q ∈ L x, w.heap.size ≤ q.1 ∨ ∃ q' ∈ A, q'.1 = q.1) ∧ Below w.heap.size w w'
def ReadsOp (P : Program) (m : Sem Next) (A F : Facts) (X : Type) (ret : X → Value) (L : X → Facts) : Prop :=
  ∀ w, Holds w A → Holds w F → Apart A F → OpRun P m w (RPost A X ret L w)
def CallR (P : Program) (f : FuncId) (args : List Value) (A F : Facts) (X : Type) (ret : X → Value) (L : X → Facts) : Prop :=
  ∀ w, Holds w A → Holds w F → Apart A F → CallRun P f args.toArray w (RPost A X ret L w)

/-- What is said of one operation ahead of the walk: its guard is met (or 'pick' takes its first); it is left out by its guard (or 'pick' takes its second); its guard is met, and 'pick' takes its second; it is a call with this contract; it reads this. Nothing said: what it hangs on is plain. -/
inductive Or : Type 1 where
  | yes
  | no
  | els
  | call (X : Type) (x0 : X) (ret : X → Value) (L : X → Facts)
  | ld (x : Value)
  | own (X : Type) (x0 : X) (e sz : Nat) (c : X → List Value)
  | app (n : Nat) (xs : List Value)
  | appf (n : Nat) (xs : List Value)
  | mk (n : Nat)
  | cp (n : Nat) (xs : List Value)
  | thg (k : Nat) (X : Type) (x0 : X) (ret : X → Value) (L : X → Facts) (T : X → TP)
  | rdT (k : Nat) (X : Type) (x0 : X) (ret : X → Value) (L : X → Facts)

def look {α : Type _} (i : Nat) : List (Nat × α) → Option α
  | [] => none
  | (j, x) :: r => bif Nat.beq j i then some x else look i r

def pureRun {α : Type} (P : Program) : Sem α → Option α
  | .pure a => some a
  | .program k => pureRun P (k P)
  | .mark _ k => pureRun P k
  | _ => none

theorem pureRun_sound {α : Type} {P : Program} {s : Sem α} {a : α} (h : pureRun P s = some a) (w : World) : s.run P w = .ok a w := by
  induction s with
  | pure b => simp [pureRun] at h; subst h; rfl
  | program k ih => exact ih _ h
  | mark m k ih => exact ih h
  | _ => simp [pureRun] at h

def cellEq : Value → Value → Bool
  | .int _ a, .int _ b => a == b
  | .bool a, .bool b => a == b
  | .string a, .string b => a == b
  | _, _ => false

def cellsEq : List Value → List Value → Bool
  | [], [] => true
  | x :: r, y :: q => cellEq x y && cellsEq r q
  | _, _ => false

/-- Go's '==' at a type, of two values: it answers b. -/
def EqRun (P : Program) (t : TypeId) (x y : Value) (b : Bool) : Prop :=
  (∀ w, (Op.equal t x y).run P w = .ok b w) ∧ P.eqGuardType P.depth t = false

def ldOwn (P : Program) (t : TypeId) (b : Blk) (off : Nat) : Option Value :=
  match P.underlying t, P.info? t with
  | some (.struct _), some i => bif Nat.ble (off + i.size) b.c.length then some (.agg ((b.c.drop off).take i.size).toArray) else none
  | some (.array _ _), some i => bif Nat.ble (off + i.size) b.c.length then some (.agg ((b.c.drop off).take i.size).toArray) else none
  | some _, _ => (b.c.drop off).head?
  | none, _ => none

def setRange (c : List Value) (o : Nat) (vs : List Value) : List Value := c.take o ++ vs ++ c.drop (o + vs.length)

def fillL (place : Nat → Option (Nat × Nat)) : List Value → List (Nat × Value) → Option (List Value)
  | c, [] => some c
  | c, (i, x) :: r =>
    match place i with
    | none => none
    | some (off, size) => bif Nat.beq x.cells.toList.length size && Nat.ble (off + size) c.length then fillL place (setRange c off x.cells.toList) r else none

def placesOf (P : Program) : List Field → Option (List (Nat × Nat))
  | [] => some []
  | f :: r =>
    match P.info? f.type, placesOf P r with
    | some i, some l => some ((f.offset, i.size) :: l)
    | _, _ => none

def St.partsOf (s : St) : List (Nat × Operand) → Option (List (Nat × Value) × Facts)
  | [] => some ([], [])
  | (i, x) :: r =>
    match s.ev x, s.partsOf r with
    | some (.v y L), some (ys, M) => some ((i, y) :: ys, L ++ M)
    | _, _ => none

def byteAt (s : ByteArray) (i : Nat) : Int := ((s[i]?).getD 0).toNat
def elSize (P : Program) (t : TypeId) : Nat :=
  match P.info? t with
  | some i => i.size
  | none => 0
/-- An end of a slice, or where there is none, this. -/
def St.bound (s : St) (o : Option Operand) (d : Int) : Option Int :=
  match o with
  | none => some d
  | some x =>
    match s.ev x with
    | some (.v (.int _ i) _) => some i
    | _ => none

/-- An operation on values alone, by the model's own text. -/
def rdPlain (P : Program) (s : St) (o : Oper) : Rd :=
  match s.factsOf o.op.operands.toList with
  | some L =>
    match pureRun P (execOp s.valOf o) with
    | some (.value x) => .ret (.v x L)
    | _ => .bad
  | none => .bad

/-- An operation of which the oracle says what it gives. -/
def rdGen (P : Program) (B : Facts) (s : St) (o : Oper) (orc : Option Or) : Rd :=
  match orc with
  | some (.ld x) =>
    match s.factsOf o.op.operands.toList with
    | some L => .chk (∀ w, Holds w (B ++ L) → (execOp s.valOf o).run P w = .ok (.value x) w) (.v x [])
    | none => .bad
  | some (.call X x0 ret M) =>
    match s.factsOf o.op.operands.toList with
    | some L => .many (GivesOp P (execOp s.valOf o) (B ++ L) X ret M) X x0 (fun x => .v (ret x) (M x))
    | none => .bad
  | _ => rdPlain P s o

def idxOk (o : Option Addr) (i len : Int) : Prop :=
  match o with
  | some _ => 0 ≤ i ∧ i < len
  | none => False
def subO (o : Option Addr) (cap l sz : Nat) : Option Addr := if cap = l then o else o.map (·.add (l * sz))

/-- The operations that only read. B: what is known of memory throughout. -/
def rd0 (P : Program) (B : Facts) (s : St) (o : Oper) (orc : Option Or) : Rd :=
  match o.op with
  | .move x | .assign x =>
    match s.ev x with
    | some sv => .ret sv
    | none => .bad
  | .pick c a b =>
    match s.ev c with
    | some (.v (.bool t) _) =>
      match orc with
      | some .no =>
        match s.ev b with
        | some sv => .chk (t = false) sv
        | none => .bad
      | some .els =>
        match s.ev b with
        | some sv => .chk (t = false) sv
        | none => .bad
      | none =>
        match (bif t then s.ev a else s.ev b) with
        | some sv => .ret sv
        | none => .bad
      | _ =>
        match s.ev a with
        | some sv => .chk (t = true) sv
        | none => .bad
    | _ => .bad
  | .load t a =>
    match s.ev a with
    | some (.p k off) =>
      match s.hp k with
      | some b =>
        match b.norm, ldOwn P t b off with
        | true, some x => .ret (.v x b.L)
        | _, _ => .bad
      | none => .bad
    | some (.v (.pointer (some ad)) L) =>
      match orc with
      | some (.ld x) => .chk (∀ w, Holds w (B ++ L) → (loadVar t ad).run P w = .ok x w) (.v x [])
      | _ => .bad
    | _ => .bad
  | .fieldAddr t a f =>
    match s.ev a with
    | some (.p k off) =>
      match P.underlying t with
      | some (.struct fs) =>
        match fs[f]? with
        | some fd =>
          match P.info? fd.type with
          | some i => bif Nat.beq i.size 0 then .bad else .ret (.p k (off + fd.offset))
          | none => .bad
        | none => .bad
      | _ => .bad
    | some (.v (.pointer (some _)) _) => rdGen P B s o orc
    | _ => .bad
  | .indexAddr t a ix =>
    match s.ev a, s.ev ix with
    | some (.p k off), some (.v (.int _ i) _) =>
      match P.underlying t with
      | some (.array len el) =>
        match P.info? el with
        | some inf => .chk (0 ≤ i ∧ i < len) (.p k (off + i.toNat * inf.size))
        | none => .bad
      | _ => .bad
    | some (.v (.slice o len _) L), some (.v (.int _ i) _) =>
      match P.underlying t with
      | some (.slice el) =>
        match P.info? el with
        | some inf => .chk (idxOk o i len) (.v (.pointer (some ((o.getD ⟨0, 0, none⟩).add (i.toNat * inf.size)))) L)
        | none => .bad
      | _ => .bad
    | some (.s k off n _), some (.v (.int _ i) _) =>
      match P.underlying t with
      | some (.slice el) =>
        match P.info? el with
        | some inf => .chk (0 ≤ i ∧ i < n) (.p k (off + i.toNat * inf.size))
        | none => .bad
      | _ => .bad
    | _, _ => rdGen P B s o orc
  | .index t x ix =>
    match s.ev x, s.ev ix with
    | some (.v (.string y) _), some (.v (.int _ i) _) =>
      match P.underlying t with
      | some .string => .chk (0 ≤ i ∧ i.toNat < y.size) (.v (.int .u8 (byteAt y i.toNat)) [])
      | _ => .bad
    | some (.v (.agg cs) L), some (.v (.int _ i) _) =>
      match P.underlying t with
      | some (.array len el) =>
        match P.info? el, ldOwn P el ⟨t, cs.toList, []⟩ (i.toNat * (elSize P el)) with
        | some _, some z => .chk (0 ≤ i ∧ i < len) (.v z L)
        | _, _ => .bad
      | _ => .bad
    | _, _ => .bad
  | .slice t x lo hi mx =>
    match s.ev x, mx with
    | some (.v (.string y) _), none =>
      match P.underlying t with
      | some .string =>
        match s.bound lo 0, s.bound hi y.size with
        | some l, some h => .chk (0 ≤ l ∧ l ≤ h ∧ h ≤ y.size) (.v (.string (y.extract l.toNat h.toNat)) [])
        | _, _ => .bad
      | _ => .bad
    | some (.v (.slice o len cap) L), none =>
      match P.underlying t with
      | some (.slice el) =>
        match P.info? el with
        | some inf =>
          match s.bound lo 0, s.bound hi len with
          | some l, some h => .chk (0 ≤ l ∧ l ≤ h ∧ h ≤ cap) (.v (.slice (subO o cap l.toNat inf.size) (h.toNat - l.toNat) (cap - l.toNat)) L)
          | _, _ => .bad
        | none => .bad
      | _ => .bad
    | _, _ => rdGen P B s o orc
  | .binOp op t x y _ =>
    match op, s.ev x, s.ev y with
    | .eql, some (.v (.agg cs) _), some (.v (.agg ds) _) => .chk (EqRun P t (.agg cs) (.agg ds) (cellsEq cs.toList ds.toList)) (.v (.bool (cellsEq cs.toList ds.toList)) [])
    | .neq, some (.v (.agg cs) _), some (.v (.agg ds) _) => .chk (EqRun P t (.agg cs) (.agg ds) (cellsEq cs.toList ds.toList)) (.v (.bool !(cellsEq cs.toList ds.toList)) [])
    | .quo, some (.v (.int k a) _), some (.v (.int k' b) _) => .chk (b ≠ 0 ∧ k = k') (.v (.int k (k.wrap (a.tdiv b))) [])
    | .rem, some (.v (.int k a) _), some (.v (.int k' b) _) => .chk (b ≠ 0 ∧ k = k') (.v (.int k (a.tmod b)) [])
    | .shl, some (.v (.int k a) _), some (.v (.int _ b) _) => .chk (0 ≤ b) (.v (.int k (k.wrap (a * 2 ^ (min b.toNat k.bits)))) [])
    | .add, some (.v (.string a) _), some (.v (.string b) _) => .chk (((a.size + b.size : Nat) : Int) ≤ IntKind.i64.max) (.v (.string (a ++ b)) [])
    | .shr, some (.v (.int k a) _), some (.v (.int _ b) _) => .chk (0 ≤ b) (.v (.int k (a.fdiv (2 ^ (min b.toNat k.bits)))) [])
    | _, _, _ => rdGen P B s o orc
  | .call c =>
    match c.callee with
    | .value (.func f) =>
      match s.factsOf c.args.toList, orc with
      | some L, some (.call X x0 ret M) => .many (Gives P f (c.args.toList.map s.valOf) (B ++ L) X ret M) X x0 (fun x => .v (ret x) (M x))
      | _, _ => .bad
    | .builtin .len =>
      match c.argTypes.toList, c.args.toList with
      | [t], [x] =>
        match P.underlying t, s.ev x with
        | some (.slice _), some (.v (.slice _ n _) _) => .ret (.v (.int .i64 n) [])
        | some (.slice _), some (.s _ _ n _) => .ret (.v (.int .i64 n) [])
        | some (.slice _), some (.a k ver sz) =>
          match s.hp k with
          | some b =>
            match !b.norm && Nat.beq b.ver ver && !Nat.beq sz 0 with
            | true => .ret (.v (.int .i64 (lenB b.c sz)) [])
            | false => .bad
          | none => .bad
        | some .string, some (.v (.string y) _) => .ret (.v (.int .i64 y.size) [])
        | some (.array n _), some _ => .ret (.v (.int .i64 n) [])
        | _, _ => .bad
      | _, _ => .bad
    | .builtin _ => rdGen P B s o orc
    | _ => .bad
  | .build t ps =>
    match orc with
    | some (.ld _) => rdGen P B s o orc
    | _ =>
      match P.info? t with
      | some i =>
        match i.zero, s.partsOf ps.toList with
        | some z, some (xs, L) =>
          match P.underlying t with
          | some (.struct fs) =>
            match placesOf P fs.toList with
            | some pl =>
              match fillL (fun j => pl[j]?) z.cells.toList xs with
              | some cs => .ret (.v (.agg cs.toArray) L)
              | none => .bad
            | none => .bad
          | some (.array _ e) =>
            match P.info? e with
            | some ie =>
              match fillL (fun j => some (j * ie.size, ie.size)) z.cells.toList xs with
              | some cs => .ret (.v (.agg cs.toArray) L)
              | none => .bad
            | none => .bad
          | _ => .bad
        | _, _ => .bad
      | none => .bad
  | .field t x f =>
    match s.ev x with
    | some (.v (.agg cs) L) =>
      match P.underlying t with
      | some (.struct fs) =>
        match fs[f]? with
        | some fd =>
          match ldOwn P fd.type ⟨t, cs.toList, []⟩ fd.offset with
          | some y => .ret (.v y L)
          | none => .bad
        | none => .bad
      | _ => .bad
    | _ => .bad
  | .alloc _ | .box .. | .store .. | .go _ | .defer _ | .select .. => .bad
  | _ => rdGen P B s o orc

/-- It reads a thing. -/
def rdThing (P : Program) (B : Facts) (s : St) (o : Oper) (k : Nat) (X : Type) (x0 : X) (ret : X → Value) (M : X → Facts) : Rd :=
  match s.factsOf o.op.operands.toList, s.th k, (match o.op with | .select .. => false | _ => true) with
  | some L, some T, true => .many (∀ F, T F → ReadsOp P (execOp s.valOf o) (B ++ L) F X ret M) X x0 (fun x => .v (ret x) (M x))
  | _, _, _ => .bad
def rd (P : Program) (B : Facts) (s : St) (o : Oper) (orc : Option Or) : Rd :=
  match orc with
  | some (.rdT k X x0 ret M) => rdThing P B s o k X x0 ret M
  | orc => rd0 P B s o orc

/-- The same under the operation's guard. -/
def grd (P : Program) (B : Facts) (ops : Array Oper) (s : St) (o : Oper) (orc : Option Or) : Rd :=
  match o.guard with
  | none => rd P B s o orc
  | some (g, want) =>
    match (ops[g]?).bind (·.dst) with
    | some d =>
      match s.tm d with
      | some (.v (.bool b) _) =>
        match orc with
        | some .no => .chk ((b == want) = false) (.v undef [])
        | none => bif b == want then rd P B s o none else .ret (.v undef [])
        | _ => (rd P B s o orc).under ((b == want) = true)
      | some (.v (.tuple _) _) => .ret (.v undef [])
      | _ => .bad
    | none => .bad

def isMem (o : Oper) : Bool :=
  match o.op with
  | .alloc _ | .box .. | .store .. => true
  | _ => false

def isStore (o : Oper) : Bool :=
  match o.op with
  | .store .. => true
  | _ => false

/-- It neither reads nor makes nor writes memory of the call's own. -/
def isQuiet (o : Oper) : Bool :=
  match o.op with
  | .alloc _ | .box .. | .store .. | .load .. => false
  | .call c => (match c.callee with | .builtin _ => false | _ => true)
  | _ => true

/-- It may change a buffer, or make one. -/
def isApp (o : Oper) : Bool :=
  match o.op with
  | .call c => (match c.callee with | .builtin .append => true | _ => false)
  | .makeSlice .. => true
  | _ => false

/-- It does not look at buffers. -/
def isCalm (o : Oper) : Bool :=
  match o.op with
  | .move _ | .assign _ | .pick .. | .load .. | .fieldAddr .. | .build .. | .buildSlice .. | .field .. | .index .. | .indexAddr .. | .slice .. | .binOp .. | .unOp .. | .convert .. | .extract .. | .nilCheck _ => true
  | _ => false

def notSel (o : Oper) : Bool :=
  match o.op with
  | .select .. => false
  | _ => true

/-- The same slots over other blocks. -/
def St.over (s : St) (hp : Nat → Option Blk) : St := ⟨s.n, s.tm, hp, s.nx, s.th⟩
/-- The same over other things. -/
def St.thr (s : St) (th : Nat → Option TP) : St := ⟨s.n, s.tm, s.hp, s.nx, th⟩
def St.thing (s : St) (k : Nat) : TP :=
  match s.th k with
  | some T => T
  | none => fun F => F = []

/-- A new block, under the number that belongs to the i-th operation of the region. -/
def St.new (s : St) (i : Nat) (d : Option Tmp) (b : Blk) : Option St :=
  match s.hp (s.nx + i) with
  | none => some ((s.over (set s.hp (s.nx + i) b)).put d (.p (s.nx + i) 0))
  | some _ => none

def St.next (s : St) (n : Nat) : St := { s with nx := s.nx + n }

/-- What a new block holds. -/
def newBlk (P : Program) (s : St) (o : Oper) : Option Blk :=
  match o.op with
  | .alloc t =>
    match P.info? t with
    | some i =>
      match Nat.blt t 1048576, i.zero with
      | true, some z => some ⟨t, z.cells.toList, []⟩
      | _, _ => none
    | none => none
  | .box t x =>
    match Nat.blt t 1048576, s.ev x with
    | true, some (.v y L) => some ⟨t, y.cells.toList, L⟩
    | _, _ => none
  | _ => none

/-- The operations that make or write memory. -/
def memSt (P : Program) (s : St) (j : Nat) (o : Oper) : Option St :=
  match o.guard with
  | some _ => none
  | none =>
    match o.op with
    | .store t a x =>
      match s.ev a, s.ev x, P.info? t with
      | some (.p k off), some (.v y L), some i =>
        match s.hp k with
        | some b =>
          bif (b.norm && Nat.beq y.cells.size i.size) && Nat.ble (off + i.size) b.c.length && y.cells.toList.all Value.oneCell' then
            some ((s.over (set s.hp k { b with c := setRange b.c off y.cells.toList, L := L ++ b.L })).put o.dst (.v undef []))
          else none
        | none => none
      | _, _, _ => none
    | _ =>
      match newBlk P s o with
      | some b => s.new j o.dst b
      | none => none

def mem (P : Program) (s : St) (j : Nat) (o : Oper) (K : St → Prop) : Prop :=
  match memSt P s j o with
  | some s' => K s'
  | none => False

/-- What is said of a region's operations: of those not listed, nothing, or 'yes'. -/
structure Ors : Type 1 where
  all : Bool
  l : List (Nat × Or)
  own : Bool

def Ors.at (r : Ors) (i : Nat) : Option Or :=
  match look i r.l with
  | some x => some x
  | none => bif r.all then some .yes else none

/-- What an operation on buffers asks, and what it leaves. -/
structure Ap : Type 1 where
  p : Prop
  X : Type
  x0 : X
  hp : X → Nat → Option Blk
  sv : X → SV
  th : X → Nat → Option TP

/-- 'append' to the call's own buffer. out: it is the call's own no longer. -/
def apOn (P : Program) (B : Facts) (s : St) (o : Oper) (n : Nat) (xs : List Value) (out : Bool) : Option Ap :=
  match o.op with
  | .call c =>
    match c.callee, c.args.toList, c.argTypes.toList with
    | .builtin .append, [x, y], [t, tx] =>
      match s.ev x, s.ev y, P.underlying t with
      | some (.a k ver sz), some (.v yv L), some (.slice e) =>
        match s.hp k, P.info? e with
        | some b, some i =>
          match i.zero with
          | some z =>
            match (!b.norm && Nat.beq b.ver ver && Nat.beq b.ty e) && (Nat.beq i.size sz && !Nat.beq sz 0 && Nat.ble i.bytes 32 && Nat.beq z.cells.size sz), out with
            | true, false => some ⟨(∀ w, Holds w (B ++ L) → Src P sz tx yv n xs w) ∧ b.c.length + xs.length ≤ 1099511627776, Unit, (), fun _ => set s.hp k ⟨bufT e (ver + 1), b.c ++ xs, b.L⟩, fun _ => .a k (ver + 1) sz, fun _ => s.th⟩
            | true, true => some ⟨(∀ w, Holds w (B ++ L) → Src P sz tx yv n xs w) ∧ b.c.length + xs.length ≤ 1099511627776, FrX (b.c ++ xs), .inr (0, []), fun _ => set s.hp k ⟨bufT e (ver + 1), [], []⟩, fun x => .v (.slice (frO x) (lenB (b.c ++ xs) sz) (frC sz x)) (frL e x ++ b.L), fun _ => s.th⟩
            | false, _ => none
          | none => none
        | _, _ => none
      | _, _, _ => none
    | _, _, _ => none
  | _ => none

def ap (P : Program) (B : Facts) (s : St) (j : Nat) (o : Oper) (orc : Option Or) : Option Ap :=
  match o.guard with
  | some _ => none
  | none =>
    match orc with
    | some (.own X x0 e sz c) =>
      match s.factsOf o.op.operands.toList, s.hp (s.nx + j) with
      | some L, none =>
        match Nat.blt e 1048576 && notSel o with
        | true => some ⟨OwnOp P (execOp s.valOf o) (B ++ L) X e sz c, X, x0, fun x => set s.hp (s.nx + j) ⟨bufT e 1, c x, []⟩, fun _ => .a (s.nx + j) 1 sz, fun _ => s.th⟩
        | false => none
      | _, _ => none
    | some (.app n xs) => apOn P B s o n xs false
    | some (.appf n xs) => apOn P B s o n xs true
    | some (.mk n) =>
      match o.op with
      | .makeSlice t x y =>
        match s.ev x, s.ev y, P.underlying t with
        | some (.v (.int _ l) _), some (.v (.int _ m) _), some (.slice e) =>
          match P.info? e, s.hp (s.nx + j) with
          | some i, none =>
            match i.zero with
            | some z =>
              match Nat.blt e 1048576 && Nat.beq i.size 1, z.cells.toList with
              | true, [z0] => some ⟨l = n ∧ m = n ∧ i.bytes * n ≤ 281474976710656 ∧ n < 9223372036854775808, Unit, (), fun _ => set s.hp (s.nx + j) ⟨e, List.replicate n z0, []⟩, fun _ => .s (s.nx + j) 0 n n, fun _ => s.th⟩
              | _, _ => none
            | none => none
          | _, _ => none
        | _, _, _ => none
      | _ => none
    | some (.cp n xs) =>
      match o.op with
      | .call c =>
        match c.callee, c.args.toList, c.argTypes.toList with
        | .builtin .copy, [x, y], [t, tx] =>
          match s.ev x, s.ev y, P.underlying t with
          | some (.s k off len _), some (.v yv L), some (.slice e) =>
            match s.hp k, P.info? e with
            | some b, some i =>
              match b.norm && Nat.beq i.size 1 with
              | true => some ⟨(∀ w, Holds w (B ++ L) → Src P 1 tx yv n xs w) ∧ n ≤ len ∧ off + n ≤ b.c.length, Unit, (), fun _ => set s.hp k ⟨b.t, setRange b.c off xs, b.L⟩, fun _ => .v (.int .i64 n) [], fun _ => s.th⟩
              | false => none
            | _, _ => none
          | _, _, _ => none
        | _, _, _ => none
      | _ => none
    | some (.thg k X x0 ret L T) =>
      match s.factsOf o.op.operands.toList, s.hp (s.nx + j), notSel o with
      | some M, none, true => some ⟨GivesT P (execOp s.valOf o) (B ++ M) (s.thing k) X ret L T, X, x0, fun _ => set s.hp (s.nx + j) ⟨bufT 0 1, [], []⟩, fun x => .v (ret x) (L x), fun x => set s.th k (T x)⟩
      | _, _, _ => none
    | _ => none

def isThg (orcs : Ors) (q : Oper × Nat) : Bool :=
  match orcs.at q.2 with
  | some (.thg ..) => true
  | _ => false
def isRdT (orcs : Ors) (q : Oper × Nat) : Bool :=
  match orcs.at q.2 with
  | some (.rdT ..) => true
  | _ => false
def useAp (orcs : Ors) (q : Oper × Nat) : Bool :=
  isThg orcs q || (isApp q.1 || orcs.own) && (match orcs.at q.2 with
    | some (.own ..) => true
    | some (.app ..) => true
    | some (.appf ..) => true
    | some (.mk _) => true
    | some (.cp ..) => true
    | _ => false)
def isMemO (orcs : Ors) (q : Oper × Nat) : Bool := isMem q.1 && !isThg orcs q

/-- The operation without its guard. -/
def Oper.bare (o : Oper) : Oper := ⟨o.dst, o.op, o.type, o.pos, o.after, none⟩
/-- Whether its guard is met, where that is known. -/
def gdV (ops : Array Oper) (s : St) (o : Oper) : Option (Option Bool) :=
  match o.guard with
  | none => some none
  | some (g, want) =>
    match (ops[g]?).bind (·.dst) with
    | some d =>
      match s.tm d with
      | some (.v (.bool b) _) => some (some (b == want))
      | _ => none
    | none => none
def gdP (v : Option Bool) (p : Prop) : Prop :=
  match v with
  | none => p
  | some c => c = true ∧ p
/-- A call that turns a thing may have a guard, which is met. -/
def apG (P : Program) (B : Facts) (ops : Array Oper) (s : St) (j : Nat) (o : Oper) (orc : Option Or) : Option Ap :=
  match orc with
  | some (.thg k X x0 ret L T) =>
    match gdV ops s o with
    | some v => (ap P B s j (Sx.Oper.bare o) (some (.thg k X x0 ret L T))).map fun r => ⟨gdP v r.p, r.X, r.x0, r.hp, r.sv, r.th⟩
    | none => none
  | orc => ap P B s j o orc
def Ap.go (s : St) (d : Option Tmp) (K : St → Prop) : Option Ap → Prop
  | some r => r.p ∧ ∀ x, K (((s.over (r.hp x)).thr (r.th x)).put d (r.sv x))
  | none => False

def step (P : Program) (B : Facts) (ops : Array Oper) (orcs : Ors) (q : Oper × Nat) (s : St) (K : St → Prop) : Prop :=
  match isMemO orcs q, useAp orcs q with
  | true, _ => mem P s q.2 q.1 K
  | false, true => Ap.go s q.1.dst K (apG P B ops s q.2 q.1 (orcs.at q.2))
  | false, false => (grd P B ops s q.1 (orcs.at q.2)).wp fun sv => K (s.put q.1.dst sv)

def steps (P : Program) (B : Facts) (ops : Array Oper) (orcs : Ors) : List (Oper × Nat) → St → (St → Prop) → Prop
  | [], s, K => K s
  | q :: r, s, K => step P B ops orcs q s fun s' => steps P B ops orcs r s' K


/-- A store at a place that is not plain: what it asks is shown, not found. -/
def memC (P : Program) (s : St) (o : Oper) (t : TypeId) (a x : Operand) (K : St → Prop) : Prop :=
  match o.guard with
  | some _ => False
  | none =>
    match s.ev a, s.ev x, P.info? t with
    | some (.p k off), some (.v y L), some i =>
      match s.hp k with
      | some b =>
        match (b.norm && Nat.beq y.cells.size i.size) && y.cells.toList.all Value.oneCell' with
        | true => off + i.size ≤ b.c.length ∧ K ((s.over (set s.hp k { b with c := setRange b.c off y.cells.toList, L := L ++ b.L })).put o.dst (.v undef []))
        | false => False
      | none => False
    | _, _, _ => False

/-- Loads and indices at such a place. -/
def ldC (P : Program) (s : St) (o : Oper) (t : TypeId) (a : Operand) (x : Value) (K : St → Prop) (or : Prop) : Prop :=
  match o.guard with
  | some _ => or
  | none =>
    match s.ev a with
    | some (.p k off) =>
      match s.hp k with
      | some b =>
        match b.norm with
        | true => ldOwn P t b off = some x ∧ K (s.put o.dst (.v x b.L))
        | false => False
      | none => False
    | _ => or

def ixC (P : Program) (s : St) (o : Oper) (t : TypeId) (a ix : Operand) (x : Value) (K : St → Prop) (or : Prop) : Prop :=
  match o.guard with
  | some _ => or
  | none =>
    match s.ev a, s.ev ix with
    | some (.v (.agg cs) L), some (.v (.int _ i) _) =>
      match P.underlying t with
      | some (.array len el) =>
        match P.info? el with
        | some _ => (0 ≤ i ∧ i < len) ∧ ldOwn P el ⟨t, cs.toList, []⟩ (i.toNat * (elSize P el)) = some x ∧ K (s.put o.dst (.v x L))
        | none => False
      | _ => False
    | _, _ => or

def stepC (P : Program) (B : Facts) (ops : Array Oper) (orcs : Ors) (q : Oper × Nat) (s : St) (K : St → Prop) : Prop :=
  match orcs.at q.2 with
  | some (.mk _) =>
    match q.1.op with
    | .store t a x => memC P s q.1 t a x K
    | _ => step P B ops orcs q s K
  | some (.ld x) =>
    match q.1.op with
    | .load t a => ldC P s q.1 t a x K (step P B ops orcs q s K)
    | .index t a ix => ixC P s q.1 t a ix x K (step P B ops orcs q s K)
    | _ => step P B ops orcs q s K
  | _ => step P B ops orcs q s K

def stepsC (P : Program) (B : Facts) (ops : Array Oper) (orcs : Ors) : List (Oper × Nat) → St → (St → Prop) → Prop
  | [], s, K => K s
  | q :: r, s, K => stepC P B ops orcs q s fun s' => stepsC P B ops orcs r s' K

/-- Of each operation, as bits: those that come ahead of it in every order. -/
def maskOf (acc : List Nat) (o : Oper) : Nat :=
  o.after.toList.foldr (fun e r => bif Region.binds .any e then r ||| 2 ^ e.on ||| (acc[e.on]?).getD 0 else r) 0

def masks : List Oper → List Nat → List Nat
  | [], acc => acc
  | o :: r, acc => masks r (acc ++ [maskOf acc o])

/-- Two operations that may come in either order: neither writes where the other reads or writes, and neither looks at what the other gives. -/
def freePair (ops : Array Oper) (x y : Oper) : Bool := ((!isStore x || isQuiet y) && (!isStore y || isQuiet x)) && ((!isApp x || isCalm y) && (!isApp y || isCalm x)) && x.apart ops y

/-- What hangs on slot a: closed under 'an operand is in it, then the result is'. -/
def der (ops : Array Oper) (a : Tmp) : List Tmp :=
  ops.toList.foldl (fun S o => match o.dst with | some d => bif (o.looksAt ops).any (fun t => S.contains t) then d :: S else S | none => S) [a]
def clos (ops : Array Oper) (S : List Tmp) : Bool :=
  ops.toList.all fun o => match o.dst with | some d => !(o.looksAt ops).any (fun t => S.contains t) || S.contains d | none => true
def isNew (o : Oper) : Bool := isMem o && !isStore o
/-- Slot a is written by operation j alone, which makes a new block. -/
def newAt (ops : Array Oper) (a : Tmp) (j : Nat) : Bool :=
  (ops.toList.zipIdx.all fun q => bif Nat.beq q.2 j then isNew q.1 && (q.1.dst == some a) else !(q.1.dst == some a)) && (Nat.blt j ops.size && (clos ops (der ops a) && (der ops a).contains a))
/-- A load, and a store (later in the text) into a block that is new in the region, on which the load does not hang. -/
def lsPair (ops : Array Oper) (x y : Oper) : Bool :=
  match x.op, y.op with
  | .load _ (.tmp t), .store _ (.tmp a) _ => (x.apart ops y && !(der ops a).contains t) && y.after.toList.any (fun e => Region.binds .any e && newAt ops a e.on)
  | _, _ => false
def freeRow (ops : Array Oper) (far : Oper → Oper → Bool) (m : Nat) (o : Oper) : List (Oper × Nat) → Bool
  | [] => true
  | q :: r => (m.testBit q.2 || freePair ops q.1 o || lsPair ops q.1 o || far q.1 o) && freeRow ops far m o r

def drawRows (ops : Array Oper) (far : Oper → Oper → Bool) (ms : List Nat) : List (Oper × Nat) → List (Oper × Nat) → Bool
  | _, [] => true
  | done, q :: r => notSel q.1 && q.1.after.toList.all (fun e => !Region.binds .any e || Nat.blt e.on q.2) && freeRow ops far ((ms[q.2]?).getD 0) q.1 done && drawRows ops far ms (q :: done) r

/-- A region that draws its order: of two operations either the later one always waits for the earlier one, or their order does not matter. -/
def drawOk (ops : Array Oper) : Bool := drawRows ops (fun _ _ => false) (masks ops.toList []) [] ops.toList.zipIdx

/-- Slot u is written nowhere in the region. -/
def unwr (ops : Array Oper) (u : Tmp) : Bool := ops.toList.all fun o => !(o.dst == some u)
/-- What writes slot t looks at slots alone that the region does not write. -/
def plainAt (ops : Array Oper) (t : Tmp) : Bool := ops.toList.all fun o => !(o.dst == some t) || (o.looksAt ops).all (unwr ops)
def keyAt (s : St) (t : Tmp) : List Nat :=
  match s.tm t with
  | some sv => match sv.key with | some k => [k] | none => []
  | none => []
/-- The blocks that slot t may lead to while the region runs. -/
def keysOf (ops : Array Oper) (s : St) (t : Tmp) : List Nat :=
  keyAt s t ++ ops.toList.zipIdx.flatMap fun q => bif q.1.dst == some t then (s.nx + q.2) :: (q.1.looksAt ops).flatMap (keyAt s) else []
def disj (a b : List Nat) : Bool := a.all fun k => b.all fun j => !Nat.beq k j
/-- A load, and a store (later in the text) into another block of the call's own: both addresses are taken from slots that the region does not write. -/
def lsFar (ops : Array Oper) (s : St) (x y : Oper) : Bool :=
  match x.op, y.op with
  | .load _ (.tmp t), .store _ (.tmp a) _ => (x.apart ops y && (plainAt ops t && plainAt ops a)) && disj (keysOf ops s t) (keysOf ops s a)
  | _, _ => false
/-- The same as drawOk, of a state ahead of the region. -/
def drawD (ops : Array Oper) (s : St) : Bool := drawRows ops (lsFar ops s) (masks ops.toList []) [] ops.toList.zipIdx
def isLoad (o : Oper) : Bool := match o.op with | .load _ (.tmp _) => true | _ => false
def hasLS (ops : Array Oper) : Bool := ops.toList.any isStore && ops.toList.any isLoad

/-- Where things are turned: what turns one changes places with calm operations alone that read no thing, and with new blocks. -/
def okPair (orcs : Ors) (x y : Oper × Nat) : Bool :=
  (!isThg orcs x || ((isCalm y.1 || isNew y.1) && !(isRdT orcs y || isThg orcs y))) && (!isThg orcs y || ((isCalm x.1 || isNew x.1) && !(isRdT orcs x || isThg orcs x)))
def thRow (orcs : Ors) (m : Nat) (q : Oper × Nat) : List (Oper × Nat) → Bool
  | [] => true
  | x :: r => (m.testBit x.2 || okPair orcs x q) && thRow orcs m q r
def thRows (orcs : Ors) (ms : List Nat) : List (Oper × Nat) → List (Oper × Nat) → Bool
  | _, [] => true
  | done, q :: r => thRow orcs ((ms[q.2]?).getD 0) q done && thRows orcs ms (q :: done) r
def hasThg : List (Nat × Or) → Bool
  | [] => false
  | (_, .thg ..) :: _ => true
  | _ :: r => hasThg r
def stepsT (P : Program) (B : Facts) (ops : Array Oper) (draw : Bool) (orcs : Ors) (s : St) (K : St → Prop) : Prop :=
  match draw && hasThg orcs.l with
  | false => stepsC P B ops orcs ops.toList.zipIdx s K
  | true =>
    match thRows orcs (masks ops.toList []) [] ops.toList.zipIdx with
    | true => stepsC P B ops orcs ops.toList.zipIdx s K
    | false => False
def stepsD (P : Program) (B : Facts) (ops : Array Oper) (draw : Bool) (orcs : Ors) (s : St) (K : St → Prop) : Prop :=
  match draw && hasLS ops with
  | false => stepsT P B ops draw orcs s K
  | true =>
    match drawD ops s with
    | true => stepsT P B ops draw orcs s K
    | false => False

def dstOk (n : Nat) (ops : Array Oper) : Bool :=
  ops.toList.all fun o => match o.dst with | none => true | some d => Nat.blt d n

/-- What is asked of a function's text. -/
def okCode (n : Nat) : Code → Bool
  | .region _ ops draw => dstOk n ops && (!draw || (hasLS ops || drawOk ops))
  | .seq a b => okCode n a && okCode n b
  | .cond _ a b => okCode n a && okCode n b
  | .block _ b => okCode n b
  | .loop b => okCode n b
  | _ => true

/-- A state told by lists: what a loop keeps. -/
structure Ls where
  n : Nat
  tm : List (Nat × SV)
  hp : List (Nat × Blk)
  nx : Nat

def Ls.st (l : Ls) : St := ⟨l.n, fun i => look i l.tm, fun k => look k l.hp, l.nx, fun _ => none⟩

def slotLe (s : St) (l : Ls) (q : Nat × SV) : Prop :=
  match q.2, s.tm q.1 with
  | .v x L, some (.v y M) => y = x ∧ ∀ z ∈ L, z ∈ M
  | .p k off, some (.p k' off') => k' = k ∧ off' = off ∧ (look k l.hp).isSome = true
  | .s k off n c, some (.s k' off' n' c') => k' = k ∧ off' = off ∧ n' = n ∧ c' = c ∧ (look k l.hp).isSome = true
  | .a k ver sz, some (.a k' ver' sz') => k' = k ∧ sz' = sz ∧ (match s.hp k, look k l.hp with | some b, some b' => (Nat.beq b.ver ver' && Nat.beq b'.ver ver) && !b'.norm | _, _ => false) = true
  | _, _ => False

def blkLe (s : St) (q : Nat × Blk) : Prop :=
  match s.hp q.1 with
  | some b => (match q.2.norm with | true => b.t = q.2.t | false => b.ty = q.2.ty ∧ b.norm = false) ∧ b.c = q.2.c ∧ ∀ z ∈ q.2.L, z ∈ b.L
  | none => False

def allP {α : Type} (p : α → Prop) : List α → Prop
  | [] => True
  | x :: r => p x ∧ allP p r

/-- The state s is one of those that l tells. -/
def Le (s : St) (l : Ls) : Prop := s.n = l.n ∧ allP (slotLe s l) l.tm ∧ allP (blkLe s) l.hp

/-- The same of things. -/
def LeT (s : St) (l : List (Nat × TP)) : Prop := allP (fun q => match s.th q.1 with | some T => ∀ F, T F → q.2 F | none => False) l

inductive Orc : Type 1 where
  | reg (l : List (Nat × Or))
  | all (l : List (Nat × Or))
  | opt (i : Nat) (l : List (Nat × Or))
  | inv (X : Type) (S : X → Ls) (μ : X → Nat) (O : X → List Orc)
  | both (O1 O2 : List Orc)
  | alt (l : List (Prop × List (Nat × Or) × List Orc))
  | yes
  | no
  | pub (i : Nat) (ks : List Nat) (O : List Nat → List Orc)
  | puba (i t : Nat) (c : List Value) (O : FrX c → List Orc)
  | invT (X : Type) (S : X → Ls) (Th : X → List (Nat × TP)) (μ : X → Nat) (O : X → List Orc)
  | pubt (i k j : Nat) (O : Nat → List Orc)
  | pubat (i t : Nat) (c : List Value) (j : Nat) (O : FrX c → List Orc)
  | frz (i t j : Nat) (F : Facts)
  | gen (i : Nat) (X : Type) (S : X → Ls) (Th : X → List (Nat × TP)) (O : X → List Orc)
  | mrg (i k j : Nat) (T : TP)
  | opn (i j : Nat) (Y : Type) (T : Y → TP) (O : Y → List Orc)

/-- One after another: where p holds, this is said; else what follows. -/
def altRun (f : List (Nat × Or) → List Orc → Prop) : List (Prop × List (Nat × Or) × List Orc) → Prop
  | [] => False
  | (p, l, O) :: r => (p → f l O) ∧ (¬ p → altRun f r)

theorem altRun_some {f : List (Nat × Or) → List Orc → Prop} : ∀ {l : List (Prop × List (Nat × Or) × List Orc)}, altRun f l → ∃ x O, f x O
  | [], h => h.elim
  | (p, l, O) :: r, h => by
    by_cases hp : p
    · exact ⟨l, O, h.1 hp⟩
    · exact altRun_some (h.2 hp)

def needs (ops : Array Oper) : Bool :=
  ops.toList.any fun o => o.guard.isSome || (match o.op with
    | .pick .. => true
    | .call c => (match c.callee with | .builtin _ => false | _ => true)
    | .load _ (.global _) => true
    | _ => false)

def iter (f : List Orc → St → (List Orc → Exit → St → Prop) → Prop) (K : List Orc → Exit → St → Prop) : Nat → List Orc → St → Prop
  | 0, _, _ => False
  | n + 1, O, s => f O s fun O' e s' =>
    match e with
    | .normal => iter f K n O' s'
    | e => K O' e s'

/-- A block of the call's own is given away, whatever its place: from now on it is read alone. -/
def St.pub (s : St) (k m : Nat) (b : Blk) : St :=
  ⟨s.n, fun i => match s.tm i with
    | some (.p k' off) => bif Nat.beq k k' then some (.v (.pointer (some ⟨m, off, none⟩)) ((m, .cells b.c.toArray b.t) :: b.L)) else some (.p k' off)
    | some (.s k' off n c) => bif Nat.beq k k' then some (.v (.slice (some ⟨m, off, none⟩) n c) ((m, .cells b.c.toArray b.t) :: b.L)) else some (.s k' off n c)
    | some (.a k' ver sz) => bif Nat.beq k k' then none else some (.a k' ver sz)
    | some (.v x L) => some (.v x L)
    | none => none, fun j => bif Nat.beq k j then none else s.hp j, s.nx, s.th⟩
/-- The same of a buffer: the slot t keeps it. -/
def St.puba (s : St) (t k : Nat) (y : Value) (L : Facts) : St :=
  ⟨s.n, fun i => bif Nat.beq t i then some (.v y L) else match s.tm i with
    | some (.p k' off) => bif Nat.beq k k' then none else some (.p k' off)
    | some (.s k' off n c) => bif Nat.beq k k' then none else some (.s k' off n c)
    | some (.a k' ver sz) => bif Nat.beq k k' then none else some (.a k' ver sz)
    | some (.v x L) => some (.v x L)
    | none => none, fun j => bif Nat.beq k j then none else s.hp j, s.nx, s.th⟩
/-- A plain block becomes a thing. -/
def St.pubt (s : St) (k m : Nat) (b : Blk) (j : Nat) : St :=
  ⟨s.n, fun i => match s.tm i with
    | some (.p k' off) => bif Nat.beq k k' then some (.v (.pointer (some ⟨m, off, none⟩)) b.L) else some (.p k' off)
    | some (.s k' off n c) => bif Nat.beq k k' then some (.v (.slice (some ⟨m, off, none⟩) n c) b.L) else some (.s k' off n c)
    | some (.a k' ver sz) => bif Nat.beq k k' then none else some (.a k' ver sz)
    | some (.v x L) => some (.v x L)
    | none => none, fun j => bif Nat.beq k j then none else s.hp j, s.nx, set s.th j (fun F => F = [(m, .cells b.c.toArray b.t)])⟩
def pubT (s : St) (k j : Nat) (K : Nat → St → Prop) : Prop :=
  match s.hp k with
  | some b =>
    match b.norm with
    | true => ∀ m, K m (s.pubt k m b j)
    | false => False
  | none => False
/-- A buffer becomes a thing: the slot t keeps it. -/
def St.pubat (s : St) (t k : Nat) (y : Value) (L F : Facts) (j : Nat) (p : Prop) : St := { s.puba t k y L with th := set s.th j (fun G => G = F ∧ p) }
def pubAT (s : St) (t : Nat) (c : List Value) (j : Nat) (K : FrX c → St → Prop) : Prop :=
  match s.tm t with
  | some (.a k ver sz) =>
    match s.hp k with
    | some b =>
      match !b.norm && Nat.beq b.ver ver && !Nat.beq sz 0 with
      | true => b.c = c ∧ ∀ x : FrX c, K x (s.pubat t k (.slice (frO x) (lenB c sz) (frC sz x)) b.L (frL b.ty x) j (FrOk sz x))
      | false => False
    | none => False
  | _ => False
/-- Thing j changes no more: from now on it is read alone, from slot t. -/
def St.frz (s : St) (t : Nat) (y : Value) (L : Facts) (j : Nat) : St := ⟨s.n, set s.tm t (.v y L), s.hp, s.nx, fun i => bif Nat.beq j i then none else s.th i⟩
def frzK (s : St) (t j : Nat) (F : Facts) (K : St → Prop) : Prop :=
  match s.tm t, s.th j, j with
  | some (.v y L), some T, j' + 1 => (∀ G, T G → G = F) ∧ K (s.frz t y (F ++ L) (j' + 1))
  | _, _, _ => False
/-- Thing j becomes a part of thing k. -/
def St.mrg (s : St) (k j : Nat) (T : TP) : St := ⟨s.n, s.tm, s.hp, s.nx, fun i => bif Nat.beq j i then none else bif Nat.beq k i then some T else s.th i⟩
def mrgK (s : St) (k j : Nat) (T : TP) (K : St → Prop) : Prop :=
  match s.th k, s.th j, j, Nat.beq k j with
  | some T1, some T2, j' + 1, false => (∀ F1 F2, T1 F1 → T2 F2 → Apart F1 F2 → T (F1 ++ F2)) ∧ K (s.mrg k (j' + 1) T)
  | _, _, _, _ => False
/-- What thing j is gets a name. -/
def St.opn (s : St) (j : Nat) (T : TP) : St := { s with th := set s.th j T }
def opnK (s : St) (j : Nat) (Y : Type) (T : Y → TP) (K : Y → St → Prop) : Prop :=
  match s.th j with
  | some T0 => (∀ F, T0 F → ∃ y, T y F) ∧ ∀ y, K y (s.opn j (T y))
  | none => False
def pubs (s : St) : List Nat → (List Nat → St → Prop) → Prop
  | [], K => K [] s
  | k :: r, K =>
    match s.hp k with
    | some b =>
      match b.norm with
      | true => ∀ m, pubs (s.pub k m b) r fun ms => K (m :: ms)
      | false => False
    | none => False
def pubA (s : St) (t : Nat) (c : List Value) (K : FrX c → St → Prop) : Prop :=
  match s.tm t with
  | some (.a k ver sz) =>
    match s.hp k with
    | some b =>
      match !b.norm && Nat.beq b.ver ver && !Nat.beq sz 0 with
      | true => b.c = c ∧ ∀ x : FrX c, K x (s.puba t k (.slice (frO x) (lenB c sz) (frC sz x)) (frL b.ty x ++ b.L))
      | false => False
    | none => False
  | _ => False
/-- What is given away ahead of region id. -/
def preRun (id : Nat) (O : List Orc) (s : St) (k : List Orc → St → Prop) : Prop :=
  match O with
  | .pub i ks Ob :: O' => bif Nat.beq i id then pubs s ks fun ms s' => k (Ob ms) s' else k (.pub i ks Ob :: O') s
  | .puba i t c Ob :: O' => bif Nat.beq i id then pubA s t c fun x s' => k (Ob x) s' else k (.puba i t c Ob :: O') s
  | .pubat i t c j Ob :: O' => bif Nat.beq i id then pubAT s t c j fun x s' => k (Ob x) s' else k (.pubat i t c j Ob :: O') s
  | .frz i t j F :: O' => bif Nat.beq i id then frzK s t j F fun s' => k O' s' else k (.frz i t j F :: O') s
  | .gen i X S Th Ob :: O' => bif Nat.beq i id then (∃ x0, Le s (S x0) ∧ LeT s (Th x0)) ∧ ∀ x : X, k (Ob x) ((S x).st.thr fun j => look j (Th x)) else k (.gen i X S Th Ob :: O') s
  | .mrg i kk j T :: O' => bif Nat.beq i id then mrgK s kk j T fun s' => k O' s' else k (.mrg i kk j T :: O') s
  | .opn i j Y T Ob :: O' => bif Nat.beq i id then opnK s j Y T fun y s' => k (Ob y) s' else k (.opn i j Y T Ob :: O') s
  | .pubt i kk j Ob :: O' => bif Nat.beq i id then pubT s kk j fun m s' => k (Ob m) s' else k (.pubt i kk j Ob :: O') s
  | O => k O s

/-- What must be shown for a region. -/
def regRun (P : Program) (B : Facts) (id : Nat) (ops : Array Oper) (draw : Bool) (O : List Orc) (s : St) (K : List Orc → Exit → St → Prop) : Prop :=
  match needs ops, O with
    | true, .alt l :: _ => altRun (fun x O' => stepsD P B ops draw ⟨false, x, !draw⟩ s fun s' => K O' .normal (s'.next ops.toList.length)) l
    | true, .reg l :: O' => stepsD P B ops draw ⟨false, l, !draw⟩ s fun s' => K O' .normal (s'.next ops.toList.length)
    | true, .all l :: O' => stepsD P B ops draw ⟨true, l, !draw⟩ s fun s' => K O' .normal (s'.next ops.toList.length)
    | false, .opt i l :: O' =>
      match Nat.beq i id with
      | true => stepsD P B ops draw ⟨false, l, !draw⟩ s fun s' => K O' .normal (s'.next ops.toList.length)
      | false => stepsD P B ops draw ⟨false, [], !draw⟩ s fun s' => K (.opt i l :: O') .normal (s'.next ops.toList.length)
    | false, O => stepsD P B ops draw ⟨false, [], !draw⟩ s fun s' => K O .normal (s'.next ops.toList.length)
    | true, _ => False

/-- What must be shown for a piece of code. -/
def run (P : Program) (B : Facts) : Code → List Orc → St → (List Orc → Exit → St → Prop) → Prop
  | .skip, O, s, K => K O .normal s
  | .region id ops draw, O, s, K => preRun id O s fun O s => preRun id O s fun O s => preRun id O s fun O s => regRun P B id ops draw O s K
  | .seq a b, O, s, K => run P B a O s fun O' e s' =>
    match e with
    | .normal => run P B b O' s' K
    | e => K O' e s'
  | .cond c a b, O, s, K =>
    match s.ev c with
    | some (.v (.bool t) _) =>
      match O with
      | .yes :: O' => t = true ∧ run P B a O' s K
      | .no :: O' => t = false ∧ run P B b O' s K
      | .both O1 O2 :: _ => (t = true → run P B a O1 s K) ∧ (t = false → run P B b O2 s K)
      | _ => False
    | _ => False
  | .block id c, O, s, K => run P B c O s fun O' e s' =>
    match e with
    | .exit j => bif Nat.beq j id then K O' .normal s' else K O' (.exit j) s'
    | e => K O' e s'
  | .loop c, O, s, K =>
    match O with
    | .inv X S μ Ob :: _ => (∃ x0, Le s (S x0)) ∧ ∀ x : X, run P B c (Ob x) (S x).st fun O' e s' =>
      match e with
      | .normal => ∃ x', μ x' < μ x ∧ Le s' (S x')
      | e => K O' e s'
    | .invT X S Th μ Ob :: _ => (∃ x0, Le s (S x0) ∧ LeT s (Th x0)) ∧ ∀ x : X, run P B c (Ob x) ((S x).st.thr fun k => look k (Th x)) fun O' e s' =>
      match e with
      | .normal => ∃ x', μ x' < μ x ∧ Le s' (S x') ∧ LeT s' (Th x')
      | e => K O' e s'
    | O => iter (run P B c) K 300 O s
  | .exit id, O, s, K => K O (.exit id) s
  | .ret, O, s, K => preRun 1000000 O s fun O s => K O .ret s
  | .label _, O, s, K => K O .normal s
  | _, _, _, _ => False

/-- What is given back, where a buffer or a slice of the call's own may be among it: whatever its place. -/
def resK (P : Program) (s : St) : List ResultVar → (List Value → Facts → Prop) → Prop
  | [], K => K [] []
  | .tmp t :: r, K =>
    match s.tm t with
    | some (.v x L) => resK P s r fun xs M => K (x :: xs) (L ++ M)
    | some (.s k off n c) =>
      match s.hp k with
      | some b => ∀ m, resK P s r fun xs M => K (.slice (some ⟨m, off, none⟩) n c :: xs) ((m, .cells b.c.toArray b.t) :: (b.L ++ M))
      | none => False
    | some (.a k ver sz) =>
      match s.hp k with
      | some b =>
        match !b.norm && Nat.beq b.ver ver && !Nat.beq sz 0 with
        | true => ∀ x : FrX b.c, resK P s r fun xs M => K (.slice (frO x) (lenB b.c sz) (frC sz x) :: xs) (frL b.ty x ++ (b.L ++ M))
        | false => False
      | none => False
    | _ => False
  | .cell a t :: r, K =>
    match s.tm a with
    | some (.p k off) =>
      match s.hp k with
      | some b =>
        match b.norm, ldOwn P t b off with
        | true, some x => resK P s r fun xs M => K (x :: xs) (b.L ++ M)
        | _, _ => False
      | none => False
    | _ => False

def one : List Value → Value
  | [x] => x
  | l => .tuple l.toArray

def argTm : List (Value × Facts) → Nat → Option SV
  | [], _ => none
  | (x, L) :: r, i => bif Nat.beq i 0 then some (.v x L) else argTm r (i - 1)

def argFacts : List (Value × Facts) → Facts
  | [] => []
  | (_, L) :: r => L ++ argFacts r

def init (n : Nat) (args : List (Value × Facts)) : St := { n := n, tm := argTm args, hp := fun _ => none, nx := 0, th := fun _ => none }

/-- What must be shown for a call of a function with a body: X, ret, M: as in 'Gives'. -/
def Vc (P : Program) (fn : Func) (B : Facts) (args : List (Value × Facts)) (X : Type) (ret : X → Value) (M : X → Facts) (O : List Orc) : Prop :=
  match fn.body with
  | none => False
  | some c => run P B c O (init fn.ntmps args) fun _ e s =>
    match e with
    | .normal | .ret => resK P s fn.results.toList fun vs L => ∃ x, one vs = ret x ∧ ∀ q ∈ M x, q ∈ L
    | _ => False

/-- The same for a call that has a thing (its number is 0), and turns it. -/
def VcT (P : Program) (fn : Func) (B : Facts) (args : List (Value × Facts)) (T : TP) (X : Type) (ret : X → Value) (M : X → Facts) (T' : X → TP) (O : List Orc) : Prop :=
  match fn.body with
  | none => False
  | some c => run P B c O ((init fn.ntmps args).thr fun k => look k [(0, T)]) fun _ e s =>
    match e with
    | .normal | .ret => resK P s fn.results.toList fun vs L => ∃ x, one vs = ret x ∧ (∀ q ∈ M x, q ∈ L) ∧ LeT s [(0, T' x)]
    | _ => False

/-- The result is a buffer of the call's own, with one of the listed contents. -/
def resA (s : St) (e sz : Nat) (K : List Value → Prop) : List ResultVar → Prop
  | [.tmp t] =>
    match s.tm t with
    | some (.a k ver sz') =>
      match s.hp k with
      | some b =>
        match (!b.norm && Nat.beq b.ver ver) && (Nat.beq sz' sz && Nat.beq b.ty e) with
        | true => K b.c
        | false => False
      | none => False
    | some (.v (.slice _ 0 0) _) => K []
    | _ => False
  | _ => False

/-- The same for a call that gives a slice that nobody else holds. -/
def VcA (P : Program) (fn : Func) (B : Facts) (args : List (Value × Facts)) (X : Type) (e sz : Nat) (c : X → List Value) (O : List Orc) : Prop :=
  match fn.body with
  | none => False
  | some cd => run P B cd O (init fn.ntmps args) fun _ ex s =>
    match ex with
    | .normal | .ret => resA s e sz (fun l => ∃ x, l = c x) fn.results.toList
    | _ => False

/-! Soundness. -/

/-- Where the call's own blocks lie, and which blocks its things have. -/
structure Pl where
  f : Nat → Nat
  th : Nat → Facts
instance : CoeFun Pl fun _ => Nat → Nat := ⟨Pl.f⟩

structure FOk (σ : Pl) (hp : Nat → Option Blk) (w0 : Start) (A : Facts) (w : World) (L : Facts) : Prop where
  holds : Holds w L
  apart : ∀ q ∈ L, ∀ k b, hp k = some b → σ k ≠ q.1 + 1
  came : ∀ q ∈ L, w0.heap.size ≤ q.1 ∨ ∃ q' ∈ A, q'.1 = q.1
  free : ∀ q ∈ L, ∀ k, ∀ q' ∈ σ.th k, q'.1 ≠ q.1

structure ThOk (σ : Pl) (w0 : Start) (hp : Nat → Option Blk) (th : Nat → Option TP) (w : World) : Prop where
  is : ∀ k T, th k = some T → T (σ.th k)
  holds : ∀ k, Holds w (σ.th k)
  apart : ∀ k, ∀ q ∈ σ.th k, ∀ j b, hp j = some b → σ j ≠ q.1 + 1
  came : ∀ k, ∀ q ∈ σ.th k, w0.heap.size ≤ q.1 ∨ (k = 0 ∧ ∃ q' ∈ w0.own, q'.1 = q.1)
  two : ∀ k j, k ≠ j → ∀ q ∈ σ.th k, ∀ q' ∈ σ.th j, q'.1 ≠ q.1

/-- The value y is what buffer b is, at place m (0: it has none yet; else the block m - 1). -/
def BufOk (m : Nat) (w : World) (e : TypeId) (c : List Value) (sz : Nat) (y : Value) : Prop :=
  (c = [] ∧ ∃ o, y = .slice o 0 0) ∨ (m ≠ 0 ∧ ∃ sp n cap, w.heap[m - 1]? = some (.cells (c ++ sp).toArray e) ∧ y = .slice (some ⟨m - 1, 0, none⟩) n cap ∧ c.length = n * sz ∧ c.length + sp.length = cap * sz)

def SvOk (σ : Pl) (hp : Nat → Option Blk) (w0 : Start) (A : Facts) (w : World) : SV → Value → Prop
  | .v x L, y => y = x ∧ FOk σ hp w0 A w L
  | .p k off, y => y = .pointer (some ⟨σ k - 1, off, none⟩) ∧ ∃ b, hp k = some b ∧ b.norm = true
  | .s k off n c, y => y = .slice (some ⟨σ k - 1, off, none⟩) n c ∧ ∃ b, hp k = some b ∧ b.norm = true
  | .a k ver sz, y => ∃ b, hp k = some b ∧ b.norm = false ∧ ver ≤ b.ver ∧ (b.ver = ver → BufOk (σ k) w b.ty b.c sz y)

structure Rel (σ : Pl) (w0 : Start) (A : Facts) (s : St) (a : Act) (w : World) : Prop where
  size : a.tmps.size = s.n
  defers : a.defers = []
  tm : ∀ i sv, s.tm i = some sv → SvOk σ s.hp w0 A w sv (a.tmps.getD i undef)
  place : ∀ k b, s.hp k = some b → σ k ≠ 0 → w0.heap.size < σ k ∧ σ k ≤ w.heap.size
  hp : ∀ k b, s.hp k = some b → (b.norm = true → σ k ≠ 0 ∧ w.heap[σ k - 1]? = some (.cells b.c.toArray b.t)) ∧ FOk σ s.hp w0 A w b.L
  inj : ∀ k k' b b', s.hp k = some b → s.hp k' = some b' → σ k = σ k' → σ k ≠ 0 → k = k'
  below : Still w0 w
  base : FOk σ s.hp w0 A w A
  things : ThOk σ w0 s.hp s.th w

section
variable {P : Program} {σ : Pl} {hp : Nat → Option Blk} {w0 : Start} {w w' : World} {A B L M : Facts} {s : St} {a : Act}

theorem lt_of_some {w : World} {b : Nat} {o : Obj} (h : w.heap[b]? = some o) : b < w.heap.size := (Array.getElem?_eq_some_iff.1 h).1

theorem FOk.nil : FOk σ hp w0 A w [] := ⟨fun _ h => (by cases h), fun _ h => (by cases h), fun _ h => (by cases h), fun _ h => (by cases h)⟩
theorem FOk.app (h : FOk σ hp w0 A w L) (k : FOk σ hp w0 A w M) : FOk σ hp w0 A w (L ++ M) :=
  ⟨fun q hq => (List.mem_append.1 hq).elim (h.holds q) (k.holds q), fun q hq => (List.mem_append.1 hq).elim (h.apart q) (k.apart q), fun q hq => (List.mem_append.1 hq).elim (h.came q) (k.came q), fun q hq => (List.mem_append.1 hq).elim (h.free q) (k.free q)⟩
theorem FOk.sub (h : FOk σ hp w0 A w L) (k : ∀ q ∈ M, q ∈ L) : FOk σ hp w0 A w M := ⟨fun q hq => h.holds q (k q hq), fun q hq => h.apart q (k q hq), fun q hq => h.came q (k q hq), fun q hq => h.free q (k q hq)⟩
theorem Holds.grow (h : Holds w L) (b : Below w.heap.size w w') : Holds w' L := fun q hq => by rw [b.block q.1 (lt_of_some (h q hq))]; exact h q hq
theorem FOk.grow (h : FOk σ hp w0 A w L) (b : Below w.heap.size w w') : FOk σ hp w0 A w' L := ⟨h.holds.grow b, h.apart, h.came, h.free⟩
theorem ThOk.grow {th : Nat → Option TP} (h : ThOk σ w0 hp th w) (b : Below w.heap.size w w') : ThOk σ w0 hp th w' := ⟨h.is, fun k => (h.holds k).grow b, h.apart, h.came, h.two⟩
theorem SvOk.grow {sv : SV} {x : Value} (h : SvOk σ hp w0 A w sv x) (b : Below w.heap.size w w') : SvOk σ hp w0 A w' sv x := by
  cases sv with
  | v y L => exact ⟨h.1, h.2.grow b⟩
  | p k off => exact h
  | s k off n c => exact h
  | a k ver sz =>
    obtain ⟨bl, h1, h2, h3, h4⟩ := h
    refine ⟨bl, h1, h2, h3, fun e => ?_⟩
    rcases h4 e with h5 | ⟨h5, sp, n, cap, h6, h7⟩
    · exact .inl h5
    · exact .inr ⟨h5, sp, n, cap, by rw [b.block _ (lt_of_some h6)]; exact h6, h7⟩
theorem Rel.grow (h : Rel σ w0 A s a w) (b : Below w.heap.size w w') : Rel σ w0 A s a w' where
  size := h.size
  defers := h.defers
  tm i sv hi := (h.tm i sv hi).grow b
  place k c hk h0 := ⟨(h.place k c hk h0).1, Nat.le_trans (h.place k c hk h0).2 b.size⟩
  hp k c hk := by
    obtain ⟨h2, h3⟩ := h.hp k c hk
    exact ⟨fun e => ⟨(h2 e).1, by rw [b.block _ (lt_of_some (h2 e).2)]; exact (h2 e).2⟩, h3.grow b⟩
  inj := h.inj
  below := h.below.trans b
  base := h.base.grow b
  things := h.things.grow b

theorem getD_put_self {a : Act} {d : Nat} {x : Value} (hd : d < a.tmps.size) : (a.put (some d) x).tmps.getD d undef = x := by
  simp [Act.put, hd]
theorem getD_put_ne {a : Act} {d i : Nat} {x : Value} (h : d ≠ i) : (a.put (some d) x).tmps.getD i undef = a.tmps.getD i undef := by
  simp [Act.put, Array.getElem?_setIfInBounds_ne h]

theorem set_self {α : Type} (f : Nat → Option α) (i : Nat) (x : α) : set f i x i = some x := by
  simp [set]
theorem set_ne {α : Type} (f : Nat → Option α) {i j : Nat} (x : α) (h : i ≠ j) : set f i x j = f j := by
  have : Nat.beq i j = false := by
    cases e : Nat.beq i j with
    | false => rfl
    | true => exact absurd (Nat.eq_of_beq_eq_true e) h
  simp [set, this]

theorem Rel.put (h : Rel σ w0 A s a w) {d : Option Tmp} {sv : SV} {x : Value} (hx : SvOk σ s.hp w0 A w sv x) (hd : ∀ t, d = some t → t < s.n) : Rel σ w0 A (s.put d sv) (a.put d x) w := by
  cases d with
  | none => exact h
  | some d =>
    have hlt : d < a.tmps.size := by rw [h.size]; exact hd d rfl
    refine ⟨by simp [Act.put, St.put, h.size], h.defers, fun i sv' hi => ?_, h.place, h.hp, h.inj, h.below, h.base, h.things⟩
    by_cases e : d = i
    · subst e
      simp only [St.put, set_self, Option.some.injEq] at hi
      subst hi
      rw [getD_put_self hlt]
      exact hx
    · simp only [St.put, set_ne _ _ e] at hi
      rw [getD_put_ne e]
      exact h.tm i sv' hi

theorem Rel.ev (h : Rel σ w0 A s a w) {x : Operand} {sv : SV} (hx : s.ev x = some sv) : SvOk σ s.hp w0 A w sv (a.eval x) := by
  cases x with
  | tmp t => exact h.tm t sv hx
  | const y => simp only [St.ev, Option.some.injEq] at hx; subst hx; exact ⟨rfl, .nil⟩
  | global g => simp only [St.ev, Option.some.injEq] at hx; subst hx; exact ⟨rfl, .nil⟩
  | func f => simp only [St.ev, Option.some.injEq] at hx; subst hx; exact ⟨rfl, .nil⟩

theorem Rel.facts (h : Rel σ w0 A s a w) : ∀ {l : List Operand} {L : Facts}, s.factsOf l = some L → (∀ x ∈ l, a.eval x = s.valOf x) ∧ FOk σ s.hp w0 A w L
  | [], L, hl => by simp only [St.factsOf, Option.some.injEq] at hl; subst hl; exact ⟨fun _ h => (by cases h), .nil⟩
  | x :: r, L, hl => by
    unfold St.factsOf at hl
    split at hl
    · rename_i y L' hx
      split at hl
      · rename_i M hM
        simp only [Option.some.injEq] at hl
        subst hl
        have h1 := h.ev hx
        obtain ⟨h2, h3⟩ := h.facts hM
        refine ⟨fun z hz => ?_, h1.2.app h3⟩
        rcases List.mem_cons.1 hz with rfl | hz
        · simp only [St.valOf, hx]; exact h1.1
        · exact h2 z hz
      · cases hl
    · cases hl
end

section
variable {P : Program} {σ : Pl} {w0 : Start} {w : World} {A B : Facts} {s : St} {a : Act} {o : Oper} {next : Act → World → Prop} {Q : Exit → Act → World → Prop} {k : SV → Prop}

theorem wp_value {x : Value} (h : (execOp a.eval o).run P w = .ok (.value x) w) (hn : next (a.put o.dst x) w) : o.wp P a w next Q := by
  unfold Oper.wp
  rw [h]
  exact hn

theorem wp_to {x : Value} {w' : World} (h : (execOp a.eval o).run P w = .ok (.value x) w') (hn : next (a.put o.dst x) w') : o.wp P a w next Q := by
  unfold Oper.wp
  rw [h]
  exact hn

/-- What is done with what an operation gave. -/
abbrev Then (σ : Pl) (w0 : Start) (A : Facts) (s : St) (a : Act) (o : Oper) (w : World) (k : SV → Prop) (next : Act → World → Prop) : Prop :=
  ∀ sv x w', k sv → SvOk σ s.hp w0 A w' sv x → Below w.heap.size w w' → next (a.put o.dst x) w'

theorem Then.now (hn : Then σ w0 A s a o w k next) {sv : SV} {x : Value} (hk : k sv) (hx : SvOk σ s.hp w0 A w sv x) : next (a.put o.dst x) w := hn sv x w hk hx (Below.refl _ _)

theorem gen_sound {B : Facts} {orc : Option Or} (h : Rel σ w0 A s a w) (hB : ∀ q ∈ B, q ∈ A) (hs : ∀ cs b, o.op ≠ .select cs b) (hp : (rdPlain P s o).wp k → o.wp P a w next Q) (hr : (rdGen P B s o orc).wp k) (hn : Then σ w0 A s a o w k next) : o.wp P a w next Q := by
  unfold rdGen at hr
  split at hr
  · split at hr
    · rename_i x _ L hL
      obtain ⟨h1, h2⟩ := h.facts hL
      refine wp_value (x := x) ?_ (hn.now hr.2 ⟨rfl, .nil⟩)
      rw [execOp_congr (ρ' := s.valOf) o hs (fun y hy => h1 y (by simpa using hy))]
      exact hr.1 w ((h.base.sub hB).app h2).holds
    · exact hr.elim
  · split at hr
    · rename_i X x0 ret M _ L hL
      obtain ⟨h1, h2⟩ := h.facts hL
      have he : execOp a.eval o = execOp s.valOf o := execOp_congr (ρ' := s.valOf) o hs (fun y hy => h1 y (by simpa using hy))
      have hg := hr.1 w (((h.base.sub hB).app h2).holds)
      have fin : ∀ v w', (∃ x, v = ret x ∧ Holds w' (M x) ∧ (∀ q ∈ M x, w.heap.size ≤ q.1 ∨ ∃ q' ∈ B ++ L, q'.1 = q.1) ∧ Below w.heap.size w w') → next (a.put o.dst v) w' := by
        rintro v w' ⟨x, rfl, h3, h4, h5⟩
        refine hn _ _ w' (hr.2 x) ⟨rfl, h3, fun q hq kk b hk => ?_, fun q hq => ?_, fun q hq => ?_⟩ h5
        · rcases h4 q hq with h6 | ⟨q', h6, h7⟩
          · intro e; have := (h.place kk b hk (by omega)).2; omega
          · rw [← h7]; exact ((h.base.sub hB).app h2).apart q' h6 kk b hk
        · rcases h4 q hq with h6 | ⟨q', h6, h7⟩
          · exact .inl (Nat.le_trans h.below.size h6)
          · rw [← h7]; exact ((h.base.sub hB).app h2).came q' h6
        · rcases h4 q hq with h6 | ⟨q', h6, h7⟩
          · exact fun k q' hq' e => by have := lt_of_some (h.things.holds k q' hq'); omega
          · rw [← h7]; exact ((h.base.sub hB).app h2).free q' h6
      unfold Oper.wp
      rw [he]
      unfold OpRun at hg
      split at hg
      · rename_i v w' hv
        rw [hv]
        exact fin v w' hg
      · rename_i g as w' hv
        rw [hv]
        refine Calls.mono hg ?_
        rintro e w'' ⟨v, rfl, hv⟩
        exact fin v w'' hv
      · exact hg.elim
    · exact hr.elim
  · exact hp hr

theorem plain_sound (h : Rel σ w0 A s a w) (hs : ∀ cs b, o.op ≠ .select cs b) (hr : (rdPlain P s o).wp k) (hn : Then σ w0 A s a o w k next) : o.wp P a w next Q := by
  unfold rdPlain at hr
  split at hr
  · rename_i L hL
    obtain ⟨h1, h2⟩ := h.facts hL
    split at hr
    · rename_i x hx
      refine wp_value (x := x) ?_ (hn.now hr ⟨rfl, h2⟩)
      rw [execOp_congr (ρ' := s.valOf) o hs (fun y hy => h1 y (by simpa using hy))]
      exact pureRun_sound hx w
    · exact hr.elim
  · exact hr.elim

theorem cell_own (h : Rel σ w0 A s a w) {kk : Nat} {b : Blk} (hb : s.hp kk = some b) (hno : b.norm = true) (i : Nat) : w.cell? ⟨σ kk - 1, i, none⟩ = b.c[i]? := by
  have := ((h.hp kk b hb).1 hno).2
  simp [World.cell?, this]

theorem add_none (g o i : Nat) : (⟨g, o, none⟩ : Addr).add i = ⟨g, o + i, none⟩ := by unfold Addr.add; split <;> simp_all

theorem run_isAgg_true {t : TypeId} {w : World} (h : (∃ fs, P.underlying t = some (.struct fs)) ∨ ∃ n e, P.underlying t = some (.array n e)) : (isAgg t).run P w = .ok true w := by
  rcases h with ⟨fs, h⟩ | ⟨n, e, h⟩ <;> simp [isAgg, run_underlying h]
theorem run_isAgg_false {t : TypeId} {w : World} {d : TypeDesc} (h : P.underlying t = some d) (h1 : ∀ fs, d ≠ .struct fs) (h2 : ∀ n e, d ≠ .array n e) : (isAgg t).run P w = .ok false w := by
  simp only [isAgg, Sem.run_bind, run_underlying h, Result.andThen_ok]
  cases d <;> first | rfl | exact absurd rfl (h1 _) | exact absurd rfl (h2 _ _)

theorem run_size {t : TypeId} {i : TypeInfo} {w : World} (h : P.info? t = some i) : (sizeOf t).run P w = .ok i.size w := by
  simp [sizeOf, typeInfo, h]

theorem drop_take_get {c : List Value} {off n j : Nat} (hj : j < n) : ((c.drop off).take n)[j]? = c[off + j]? := by
  rw [List.getElem?_take_of_lt hj, List.getElem?_drop]

theorem ldOwn_sound {t : TypeId} {b : Blk} {off g : Nat} {x : Value} {w : World} (hx : ldOwn P t b off = some x) (hc : ∀ i, w.cell? ⟨g, i, none⟩ = b.c[i]?) : (loadVar t ⟨g, off, none⟩).run P w = .ok x w := by
  have agg : ∀ i : TypeInfo, P.info? t = some i → ((∃ fs, P.underlying t = some (.struct fs)) ∨ ∃ n e, P.underlying t = some (.array n e)) →
      (bif Nat.ble (off + i.size) b.c.length then some (Value.agg ((b.c.drop off).take i.size).toArray) else none) = some x → (loadVar t ⟨g, off, none⟩).run P w = .ok x w := by
    intro i hi hu hx
    cases hle : Nat.ble (off + i.size) b.c.length with
    | false => rw [hle] at hx; cases hx
    | true =>
      rw [hle] at hx
      simp only [cond_true, Option.some.injEq] at hx
      subst hx
      have hle' := Nat.le_of_ble_eq_true hle
      have hlen : ((b.c.drop off).take i.size).length = i.size := by simp; omega
      have := run_loadCells_list (P := P) w ⟨g, off, none⟩ ((b.c.drop off).take i.size) (fun j v hj => by
        have hjlt : j < i.size := by have := (List.getElem?_eq_some_iff.1 hj).1; omega
        rw [drop_take_get hjlt] at hj
        rw [add_none, hc]
        exact hj)
      rw [hlen] at this
      simp only [loadVar, Sem.run_bind, run_isAgg_true hu, Result.andThen_ok, if_true, run_size hi, this]
      rfl
  unfold ldOwn at hx
  split at hx
  · rename_i fs i hu hi; exact agg i hi (.inl ⟨fs, hu⟩) hx
  · rename_i n e i hu hi; exact agg i hi (.inr ⟨n, e, hu⟩) hx
  · rename_i d hd1 h1 h2
    have hf : (isAgg t).run P w = .ok false w := by
      cases hi : P.info? t with
      | some i => exact run_isAgg_false hd1 (fun fs e => h1 fs i hi e) (fun n m e => h2 n m i hi e)
      | none => simp [Program.underlying, hi] at hd1
    have hcell : w.cell? ⟨g, off, none⟩ = some x := by
      rw [hc, ← hx, List.head?_drop]
    simp only [loadVar, Sem.run_bind, hf, Result.andThen_ok, Bool.false_eq_true, if_false, run_load, hcell]
  · cases hx
end

section
variable {P : Program} {σ : Pl} {w0 : Start} {w : World} {A B : Facts} {s : St} {a : Act} {o : Oper} {next : Act → World → Prop} {Q : Exit → Act → World → Prop} {k : SV → Prop}

theorem part_sound {t : TypeId} {cs : Array Value} {tt : TypeId} {M : Facts} {off : Nat} {x : Value} (hx : ldOwn P t ⟨tt, cs.toList, M⟩ off = some x) : (part t cs off).run P w = .ok x w := by
  have agg : ∀ i : TypeInfo, P.info? t = some i → ((∃ fs, P.underlying t = some (.struct fs)) ∨ ∃ n e, P.underlying t = some (.array n e)) →
      (bif Nat.ble (off + i.size) cs.toList.length then some (Value.agg ((cs.toList.drop off).take i.size).toArray) else none) = some x → (part t cs off).run P w = .ok x w := by
    intro i hi hu hx
    cases hle : Nat.ble (off + i.size) cs.toList.length with
    | false => rw [hle] at hx; cases hx
    | true =>
      rw [hle] at hx
      simp only [cond_true, Option.some.injEq] at hx
      subst hx
      simp only [part, Sem.run_bind, run_isAgg_true hu, Result.andThen_ok, if_true, run_size hi, Sem.run_pure]
      congr 2
      apply Array.ext'
      simp
  unfold ldOwn at hx
  split at hx
  · rename_i fs i hu hi; exact agg i hi (.inl ⟨fs, hu⟩) hx
  · rename_i n e i hu hi; exact agg i hi (.inr ⟨n, e, hu⟩) hx
  · rename_i d hd1 h1 h2
    have hf : (isAgg t).run P w = .ok false w := by
      cases hi : P.info? t with
      | some i => exact run_isAgg_false hd1 (fun fs e => h1 fs i hi e) (fun n m e => h2 n m i hi e)
      | none => simp [Program.underlying, hi] at hd1
    have hcell : cs[off]? = some x := by
      rw [← hx, List.head?_drop, Array.getElem?_toList]
    simp only [part, Sem.run_bind, hf, Result.andThen_ok, Bool.false_eq_true, if_false, hcell, Sem.run_pure]
  · cases hx

theorem foldl_set (off : Nat) : ∀ (vs : List Value) (j : Nat) (cells : Array Value), off + j + vs.length ≤ cells.size →
    ((vs.zipIdx j).foldl (fun (cs : Array Value) (q : Value × Nat) => cs.setIfInBounds (off + q.2) q.1) cells).toList = setRange cells.toList (off + j) vs
  | [], j, cells, _ => by simp [setRange]
  | x :: r, j, cells, h => by
    simp only [List.length_cons] at h
    rw [List.zipIdx_cons, List.foldl_cons, foldl_set off r (j + 1) _ (by simp; omega)]
    simp only [setRange, Array.toList_setIfInBounds]
    have e := list_seg_step cells.toList (off + j) x r (by simp; omega)
    simpa [Nat.add_assoc] using e

theorem fill_sound (place : Nat → Option (Nat × Nat)) : ∀ (ps : List (Nat × Value)) (c cs : List Value), fillL place c ps = some cs → Instr.fill place c.toArray ps = some cs.toArray
  | [], c, cs, h => by simp only [fillL, Option.some.injEq] at h; subst h; rfl
  | (i, x) :: r, c, cs, h => by
    unfold fillL at h
    unfold Instr.fill
    cases hp : place i with
    | none => rw [hp] at h; cases h
    | some q =>
      obtain ⟨off, size⟩ := q
      rw [hp] at h
      simp only at h ⊢
      cases hb : (Nat.beq x.cells.toList.length size && Nat.ble (off + size) c.length) with
      | false => rw [hb] at h; cases h
      | true =>
        rw [hb] at h
        simp only [cond_true] at h
        simp only [Bool.and_eq_true] at hb
        have e1 := Nat.eq_of_beq_eq_true hb.1
        have e2 := Nat.le_of_ble_eq_true hb.2
        rw [Array.length_toList] at e1
        have hno : ¬ ((decide (x.cells.size ≠ size) || decide (off + x.cells.size > c.toArray.size)) = true) := by
          simp; omega
        rw [if_neg hno]
        have := foldl_set off x.cells.toList 0 c.toArray (by simp; omega)
        have e : (x.cells.zipIdx.foldl (fun cs (c, j) => cs.setIfInBounds (off + j) c) c.toArray) = (setRange c off x.cells.toList).toArray := by
          apply Array.ext'
          rw [← Array.foldl_toList, Array.toList_zipIdx]
          simpa using this
        rw [e]
        exact fill_sound place r _ cs h

theorem parts_sound (h : Rel σ w0 A s a w) : ∀ {ps : List (Nat × Operand)} {xs : List (Nat × Value)} {L : Facts}, s.partsOf ps = some (xs, L) → ps.map (fun q => (q.1, a.eval q.2)) = xs ∧ FOk σ s.hp w0 A w L
  | [], xs, L, hp => by simp only [St.partsOf, Option.some.injEq, Prod.mk.injEq] at hp; obtain ⟨rfl, rfl⟩ := hp; exact ⟨rfl, .nil⟩
  | (i, x) :: r, xs, L, hp => by
    unfold St.partsOf at hp
    split at hp
    · rename_i y M ys N hx hr
      simp only [Option.some.injEq, Prod.mk.injEq] at hp
      obtain ⟨rfl, rfl⟩ := hp
      obtain ⟨h1, h2⟩ := parts_sound h hr
      have h3 := h.ev hx
      exact ⟨by simp only [List.map_cons, h1, h3.1], h3.2.app h2⟩
    · cases hp
end

section
variable {P : Program} {σ : Pl} {w0 : Start} {w : World} {A B : Facts} {s : St} {a : Act} {next : Act → World → Prop} {Q : Exit → Act → World → Prop} {k : SV → Prop} {dst : Option Tmp} {type : TypeId} {pos : String} {after : Array Edge} {guard : Option (Nat × Bool)} {orc : Option Or}

theorem move_sound {x : Operand} (h : Rel σ w0 A s a w) (hr : (match s.ev x with | some sv => Rd.ret sv | none => Rd.bad).wp k) {o : Oper} (hn : Then σ w0 A s a o w k next)
    (ho : (execOp a.eval o).run P w = .ok (.value (a.eval x)) w) : o.wp P a w next Q := by
  split at hr
  · rename_i sv hx; exact wp_value ho (hn.now hr (h.ev hx))
  · exact hr.elim

theorem pick_sound {c x y : Operand} (h : Rel σ w0 A s a w) (hr : (rd0 P B s ⟨dst, .pick c x y, type, pos, after, guard⟩ orc).wp k) (hn : Then σ w0 A s a ⟨dst, .pick c x y, type, pos, after, guard⟩ w k next) :
    (⟨dst, .pick c x y, type, pos, after, guard⟩ : Oper).wp P a w next Q := by
  simp only [rd0] at hr
  split at hr
  · rename_i t L hc
    have h1 := (h.ev hc).1
    have h2 : (execOp a.eval ⟨dst, .pick c x y, type, pos, after, guard⟩).run P w = .ok (.value (if t then a.eval x else a.eval y)) w := by
      simp [execOp, h1, asBool]
    split at hr
    · split at hr
      · rename_i sv hy
        refine wp_value h2 ?_
        rw [hr.1]
        exact hn.now hr.2 (h.ev hy)
      · exact hr.elim
    · split at hr
      · rename_i sv hy
        refine wp_value h2 ?_
        rw [hr.1]
        exact hn.now hr.2 (h.ev hy)
      · exact hr.elim
    · split at hr
      · rename_i sv hy
        refine wp_value h2 ?_
        cases t with
        | true => exact hn.now hr (h.ev hy)
        | false => exact hn.now hr (h.ev hy)
      · exact hr.elim
    · split at hr
      · rename_i sv hy
        refine wp_value h2 ?_
        rw [hr.1]
        exact hn.now hr.2 (h.ev hy)
      · exact hr.elim
  · exact hr.elim

theorem load_sound {t : TypeId} {x : Operand} (h : Rel σ w0 A s a w) (hB : ∀ q ∈ B, q ∈ A) (hr : (rd0 P B s ⟨dst, .load t x, type, pos, after, guard⟩ orc).wp k) (hn : Then σ w0 A s a ⟨dst, .load t x, type, pos, after, guard⟩ w k next) :
    (⟨dst, .load t x, type, pos, after, guard⟩ : Oper).wp P a w next Q := by
  simp only [rd0] at hr
  split at hr
  · rename_i kk off hx
    have h1 := (h.ev hx).1
    split at hr
    · rename_i b hb
      split at hr
      · rename_i y hno hy
        refine wp_value ?_ (hn.now hr ⟨rfl, (h.hp kk b hb).2⟩)
        simp [execOp, Instr.loadAt, h1, Instr.sureAddr, ldOwn_sound hy (cell_own h hb hno)]
      · exact hr.elim
    · exact hr.elim
  · rename_i ad L hx
    have h1 := h.ev hx
    split at hr
    · rename_i y
      have h2 := hr.1 w (((h.base.sub hB).app h1.2).holds)
      refine wp_value ?_ (hn.now hr.2 ⟨rfl, .nil⟩)
      simp [execOp, Instr.loadAt, h1.1, Instr.sureAddr, h2]
    · exact hr.elim
  · exact hr.elim

theorem fieldAddr_sound {t : TypeId} {x : Operand} {f : Nat} (h : Rel σ w0 A s a w) (hB : ∀ q ∈ B, q ∈ A) (hr : (rd0 P B s ⟨dst, .fieldAddr t x f, type, pos, after, guard⟩ orc).wp k) (hn : Then σ w0 A s a ⟨dst, .fieldAddr t x f, type, pos, after, guard⟩ w k next) :
    (⟨dst, .fieldAddr t x f, type, pos, after, guard⟩ : Oper).wp P a w next Q := by
  simp only [rd0] at hr
  split at hr
  · rename_i kk off hx
    obtain ⟨h1, h2⟩ := h.ev hx
    split at hr
    · rename_i fs hu
      split at hr
      · rename_i fd hf
        split at hr
        · rename_i i hi
          cases hz : Nat.beq i.size 0 with
          | true => rw [hz] at hr; exact hr.elim
          | false =>
            rw [hz] at hr
            have hne : i.size ≠ 0 := fun e => by rw [e] at hz; cases hz
            refine wp_value ?_ (hn.now hr ⟨rfl, h2⟩)
            simp [execOp, Instr.fieldAt, run_underlying hu, hf, h1, Instr.sureAddr, fieldPlace, run_size hi, hne, add_none]
        · exact hr.elim
      · exact hr.elim
    · exact hr.elim
  · exact gen_sound h hB (fun _ _ => nofun) (fun hp => plain_sound h (fun _ _ => nofun) hp hn) hr hn
  · exact hr.elim

theorem indexAddr_sound {t : TypeId} {x ix : Operand} (h : Rel σ w0 A s a w) (hB : ∀ q ∈ B, q ∈ A) (hr : (rd0 P B s ⟨dst, .indexAddr t x ix, type, pos, after, guard⟩ orc).wp k) (hn : Then σ w0 A s a ⟨dst, .indexAddr t x ix, type, pos, after, guard⟩ w k next) :
    (⟨dst, .indexAddr t x ix, type, pos, after, guard⟩ : Oper).wp P a w next Q := by
  simp only [rd0] at hr
  split at hr
  · rename_i kk off kd i L hx hi
    obtain ⟨h1, h2⟩ := h.ev hx
    have h3 := (h.ev hi).1
    split at hr
    · rename_i len el hu
      split at hr
      · rename_i inf hinf
        refine wp_value ?_ (hn.now hr.2 ⟨rfl, h2⟩)
        simp [execOp, Instr.indexAt, run_underlying hu, h1, h3, Instr.sureAddr, asIntOf, hr.1, run_size hinf, add_none]
      · exact hr.elim
    · exact hr.elim
  · rename_i ad len cp L kd i M hx hi
    obtain ⟨h1, h2⟩ := h.ev hx
    have h3 := (h.ev hi).1
    split at hr
    · rename_i el hu
      split at hr
      · rename_i inf hinf
        obtain ⟨hix, hk⟩ := hr
        cases ad with
        | none => exact hix.elim
        | some ad =>
          simp only [idxOk] at hix
          refine wp_value ?_ (hn.now hk ⟨rfl, h2⟩)
          simp [execOp, Instr.indexAt, run_underlying hu, h1, h3, asIntOf, hix, run_size hinf]
      · exact hr.elim
    · exact hr.elim
  · rename_i kk off n cp kd i M hx hi
    obtain ⟨h1, h2⟩ := h.ev hx
    have h3 := (h.ev hi).1
    split at hr
    · rename_i el hu
      split at hr
      · rename_i inf hinf
        refine wp_value ?_ (hn.now hr.2 ⟨rfl, h2⟩)
        simp [execOp, Instr.indexAt, run_underlying hu, h1, h3, asIntOf, hr.1, run_size hinf, add_none]
      · exact hr.elim
    · exact hr.elim
  · exact gen_sound h hB (fun _ _ => nofun) (fun hp => plain_sound h (fun _ _ => nofun) hp hn) hr hn

theorem index_sound {t : TypeId} {x ix : Operand} (h : Rel σ w0 A s a w) (hr : (rd0 P B s ⟨dst, .index t x ix, type, pos, after, guard⟩ orc).wp k) (hn : Then σ w0 A s a ⟨dst, .index t x ix, type, pos, after, guard⟩ w k next) :
    (⟨dst, .index t x ix, type, pos, after, guard⟩ : Oper).wp P a w next Q := by
  simp only [rd0] at hr
  split at hr
  · rename_i y L kd i M hx hi
    have h1 := (h.ev hx).1
    have h3 := (h.ev hi).1
    split at hr
    · rename_i hu
      obtain ⟨⟨h4, h5⟩, hk⟩ := hr
      refine wp_value ?_ (hn.now hk ⟨rfl, .nil⟩)
      have h6 : y[i.toNat]? = some y[i.toNat] := by simp [h5]
      simp [execOp, Instr.index, run_underlying hu, h1, h3, asIntOf, h4, h6, byteAt]
    · exact hr.elim
  · rename_i cs L kd i M hx hi
    obtain ⟨h1, h2⟩ := h.ev hx
    have h3 := (h.ev hi).1
    split at hr
    · rename_i len el hu
      split at hr
      · rename_i inf z hinf hz
        obtain ⟨h4, hk⟩ := hr
        refine wp_value ?_ (hn.now hk ⟨rfl, h2⟩)
        have he : elSize P el = inf.size := by simp [elSize, hinf]
        rw [he] at hz
        simp [execOp, Instr.index, run_underlying hu, h1, h3, asIntOf, h4, run_size hinf, part_sound hz]
      · exact hr.elim
    · exact hr.elim
  · exact hr.elim

theorem bound_sound (h : Rel σ w0 A s a w) {o : Option Operand} {d i : Int} (hb : s.bound o d = some i) : (o = none ∧ i = d) ∨ ∃ x k, o = some x ∧ a.eval x = .int k i := by
  unfold St.bound at hb
  split at hb
  · simp only [Option.some.injEq] at hb; exact .inl ⟨rfl, hb.symm⟩
  · rename_i x
    split at hb
    · rename_i k j L hx
      simp only [Option.some.injEq] at hb
      subst hb
      exact .inr ⟨x, k, rfl, (h.ev hx).1⟩
    · cases hb

theorem slice_sound {t : TypeId} {x : Operand} {lo hi mx : Option Operand} (h : Rel σ w0 A s a w) (hB : ∀ q ∈ B, q ∈ A) (hr : (rd0 P B s ⟨dst, .slice t x lo hi mx, type, pos, after, guard⟩ orc).wp k) (hn : Then σ w0 A s a ⟨dst, .slice t x lo hi mx, type, pos, after, guard⟩ w k next) :
    (⟨dst, .slice t x lo hi mx, type, pos, after, guard⟩ : Oper).wp P a w next Q := by
  simp only [rd0] at hr
  split at hr
  · rename_i y L hx
    have h1 := (h.ev hx).1
    split at hr
    · rename_i hu
      split at hr
      · rename_i l hh hl hhi
        obtain ⟨⟨k1, k2, k3⟩, hk⟩ := hr
        refine wp_value ?_ (hn.now hk ⟨rfl, .nil⟩)
        have e1 : hh.toNat ≤ y.size := by omega
        have k4 : l ≤ (hh.toNat : Int) := by omega
        rcases bound_sound h hl with ⟨rfl, rfl⟩ | ⟨xl, kl, rfl, el⟩ <;> rcases bound_sound h hhi with ⟨rfl, rfl⟩ | ⟨xh, kh, rfl, eh⟩
        · simp [execOp, Instr.sliceAt, Instr.slice, Instr.sliceBounds, run_underlying hu, h1]
        · have k5 : 0 ≤ hh := by omega
          simp [execOp, Instr.sliceAt, Instr.slice, Instr.sliceBounds, Instr.sliceBound, asIntOf, run_underlying hu, h1, eh, k5, k3]
        · have k5 : l ≤ (y.size : Int) := by omega
          simp [execOp, Instr.sliceAt, Instr.slice, Instr.sliceBounds, Instr.sliceBound, asIntOf, run_underlying hu, h1, el, k1, k5]
        · have k5 : 0 ≤ hh := by omega
          simp [execOp, Instr.sliceAt, Instr.slice, Instr.sliceBounds, Instr.sliceBound, asIntOf, run_underlying hu, h1, el, eh, k1, k5, k3]
          exact fun hc => absurd hc (by omega)
      · exact hr.elim
    · exact hr.elim
  · rename_i o len cap L hx
    obtain ⟨h1, h2⟩ := h.ev hx
    split at hr
    · rename_i el hu
      split at hr
      · rename_i inf hinf
        split at hr
        · rename_i l hh hl hhi
          obtain ⟨⟨k1, k2, k3⟩, hk⟩ := hr
          refine wp_value ?_ (hn.now hk ⟨rfl, h2⟩)
          have e1 : hh.toNat ≤ cap := by omega
          have k4 : l ≤ (hh.toNat : Int) := by omega
          have k6 : 0 ≤ hh := by omega
          rcases bound_sound h hl with ⟨rfl, rfl⟩ | ⟨xl, kl, rfl, el⟩ <;> rcases bound_sound h hhi with ⟨rfl, rfl⟩ | ⟨xh, kh, rfl, eh⟩
          · simp [execOp, Instr.sliceAt, Instr.slice, Instr.sliceBounds, run_underlying hu, run_size hinf, h1, subO]
          · simp [execOp, Instr.sliceAt, Instr.slice, Instr.sliceBounds, Instr.sliceBound, asIntOf, run_underlying hu, run_size hinf, h1, eh, k6, k3, subO]
          · simp [execOp, Instr.sliceAt, Instr.slice, Instr.sliceBounds, Instr.sliceBound, asIntOf, run_underlying hu, run_size hinf, h1, el, k1, k2, subO]
          · simp [execOp, Instr.sliceAt, Instr.slice, Instr.sliceBounds, Instr.sliceBound, asIntOf, run_underlying hu, run_size hinf, h1, el, eh, k1, k6, k3, subO]
            exact fun hc => absurd hc (by omega)
        · exact hr.elim
      · exact hr.elim
    · exact hr.elim
  · exact gen_sound h hB (fun _ _ => nofun) (fun hp => plain_sound h (fun _ _ => nofun) hp hn) hr hn

theorem places_sound {w : World} : ∀ {fs : Array Field} {pl : List (Nat × Nat)}, placesOf P fs.toList = some pl → (fs.mapM (m := Sem) fun (f : Field) => do pure (f.offset, ← sizeOf f.type)).run P w = .ok pl.toArray w := by
  have key : ∀ (l : List Field) (pl : List (Nat × Nat)), placesOf P l = some pl → (l.mapM (m := Sem) fun (f : Field) => do pure (f.offset, ← sizeOf f.type)).run P w = .ok pl w := by
    intro l
    induction l with
    | nil => intro pl h; simp only [placesOf, Option.some.injEq] at h; subst h; rfl
    | cons f r ih =>
      intro pl h
      unfold placesOf at h
      split at h
      · rename_i i l hi hl
        simp only [Option.some.injEq] at h
        subst h
        simp only [List.mapM_cons, Sem.run_bind, run_size hi, Result.andThen_ok, Sem.run_pure, ih l hl]
      · cases h
  intro fs pl h
  rw [Array.mapM_eq_mapM_toList, Sem.run_map, key _ _ h]
  rfl

theorem build_sound {t : TypeId} {ps : Array (Nat × Operand)} (h : Rel σ w0 A s a w) (hB : ∀ q ∈ B, q ∈ A) (hr : (rd0 P B s ⟨dst, .build t ps, type, pos, after, guard⟩ orc).wp k) (hn : Then σ w0 A s a ⟨dst, .build t ps, type, pos, after, guard⟩ w k next) :
    (⟨dst, .build t ps, type, pos, after, guard⟩ : Oper).wp P a w next Q := by
  simp only [rd0] at hr
  split at hr
  · exact gen_sound h hB (fun _ _ => nofun) (fun hp => plain_sound h (fun _ _ => nofun) hp hn) hr hn
  split at hr
  · rename_i i hi
    split at hr
    · rename_i z xs L hz hp
      obtain ⟨h1, h2⟩ := parts_sound h hp
      have h1' : (ps.map fun (q : Nat × Operand) => (q.1, a.eval q.2)).toList = xs := by rw [Array.toList_map]; exact h1
      have hzero : (zeroValue t).run P w = .ok z w := by simp [zeroValue, typeInfo, hi, hz]
      split at hr
      · rename_i fs hu
        split at hr
        · rename_i pl hpl
          split at hr
          · rename_i cs hcs
            have hfill := fill_sound _ xs z.cells.toList cs hcs
            rw [← h1'] at hfill
            refine wp_value ?_ (hn.now hr ⟨rfl, h2⟩)
            simp only [execOp, Instr.build, Sem.run_bind, hzero, Result.andThen_ok, run_underlying hu, places_sound hpl]
            rw [show (fun (x : Nat × Operand) => match x with | (i, x) => (i, a.eval x)) = fun q => (q.1, a.eval q.2) from rfl]
            simp only [Array.toArray_toList] at hfill
            rw [show (fun x : Nat => pl.toArray[x]?) = fun j => pl[j]? from funext fun j => by simp, hfill]
            simp
          · exact hr.elim
        · exact hr.elim
      · rename_i n e hu
        split at hr
        · rename_i ie hie
          split at hr
          · rename_i cs hcs
            have hfill := fill_sound _ xs z.cells.toList cs hcs
            rw [← h1'] at hfill
            refine wp_value ?_ (hn.now hr ⟨rfl, h2⟩)
            simp only [execOp, Instr.build, Sem.run_bind, hzero, Result.andThen_ok, run_underlying hu, run_size hie]
            rw [show (fun (x : Nat × Operand) => match x with | (i, x) => (i, a.eval x)) = fun q => (q.1, a.eval q.2) from rfl]
            simp only [Array.toArray_toList] at hfill
            rw [hfill]
            simp
          · exact hr.elim
        · exact hr.elim
      · exact hr.elim
    · exact hr.elim
  · exact hr.elim

theorem field_sound {t : TypeId} {x : Operand} {f : Nat} (h : Rel σ w0 A s a w) (hr : (rd0 P B s ⟨dst, .field t x f, type, pos, after, guard⟩ orc).wp k) (hn : Then σ w0 A s a ⟨dst, .field t x f, type, pos, after, guard⟩ w k next) :
    (⟨dst, .field t x f, type, pos, after, guard⟩ : Oper).wp P a w next Q := by
  simp only [rd0] at hr
  split at hr
  · rename_i cs L hx
    obtain ⟨h1, h2⟩ := h.ev hx
    split at hr
    · rename_i fs hu
      split at hr
      · rename_i fd hf
        split at hr
        · rename_i y hy
          refine wp_value ?_ (hn.now hr ⟨rfl, h2⟩)
          simp [execOp, Instr.field, run_underlying hu, hf, h1, asAgg, part_sound hy]
        · exact hr.elim
      · exact hr.elim
    · exact hr.elim
  · exact hr.elim
end

section
variable {P : Program} {σ : Pl} {w0 : Start} {w : World} {A B : Facts} {s : St} {a : Act} {next : Act → World → Prop} {Q : Exit → Act → World → Prop} {k : SV → Prop} {dst : Option Tmp} {type : TypeId} {pos : String} {after : Array Edge} {guard : Option (Nat × Bool)} {orc : Option Or}

theorem lenB_of {c : List Value} {n sz : Nat} (hz : sz ≠ 0) (h : c.length = n * sz) : lenB c sz = n := by
  unfold lenB
  cases e : Nat.beq sz 1 with
  | true => have := Nat.eq_of_beq_eq_true e; subst this; simp [h]
  | false => simp only [cond_false, h]; exact Nat.mul_div_cancel _ (by omega)

theorem BufOk.slice {m : Nat} {w : World} {e : TypeId} {c : List Value} {sz : Nat} {y : Value} (h : BufOk m w e c sz y) (hz : sz ≠ 0) : ∃ o n cp, y = .slice o n cp ∧ lenB c sz = n := by
  rcases h with ⟨rfl, o, rfl⟩ | ⟨_, sp, n, cap, _, rfl, h1, _⟩
  · exact ⟨o, 0, 0, rfl, lenB_of hz (by simp)⟩
  · exact ⟨_, n, cap, rfl, lenB_of hz h1⟩

theorem binOp_sound {op : BinOp} {t yt : TypeId} {x y : Operand} (h : Rel σ w0 A s a w) (hB : ∀ q ∈ B, q ∈ A) (hr : (rd0 P B s ⟨dst, .binOp op t x y yt, type, pos, after, guard⟩ orc).wp k) (hn : Then σ w0 A s a ⟨dst, .binOp op t x y yt, type, pos, after, guard⟩ w k next) :
    (⟨dst, .binOp op t x y yt, type, pos, after, guard⟩ : Oper).wp P a w next Q := by
  simp only [rd0] at hr
  split at hr
  · rename_i cs L ds M hx hy
    have h1 := (h.ev hx).1
    have h2 := (h.ev hy).1
    refine wp_value ?_ (hn.now hr.2 ⟨rfl, .nil⟩)
    simp [execOp, eqGuard, h1, h2, hr.1.2, binOp, hr.1.1 w]
  · rename_i cs L ds M hx hy
    have h1 := (h.ev hx).1
    have h2 := (h.ev hy).1
    refine wp_value ?_ (hn.now hr.2 ⟨rfl, .nil⟩)
    simp [execOp, eqGuard, h1, h2, hr.1.2, binOp, hr.1.1 w]
  · rename_i kd n L kd' m M hx hy
    have h1 := (h.ev hx).1
    have h2 := (h.ev hy).1
    obtain ⟨⟨h3, rfl⟩, hk⟩ := hr
    refine wp_value ?_ (hn.now hk ⟨rfl, .nil⟩)
    simp [execOp, eqGuard, h1, h2, binOp, Op.intDiv, h3]
  · rename_i kd n L kd' m M hx hy
    have h1 := (h.ev hx).1
    have h2 := (h.ev hy).1
    obtain ⟨⟨h3, rfl⟩, hk⟩ := hr
    refine wp_value ?_ (hn.now hk ⟨rfl, .nil⟩)
    simp [execOp, eqGuard, h1, h2, binOp, Op.intDiv, h3]
  · rename_i kd n L kd' m M hx hy
    have h1 := (h.ev hx).1
    have h2 := (h.ev hy).1
    obtain ⟨h3, hk⟩ := hr
    refine wp_value ?_ (hn.now hk ⟨rfl, .nil⟩)
    have h4 : ¬ m < 0 := by omega
    simp [execOp, eqGuard, h1, h2, binOp, Op.shift, h4]
  · rename_i x1 L x2 M hx hy
    have h1 := (h.ev hx).1
    have h2 := (h.ev hy).1
    obtain ⟨h3, hk⟩ := hr
    refine wp_value ?_ (hn.now hk ⟨rfl, .nil⟩)
    have h4 : ¬ ((x1.size + x2.size : Nat) : Int) > IntKind.i64.max := by omega
    simp only [execOp, eqGuard, h1, h2, binOp, Op.stringOp, if_neg h4]
    rfl
  · rename_i kd n L kd' m M hx hy
    have h1 := (h.ev hx).1
    have h2 := (h.ev hy).1
    obtain ⟨h3, hk⟩ := hr
    refine wp_value ?_ (hn.now hk ⟨rfl, .nil⟩)
    have h4 : ¬ m < 0 := by omega
    simp [execOp, eqGuard, h1, h2, binOp, Op.shift, h4]
  · exact gen_sound h hB (fun _ _ => nofun) (fun hp => plain_sound h (fun _ _ => nofun) hp hn) hr hn

theorem call_sound {c : Call} (h : Rel σ w0 A s a w) (hB : ∀ q ∈ B, q ∈ A) (hr : (rd0 P B s ⟨dst, .call c, type, pos, after, guard⟩ orc).wp k) (hn : Then σ w0 A s a ⟨dst, .call c, type, pos, after, guard⟩ w k next) :
    (⟨dst, .call c, type, pos, after, guard⟩ : Oper).wp P a w next Q := by
  obtain ⟨callee, args, argTypes⟩ := c
  simp only [rd0] at hr
  split at hr
  · rename_i f
    split at hr
    · rename_i L X x0 ret M hL
      obtain ⟨h1, h2⟩ := h.facts hL
      have hm : args.map a.eval = (args.toList.map s.valOf).toArray := by
        apply Array.ext'
        rw [Array.toList_map]
        exact List.map_congr_left h1
      have he : execOp a.eval ⟨dst, .call ⟨.value (.func f), args, argTypes⟩, type, pos, after, guard⟩ = callFunc f (args.toList.map s.valOf).toArray := by
        simp [execOp, resolve, Act.eval, Deferred.ofValue, invoke, hm]
      have hg := hr.1 w (((h.base.sub hB).app h2).holds)
      have fin : ∀ v w', (∃ x, v = ret x ∧ Holds w' (M x) ∧ (∀ q ∈ M x, w.heap.size ≤ q.1 ∨ ∃ q' ∈ B ++ L, q'.1 = q.1) ∧ Below w.heap.size w w') → next (a.put dst v) w' := by
        rintro v w' ⟨x, rfl, h3, h4, h5⟩
        refine hn _ _ w' (hr.2 x) ⟨rfl, h3, fun q hq kk b hk => ?_, fun q hq => ?_, fun q hq => ?_⟩ h5
        · rcases h4 q hq with h6 | ⟨q', h6, h7⟩
          · intro e; have := (h.place kk b hk (by omega)).2; omega
          · rw [← h7]; exact ((h.base.sub hB).app h2).apart q' h6 kk b hk
        · rcases h4 q hq with h6 | ⟨q', h6, h7⟩
          · exact .inl (Nat.le_trans h.below.size h6)
          · rw [← h7]; exact ((h.base.sub hB).app h2).came q' h6
        · rcases h4 q hq with h6 | ⟨q', h6, h7⟩
          · exact fun k q' hq' e => by have := lt_of_some (h.things.holds k q' hq'); omega
          · rw [← h7]; exact ((h.base.sub hB).app h2).free q' h6
      unfold Oper.wp
      rw [he]
      unfold CallRun at hg
      split at hg
      · rename_i v w' hv
        rw [hv]
        exact fin v w' hg
      · rename_i g as w' hv
        rw [hv]
        refine Calls.mono hg ?_
        rintro e w'' ⟨v, rfl, hv⟩
        exact fin v w'' hv
      · exact hg.elim
    · exact hr.elim
  · split at hr
    · rename_i t x h1 h2
      have ha : args = #[x] := by apply Array.ext'; simpa using h2
      have ht : argTypes = #[t] := by apply Array.ext'; simpa using h1
      subst ha ht
      split at hr
      · rename_i e bs n cp L hu hx
        have h3 := (h.ev hx).1
        refine wp_value ?_ (hn.now hr ⟨rfl, .nil⟩)
        simp [execOp, resolve, invoke, builtin, Builtin.len_, run_underlying hu, h3, goInt]
      · rename_i e kk off n cp hu hx
        have h3 := (h.ev hx).1
        refine wp_value ?_ (hn.now hr ⟨rfl, .nil⟩)
        simp [execOp, resolve, invoke, builtin, Builtin.len_, run_underlying hu, h3, goInt]
      · rename_i e kk ver sz hu hx
        obtain ⟨b, hb, hno, hle, hbuf⟩ := h.ev hx
        rw [hb] at hr
        cases hc : (!b.norm && Nat.beq b.ver ver && !Nat.beq sz 0) with
        | false => simp only [hc] at hr; exact hr.elim
        | true =>
          simp only [hc] at hr
          simp only [Bool.and_eq_true, Bool.not_eq_true'] at hc
          have hv := Nat.eq_of_beq_eq_true hc.1.2
          have hz : sz ≠ 0 := fun e => by rw [e] at hc; simp at hc
          obtain ⟨o, n, cp, h3, h4⟩ := (hbuf hv).slice hz
          refine wp_value ?_ (hn.now hr ⟨rfl, .nil⟩)
          simp [execOp, resolve, invoke, builtin, Builtin.len_, run_underlying hu, h3, goInt, h4]
      · rename_i y L hu hx
        have h3 := (h.ev hx).1
        refine wp_value ?_ (hn.now hr ⟨rfl, .nil⟩)
        simp [execOp, resolve, invoke, builtin, Builtin.len_, run_underlying hu, h3, goInt]
      · rename_i n e sv hu hx
        refine wp_value ?_ (hn.now hr ⟨rfl, .nil⟩)
        simp [execOp, resolve, invoke, builtin, Builtin.len_, run_underlying hu, goInt]
      · exact hr.elim
    · exact hr.elim
  · exact gen_sound h hB (fun _ _ => nofun) (fun hp => plain_sound h (fun _ _ => nofun) hp hn) hr hn
  · exact hr.elim

theorem rd0_sound {o : Oper} (h : Rel σ w0 A s a w) (hB : ∀ q ∈ B, q ∈ A) (hr : (rd0 P B s o orc).wp k) (hn : Then σ w0 A s a o w k next) : o.wp P a w next Q := by
  obtain ⟨dst, op, type, pos, after, guard⟩ := o
  cases op
  case move x => exact move_sound h (by simpa only [rd0] using hr) hn rfl
  case assign x => exact move_sound h (by simpa only [rd0] using hr) hn rfl
  case pick c x y => exact pick_sound h hr hn
  case load t x => exact load_sound h hB hr hn
  case fieldAddr t x f => exact fieldAddr_sound h hB hr hn
  case indexAddr t x ix => exact indexAddr_sound h hB hr hn
  case build t ps => exact build_sound h hB hr hn
  case field t x f => exact field_sound h hr hn
  case index t x ix => exact index_sound h hr hn
  case slice t x lo hi mx => exact slice_sound h hB hr hn
  case binOp op t x y yt => exact binOp_sound h hB hr hn
  case call c => exact call_sound h hB hr hn
  case alloc => exact hr.elim
  case box => exact hr.elim
  case store => exact hr.elim
  case go => exact hr.elim
  case defer => exact hr.elim
  case select => exact hr.elim
  all_goals exact gen_sound h hB (fun _ _ => nofun) (fun hp => plain_sound h (fun _ _ => nofun) hp hn) (by simpa only [rd0] using hr) hn

theorem thing_sound {o : Oper} {k0 : Nat} {X : Type} {x0 : X} {ret : X → Value} {M : X → Facts} (h : Rel σ w0 A s a w) (hB : ∀ q ∈ B, q ∈ A) (hr : (rdThing P B s o k0 X x0 ret M).wp k) (hn : Then σ w0 A s a o w k next) : o.wp P a w next Q := by
  unfold rdThing at hr
  split at hr
  · rename_i L T hL hT hns
    obtain ⟨h1, h2⟩ := h.facts hL
    have he : execOp a.eval o = execOp s.valOf o := execOp_congr (ρ' := s.valOf) o (fun cs b e => by rw [e] at hns; cases hns) (fun y hy => h1 y (by simpa using hy))
    have hA := (h.base.sub hB).app h2
    have hg := hr.1 (σ.th k0) (h.things.is k0 T hT) w hA.holds (h.things.holds k0) (fun q hq q' hq' => hA.free q hq k0 q' hq')
    have fin : ∀ v w', RPost (B ++ L) X ret M w v w' → next (a.put o.dst v) w' := by
      rintro v w' ⟨x, rfl, h3, h4, h5⟩
      refine hn _ _ w' (hr.2 x) ⟨rfl, h3, fun q hq kk b hk => ?_, fun q hq => ?_, fun q hq => ?_⟩ h5
      · rcases h4 q hq with h6 | ⟨q', h6, h7⟩
        · intro e; have := (h.place kk b hk (by omega)).2; omega
        · rw [← h7]; exact hA.apart q' h6 kk b hk
      · rcases h4 q hq with h6 | ⟨q', h6, h7⟩
        · exact .inl (Nat.le_trans h.below.size h6)
        · rw [← h7]; exact hA.came q' h6
      · rcases h4 q hq with h6 | ⟨q', h6, h7⟩
        · exact fun k q' hq' e => by have := lt_of_some (h.things.holds k q' hq'); omega
        · rw [← h7]; exact hA.free q' h6
    unfold Oper.wp
    rw [he]
    unfold OpRun at hg
    split at hg
    · rename_i v w' hv
      rw [hv]
      exact fin v w' hg
    · rename_i g as w' hv
      rw [hv]
      refine Calls.mono hg ?_
      rintro e w'' ⟨v, rfl, hv⟩
      exact fin v w'' hv
    · exact hg.elim
  · exact hr.elim
theorem rd_sound {o : Oper} (h : Rel σ w0 A s a w) (hB : ∀ q ∈ B, q ∈ A) (hr : (rd P B s o orc).wp k) (hn : Then σ w0 A s a o w k next) : o.wp P a w next Q := by
  unfold rd at hr
  split at hr
  · exact thing_sound h hB hr hn
  · exact rd0_sound h hB hr hn
end

section
variable {P : Program} {σ : Pl} {w0 : Start} {w : World} {A B : Facts} {s : St} {a : Act} {o : Oper} {ops : Array Oper} {next : Act → World → Prop} {Q : Exit → Act → World → Prop} {k : SV → Prop} {orc : Option Or}

theorem grd_sound {i : Nat} (hi : ops[i]? = some o) (h : Rel σ w0 A s a w) (hB : ∀ q ∈ B, q ∈ A) (hr : (grd P B ops s o orc).wp k) (hn : Then σ w0 A s a o w k next) : wpOp P ops Q i next a w := by
  unfold wpOp
  simp only [hi]
  unfold grd at hr
  split at hr
  · rename_i hg
    have hw : Region.wanted o (yielded ops a.tmps) = true := by simp [Region.wanted, hg]
    rw [if_pos hw]
    exact .inl (rd_sound h hB hr hn)
  · rename_i g want hg
    split at hr
    · rename_i d hd
      split at hr
      · rename_i b L ht
        have h1 := (h.tm d _ ht).1
        have h2 : yielded ops a.tmps g = some b := by
          unfold yielded
          rw [hd]
          simp only [Option.bind_some]
          cases e : a.tmps[d]? with
          | none => simp [Array.getD_eq_getD_getElem?, e, undef] at h1
          | some y => simp [Array.getD_eq_getD_getElem?, e] at h1; subst h1; rfl
        have hw : Region.wanted o (yielded ops a.tmps) = (b == want) := by
          simp [Region.wanted, hg, h2]
        split at hr
        · rw [if_neg (by rw [hw, hr.1]; exact Bool.false_ne_true)]
          exact hn.now hr.2 ⟨rfl, .nil⟩
        · cases hbw : (b == want) with
          | true =>
            rw [hbw] at hr hw
            rw [if_pos hw]
            exact .inl (rd_sound (orc := none) h hB hr hn)
          | false =>
            rw [hbw] at hr hw
            rw [if_neg (by rw [hw]; exact Bool.false_ne_true)]
            exact hn.now hr ⟨rfl, .nil⟩
        · obtain ⟨h3, h4⟩ := Rd.wp_under hr
          rw [if_pos (hw.trans h3)]
          exact .inl (rd_sound h hB h4 hn)
      · rename_i b L ht
        have h1 := (h.tm d _ ht).1
        have h2 : yielded ops a.tmps g = none := by
          unfold yielded
          rw [hd]
          simp only [Option.bind_some]
          cases e : a.tmps[d]? with
          | none => rfl
          | some y => simp [Array.getD_eq_getD_getElem?, e] at h1; subst h1; rfl
        rw [if_neg (by simp [Region.wanted, hg, h2])]
        exact hn.now hr ⟨rfl, .nil⟩
      · exact hr.elim
    · exact hr.elim

/-- A new block. -/
theorem Rel.mv (h : Rel σ w0 A s a w) {kk m : Nat} {b' : Blk} {w' : World} (hold : ∀ b, s.hp kk = some b → b.norm = false ∧ b'.norm = false ∧ b.ver < b'.ver) (hsz : w.heap.size ≤ w'.heap.size)
    (ho : ∀ j, j < w.heap.size → ((∃ b, s.hp kk = some b) → j + 1 ≠ σ kk) → w'.heap[j]? = w.heap[j]?)
    (hm : m ≠ 0 → w0.heap.size < m ∧ m ≤ w'.heap.size ∧ (w.heap.size < m ∨ (∃ b, s.hp kk = some b) ∧ σ kk = m))
    (hno : b'.norm = true → m ≠ 0 ∧ w'.heap[m - 1]? = some (.cells b'.c.toArray b'.t)) (hL : FOk σ s.hp w0 A w b'.L) (e1 : w'.os = w.os) (e2 : w'.tape = w.tape) (e3 : w'.output = w.output) :
    Rel ⟨fun j => if j = kk then m else σ j, σ.th⟩ w0 A (s.over (set s.hp kk b')) a w' := by
  have old : ∀ {k b}, set s.hp kk b' k = some b → k ≠ kk → s.hp k = some b := fun hk hne => by rwa [set_ne _ _ (Ne.symm hne)] at hk
  have f : ∀ {M : Facts}, FOk σ s.hp w0 A w M → FOk ⟨fun j => if j = kk then m else σ j, σ.th⟩ (set s.hp kk b') w0 A w' M := fun hM =>
    ⟨fun q hq => by rw [ho _ (lt_of_some (hM.holds q hq)) (fun ⟨b, hb⟩ e => hM.apart q hq kk b hb e.symm)]; exact hM.holds q hq, fun q hq k b hk => by
      by_cases e : k = kk
      · simp only [e, if_true]
        intro e'
        rcases (hm (by omega)).2.2 with h1 | ⟨⟨b0, h1⟩, h2⟩
        · have := lt_of_some (hM.holds q hq); omega
        · exact hM.apart q hq kk b0 h1 (h2.trans e')
      · simp only [e, if_false]; exact hM.apart q hq k b (old hk e), hM.came, hM.free⟩
  have same : ∀ {k b}, s.hp k = some b → k ≠ kk → σ k ≠ 0 → w'.heap[σ k - 1]? = w.heap[σ k - 1]? := fun {k b} hk hne h0 =>
    ho _ (by have := (h.place k b hk h0).2; omega) fun ⟨b0, hb0⟩ e => hne (h.inj k kk b b0 hk hb0 (by omega) h0)
  refine ⟨h.size, h.defers, fun i sv hi => ?_, fun k b hk h0 => ?_, fun k b hk => ?_, fun k k' b1 b2 hk hk' e h0 => ?_, ?_, f h.base, ⟨h.things.is, fun k q hq => ?_, fun k q hq j b hj => ?_, h.things.came, h.things.two⟩⟩
  · have := h.tm i sv hi
    cases sv with
    | v x L => exact ⟨this.1, f this.2⟩
    | p k off =>
      obtain ⟨h1, b, h2, h3⟩ := this
      have hne : k ≠ kk := fun e => by subst e; rw [(hold b h2).1] at h3; cases h3
      exact ⟨by simp only [hne, if_false]; exact h1, b, by simp only [St.over]; rw [set_ne _ _ (Ne.symm hne)]; exact h2, h3⟩
    | s k off n c =>
      obtain ⟨h1, b, h2, h3⟩ := this
      have hne : k ≠ kk := fun e => by subst e; rw [(hold b h2).1] at h3; cases h3
      exact ⟨by simp only [hne, if_false]; exact h1, b, by simp only [St.over]; rw [set_ne _ _ (Ne.symm hne)]; exact h2, h3⟩
    | a k ver sz =>
      obtain ⟨b, h2, h3, h4, h5⟩ := this
      by_cases hne : k = kk
      · subst hne
        obtain ⟨h6, h7, h8⟩ := hold b h2
        exact ⟨b', set_self _ _ _, h7, by omega, fun e => absurd e (by omega)⟩
      · refine ⟨b, by simp only [St.over]; rw [set_ne _ _ (Ne.symm hne)]; exact h2, h3, h4, fun e => ?_⟩
        simp only [hne, if_false]
        rcases h5 e with h6 | ⟨h6, sp, n, cap, h7, h8⟩
        · exact .inl h6
        · exact .inr ⟨h6, sp, n, cap, by rw [same h2 hne h6]; exact h7, h8⟩
  · by_cases e : k = kk
    · simp only [e, if_true] at h0 ⊢; exact ⟨(hm h0).1, (hm h0).2.1⟩
    · simp only [e, if_false] at h0 ⊢
      have := h.place k b (old hk e) h0
      exact ⟨this.1, Nat.le_trans this.2 hsz⟩
  · by_cases e : k = kk
    · subst e
      simp only [St.over, set_self, Option.some.injEq] at hk
      subst hk
      simp only [if_true]
      exact ⟨hno, f hL⟩
    · obtain ⟨h2, h3⟩ := h.hp k b (old hk e)
      simp only [e, if_false]
      exact ⟨fun hn => ⟨(h2 hn).1, by rw [same (old hk e) e (h2 hn).1]; exact (h2 hn).2⟩, f h3⟩
  · have key : ∀ k b1, s.hp k = some b1 → k ≠ kk → m ≠ 0 → m ≠ σ k := fun k b1 hk hne h0 e => by
      rcases (hm h0).2.2 with h1 | ⟨⟨b0, h1⟩, h2⟩
      · have := (h.place k b1 hk (by omega)).2; omega
      · exact hne (h.inj k kk b1 b0 hk h1 (by omega) (by omega))
    by_cases c1 : k = kk <;> by_cases c2 : k' = kk
    · rw [c1, c2]
    · simp only [c1, c2, if_true, if_false] at e h0; exact absurd e (key k' b2 (old hk' c2) c2 h0)
    · simp only [c1, c2, if_true, if_false] at e h0; exact absurd e.symm (key k b1 (old hk c1) c1 (by omega))
    · simp only [c1, c2, if_false] at e h0; exact h.inj k k' b1 b2 (old hk c1) (old hk' c2) e h0
  · refine ⟨e1.trans h.below.os, e2.trans h.below.tape, e3.trans h.below.output, Nat.le_trans h.below.size hsz, fun j hj hq => ?_⟩
    rw [ho j (Nat.lt_of_lt_of_le hj h.below.size) (fun ⟨b, hb⟩ e => by have := (h.place kk b hb (by omega)).1; omega)]
    exact h.below.block j hj hq
  · rw [ho _ (lt_of_some (h.things.holds k q hq)) (fun ⟨b, hb⟩ e => h.things.apart k q hq kk b hb e.symm)]
    exact h.things.holds k q hq
  · by_cases e : j = kk
    · simp only [e, if_true]
      intro e'
      rcases (hm (by omega)).2.2 with h1 | ⟨⟨b0, h1⟩, h2⟩
      · have := lt_of_some (h.things.holds k q hq); omega
      · exact h.things.apart k q hq kk b0 h1 (h2.trans e')
    · simp only [e, if_false]; exact h.things.apart k q hq j b (old hj e)

theorem Rel.alloc (h : Rel σ w0 A s a w) {t : TypeId} {c : Array Value} {L : Facts} {k0 : Nat} (hk0 : s.hp k0 = none) (hL : FOk σ s.hp w0 A w L) :
    Rel ⟨fun j => if j = k0 then w.heap.size + 1 else σ j, σ.th⟩ w0 A (s.over (set s.hp k0 ⟨t, c.toList, L⟩)) a (w.alloc (.cells c t)) := by
  have hb : Below w.heap.size w (w.alloc (.cells c t)) := (Below.refl _ _).alloc (Nat.le_refl _) _
  have hs : (w.alloc (.cells c t)).heap.size = w.heap.size + 1 := by simp
  refine h.mv (b' := ⟨t, c.toList, L⟩) (fun b hb => by rw [hk0] at hb; cases hb) hb.size (fun j hj _ => hb.block j hj) (fun _ => ⟨by have := h.below.size; omega, by omega, .inl (by omega)⟩) (fun _ => ⟨by omega, ?_⟩) hL hb.os hb.tape hb.output
  simpa using heap_alloc_new w (.cells c t)

/-- A block of the call's own is written. -/
theorem Rel.write (h : Rel σ w0 A s a w) {kk : Nat} {b : Blk} (hb : s.hp kk = some b) (hno : b.norm = true) {c' : List Value} {L : Facts} (hL : FOk σ s.hp w0 A w L) {w' : World}
    (hw : w'.heap[σ kk - 1]? = some (.cells c'.toArray b.t)) (ho : ∀ j, j ≠ σ kk - 1 → w'.heap[j]? = w.heap[j]?) (hs : w'.heap.size = w.heap.size) (e1 : w'.os = w.os) (e2 : w'.tape = w.tape) (e3 : w'.output = w.output) :
    Rel σ w0 A (s.over (set s.hp kk { b with c := c', L := L ++ b.L })) a w' := by
  have h0 := ((h.hp kk b hb).1 hno).1
  have old : ∀ {k b'}, set s.hp kk ({ b with c := c', L := L ++ b.L } : Blk) k = some b' → ∃ b'', s.hp k = some b'' := fun {k b'} hk => by
    by_cases e : kk = k
    · subst e; exact ⟨b, hb⟩
    · rw [set_ne _ _ e] at hk; exact ⟨b', hk⟩
  have f : ∀ {M : Facts}, FOk σ s.hp w0 A w M → FOk σ (set s.hp kk { b with c := c', L := L ++ b.L }) w0 A w' M := fun hM =>
    ⟨fun q hq => by rw [ho _ (fun e => hM.apart q hq kk b hb (by omega))]; exact hM.holds q hq, fun q hq k b' hk => by obtain ⟨b'', h2⟩ := old hk; exact hM.apart q hq k b'' h2, hM.came, hM.free⟩
  have same : ∀ {k b'}, s.hp k = some b' → k ≠ kk → σ k ≠ 0 → w'.heap[σ k - 1]? = w.heap[σ k - 1]? := fun {k b'} hk hne hz =>
    ho _ fun e => hne (h.inj k kk b' b hk hb (by omega) hz)
  refine ⟨h.size, h.defers, fun i sv hi => ?_, fun k b' hk' hz => ?_, fun k b' hk' => ?_, fun k k' b1 b2 h1 h2 e hz => ?_, ?_, f h.base, ⟨h.things.is, fun k q hq => ?_, fun k q hq j b' hj => ?_, h.things.came, h.things.two⟩⟩
  · have := h.tm i sv hi
    cases sv with
    | v x L => exact ⟨this.1, f this.2⟩
    | p k off =>
      obtain ⟨h1, b1, h2, h3⟩ := this
      refine ⟨h1, ?_⟩
      by_cases e : kk = k
      · subst e; exact ⟨_, set_self _ _ _, hno⟩
      · exact ⟨b1, by simp only [St.over]; rw [set_ne _ _ e]; exact h2, h3⟩
    | s k off n c =>
      obtain ⟨h1, b1, h2, h3⟩ := this
      refine ⟨h1, ?_⟩
      by_cases e : kk = k
      · subst e; exact ⟨_, set_self _ _ _, hno⟩
      · exact ⟨b1, by simp only [St.over]; rw [set_ne _ _ e]; exact h2, h3⟩
    | a k ver sz =>
      obtain ⟨b1, h2, h3, h4, h5⟩ := this
      have hne : k ≠ kk := fun e => by subst e; rw [hb] at h2; cases h2; rw [hno] at h3; cases h3
      refine ⟨b1, by simp only [St.over]; rw [set_ne _ _ (Ne.symm hne)]; exact h2, h3, h4, fun e => ?_⟩
      rcases h5 e with h6 | ⟨h6, sp, n, cap, h7, h8⟩
      · exact .inl h6
      · exact .inr ⟨h6, sp, n, cap, by rw [same h2 hne h6]; exact h7, h8⟩
  · obtain ⟨b'', h2⟩ := old hk'
    have := h.place k b'' h2 hz
    exact ⟨this.1, by omega⟩
  · by_cases e : kk = k
    · subst e
      simp only [St.over, set_self, Option.some.injEq] at hk'
      subst hk'
      exact ⟨fun _ => ⟨h0, hw⟩, f (hL.app (h.hp kk b hb).2)⟩
    · simp only [St.over, set_ne _ _ e] at hk'
      obtain ⟨h2, h3⟩ := h.hp k b' hk'
      exact ⟨fun hn => ⟨(h2 hn).1, by rw [same hk' (Ne.symm e) (h2 hn).1]; exact (h2 hn).2⟩, f h3⟩
  · obtain ⟨c1, h1⟩ := old h1
    obtain ⟨c2, h2⟩ := old h2
    exact h.inj k k' c1 c2 h1 h2 e hz
  · refine ⟨e1.trans h.below.os, e2.trans h.below.tape, e3.trans h.below.output, by rw [hs]; exact h.below.size, fun j hj hq => ?_⟩
    rw [ho j (by have := (h.place kk b hb h0).1; omega)]
    exact h.below.block j hj hq
  · rw [ho _ (fun e => h.things.apart k q hq kk b hb (by omega))]; exact h.things.holds k q hq
  · obtain ⟨b'', h2⟩ := old hj; exact h.things.apart k q hq j b'' h2

/-- A thing is turned. -/
theorem Rel.turn (h : Rel σ w0 A s a w) {k0 : Nat} {T : TP} {F F' : Facts} {w' : World} (hsub : ∀ q ∈ F, q ∈ σ.th k0) (g1 : T F') (g3 : Holds w' F') (g6 : ∀ q ∈ F', w.heap.size ≤ q.1 ∨ ∃ q' ∈ F, q'.1 = q.1) (g7 : Still ⟨w, F⟩ w') :
    Rel ⟨σ.f, fun j => if j = k0 then F' else σ.th j⟩ w0 A (s.thr (set s.th k0 T)) a w' ∧ ∀ {M : Facts}, FOk σ s.hp w0 A w M → FOk ⟨σ.f, fun j => if j = k0 then F' else σ.th j⟩ s.hp w0 A w' M := by
  have same : ∀ j, j < w.heap.size → (∀ q ∈ F, q.1 ≠ j) → w'.heap[j]? = w.heap[j]? := g7.block
  have f : ∀ {M : Facts}, FOk σ s.hp w0 A w M → FOk ⟨σ.f, fun j => if j = k0 then F' else σ.th j⟩ s.hp w0 A w' M := fun hM =>
    ⟨fun q hq => by rw [same _ (lt_of_some (hM.holds q hq)) (fun q' hq' => hM.free q hq k0 q' (hsub q' hq'))]; exact hM.holds q hq, hM.apart, hM.came, fun q hq k q' hq' => by
      by_cases e : k = k0
      · simp only [e, if_true] at hq'
        rcases g6 q' hq' with h1 | ⟨q2, h1, h2⟩
        · have := lt_of_some (hM.holds q hq); omega
        · rw [← h2]; exact hM.free q hq k0 q2 (hsub q2 h1)
      · simp only [e, if_false] at hq'; exact hM.free q hq k q' hq'⟩
  have hpl : ∀ {k b}, s.hp k = some b → σ k ≠ 0 → w'.heap[σ k - 1]? = w.heap[σ k - 1]? := fun {k b} hk h0 =>
    same _ (by have := (h.place k b hk h0).2; omega) fun q hq e => h.things.apart k0 q (hsub q hq) k b hk (by omega)
  refine ⟨⟨h.size, h.defers, fun i sv hi => ?_, fun k b hk h0 => ⟨(h.place k b hk h0).1, Nat.le_trans (h.place k b hk h0).2 g7.size⟩, fun k b hk => ?_, h.inj, ?_, f h.base, ⟨fun k T' hk => ?_, fun k q hq => ?_, fun k q hq j b hj => ?_, fun k q hq => ?_, fun k j hkj q hq q' hq' => ?_⟩⟩, f⟩
  · have := h.tm i sv hi
    cases sv with
    | v x L => exact ⟨this.1, f this.2⟩
    | p k off => exact this
    | s k off n c => exact this
    | a k ver sz =>
      obtain ⟨b, h2, h3, h4, h5⟩ := this
      refine ⟨b, h2, h3, h4, fun e => ?_⟩
      rcases h5 e with h6 | ⟨h6, sp, n, cap, h7, h8⟩
      · exact .inl h6
      · exact .inr ⟨h6, sp, n, cap, by rw [hpl h2 h6]; exact h7, h8⟩
  · obtain ⟨h2, h3⟩ := h.hp k b hk
    exact ⟨fun hn => ⟨(h2 hn).1, by rw [hpl hk (h2 hn).1]; exact (h2 hn).2⟩, f h3⟩
  · refine ⟨g7.os.trans h.below.os, g7.tape.trans h.below.tape, g7.output.trans h.below.output, Nat.le_trans h.below.size g7.size, fun j hj hq => ?_⟩
    rw [same j (Nat.lt_of_lt_of_le hj h.below.size) fun q hqF e => ?_]
    · exact h.below.block j hj hq
    · rcases h.things.came k0 q (hsub q hqF) with h1 | ⟨_, q2, h1, h2⟩
      · omega
      · exact hq q2 h1 (h2.trans e)
  · by_cases e : k = k0
    · subst e
      simp only [St.thr, set_self, Option.some.injEq] at hk
      subst hk
      simpa only [if_true] using g1
    · simp only [St.thr, set_ne _ _ (Ne.symm e)] at hk
      simpa only [e, if_false] using h.things.is k T' hk
  · by_cases e : k = k0
    · simp only [e, if_true] at hq; exact g3 q hq
    · simp only [e, if_false] at hq
      rw [same _ (lt_of_some (h.things.holds k q hq)) fun q' hq' => h.things.two k k0 e q hq q' (hsub q' hq')]
      exact h.things.holds k q hq
  · by_cases e : k = k0
    · simp only [e, if_true] at hq
      rcases g6 q hq with h1 | ⟨q2, h1, h2⟩
      · intro e'; simp only at e'; have := (h.place j b hj (by omega)).2; omega
      · rw [← h2]; exact h.things.apart k0 q2 (hsub q2 h1) j b hj
    · simp only [e, if_false] at hq; exact h.things.apart k q hq j b hj
  · by_cases e : k = k0
    · simp only [e, if_true] at hq
      rcases g6 q hq with h1 | ⟨q2, h1, h2⟩
      · exact .inl (Nat.le_trans h.below.size h1)
      · rw [← h2, e]; exact h.things.came k0 q2 (hsub q2 h1)
    · simp only [e, if_false] at hq; exact h.things.came k q hq
  · have key : ∀ k, k ≠ k0 → ∀ q ∈ σ.th k, ∀ q' ∈ F', q'.1 ≠ q.1 := fun k hk q hq q' hq' => by
      rcases g6 q' hq' with h1 | ⟨q2, h1, h2⟩
      · have := lt_of_some (h.things.holds k q hq); omega
      · rw [← h2]; exact h.things.two k k0 hk q hq q2 (hsub q2 h1)
    by_cases c1 : k = k0 <;> by_cases c2 : j = k0
    · exact absurd (c1.trans c2.symm) hkj
    · simp only [c1, if_true] at hq; simp only [c2, if_false] at hq'; exact Ne.symm (key j c2 q' hq' q hq)
    · simp only [c1, if_false] at hq; simp only [c2, if_true] at hq'; exact key k c1 q hq q' hq'
    · simp only [c1, if_false] at hq; simp only [c2, if_false] at hq'; exact h.things.two k j hkj q hq q' hq'
end

section
variable {P : Program} {σ : Pl} {w0 : Start} {w : World} {A B : Facts} {s : St} {a : Act} {o : Oper} {ops : Array Oper} {next : Act → World → Prop} {Q : Exit → Act → World → Prop} {K K' : St → Prop} {orcs : Ors}

theorem all_one {l : List Value} (h : l.all Value.oneCell' = true) : ∀ v ∈ l, v.oneCell' = true := fun v hv => List.all_eq_true.1 h v hv

theorem put_n (s : St) (d : Option Tmp) (sv : SV) : (s.put d sv).n = s.n := by cases d <;> rfl

theorem new_sound (h : Rel σ w0 A s a w) {i : Nat} {d : Option Tmp} {t : TypeId} {c : Array Value} {L : Facts} (hL : FOk σ s.hp w0 A w L) (hno : Nat.blt t 1048576 = true) (hd : ∀ t, d = some t → t < s.n) {s1 : St} (hs : s.new i d ⟨t, c.toList, L⟩ = some s1) :
    (∃ σ', Rel σ' w0 A s1 (a.put d (.pointer (some ⟨w.heap.size, 0, none⟩))) (w.alloc (.cells c t))) ∧ s1.n = s.n := by
  unfold St.new at hs
  split at hs
  · rename_i hk0
    simp only [Option.some.injEq] at hs
    subst hs
    refine ⟨⟨_, (h.alloc hk0 hL).put ⟨?_, _, set_self _ _ _, hno⟩ hd⟩, put_n _ _ _⟩
    simp
  · cases hs

theorem mem_sound {j : Nat} (h : Rel σ w0 A s a w) (hd : ∀ t, o.dst = some t → t < s.n) {s1 : St} (hm : memSt P s j o = some s1) (hn : ∀ σ' a' w', Rel σ' w0 A s1 a' w' → s1.n = s.n → next a' w') : o.guard = none ∧ o.wp P a w next Q := by
  obtain ⟨dst, op, type, pos, after, guard⟩ := o
  unfold memSt at hm
  cases guard with
  | some g => cases hm
  | none =>
    refine ⟨rfl, ?_⟩
    cases op
    case alloc t =>
      simp only [newBlk] at hm
      cases hi : P.info? t with
      | none => simp [hi] at hm
      | some i =>
        cases hno : Nat.blt t 1048576 with
        | false => simp only [hi, hno] at hm; cases hm
        | true =>
        cases hz : i.zero with
        | none => simp only [hi, hz, hno] at hm; cases hm
        | some z =>
          simp only [hi, hz, hno] at hm
          obtain ⟨⟨σ', hr⟩, hn1⟩ := new_sound h (c := z.cells) .nil hno hd hm
          unfold Oper.wp
          have : (execOp a.eval ⟨dst, .alloc t, type, pos, after, none⟩).run P w = .ok (.value (.pointer (some ⟨w.heap.size, 0, none⟩))) (w.alloc (.cells z.cells t)) := by
            simp [execOp, Instr.alloc, zeroValue, typeInfo, hi, hz, newVar, newRow]
          rw [this]
          exact hn _ _ _ hr hn1
    case box t x =>
      simp only [newBlk] at hm
      cases hno : Nat.blt t 1048576 with
      | false => simp only [hno] at hm; cases hm
      | true =>
      cases hx0 : s.ev x with
      | none => simp only [hx0, hno] at hm; cases hm
      | some sv =>
        cases sv with
        | p k off => simp only [hx0, hno] at hm; cases hm
        | s k off n c => simp only [hx0, hno] at hm; cases hm
        | a k ver sz => simp only [hx0, hno] at hm; cases hm
        | v y L =>
          simp only [hx0, hno] at hm
          obtain ⟨h1, h2⟩ := h.ev hx0
          obtain ⟨⟨σ', hr⟩, hn1⟩ := new_sound h (c := y.cells) h2 hno hd hm
          unfold Oper.wp
          have : (execOp a.eval ⟨dst, .box t x, type, pos, after, none⟩).run P w = .ok (.value (.pointer (some ⟨w.heap.size, 0, none⟩))) (w.alloc (.cells y.cells t)) := by
            simp [execOp, Instr.box, h1, newVar, newRow]
          rw [this]
          exact hn _ _ _ hr hn1
    case store t x y =>
      simp only at hm
      split at hm
      · rename_i kk off v L i hx hy hi
        obtain ⟨h1, h2⟩ := h.ev hx
        obtain ⟨h3, h4⟩ := h.ev hy
        split at hm
        · rename_i b hb
          cases hc : ((b.norm && Nat.beq v.cells.size i.size) && Nat.ble (off + i.size) b.c.length && v.cells.toList.all Value.oneCell') with
          | false => rw [hc] at hm; cases hm
          | true =>
            rw [hc] at hm
            simp only [cond_true] at hm
            simp only [Bool.and_eq_true] at hc
            have hno := hc.1.1.1
            have e1 := Nat.eq_of_beq_eq_true hc.1.1.2
            have e2 := Nat.le_of_ble_eq_true hc.1.2
            have hg := ((h.hp kk b hb).1 hno).2
            have hst := run_storeCells_at P (σ kk - 1) off b.t v.cells.toList 0 b.c.toArray w hg (by simp; omega) (all_one hc.2)
            have hrun : (execOp a.eval ⟨dst, .store t x y, type, pos, after, none⟩).run P w = .ok .skip (w.setRow (σ kk - 1) (setRange b.c off v.cells.toList).toArray) := by
              have e3 : ¬ (v.cells.size ≠ i.size) := by omega
              simp only [Nat.add_zero] at hst
              simp only [execOp, Instr.storeAt, h1, h3, Instr.sureAddr, Sem.run_bind, Sem.run_pure, Result.andThen_ok, storeVar, run_size hi, if_neg e3, hst]
              simp [setRange]
            have hr := h.write hb hno (c' := setRange b.c off v.cells.toList) (L := L) h4 (w' := w.setRow (σ kk - 1) (setRange b.c off v.cells.toList).toArray)
              (setRow_heap w (σ kk - 1) _ _ b.t (0, 0) hg) (fun j hj => setRow_other w (σ kk - 1) j _ hj) (setRow_size ..) rfl rfl rfl
            have hx' := hr.put (d := dst) (sv := .v undef []) (x := undef) ⟨rfl, .nil⟩ hd
            unfold Oper.wp
            rw [hrun]
            simp only [Option.some.injEq] at hm
            subst hm
            exact hn _ _ _ hx' (put_n _ _ _)
        · cases hm
      · cases hm
    all_goals (simp [newBlk] at hm)

theorem blt_lt {a b : Nat} (h : Nat.blt a b = true) : a < b := Nat.le_of_ble_eq_true h
theorem blt_no {a b : Nat} (h : b ≤ a) : Nat.blt a b = false := by
  cases e : Nat.blt a b with
  | false => rfl
  | true => have := blt_lt e; omega
theorem buf_ver {e v : Nat} {c : List Value} {L : Facts} (he : e < 1048576) : (⟨bufT e v, c, L⟩ : Blk).ver = v := by
  simp only [Blk.ver, bufT]; omega
theorem buf_ty {e v : Nat} {c : List Value} {L : Facts} (he : e < 1048576) : (⟨bufT e v, c, L⟩ : Blk).ty = e := by
  simp only [Blk.ty, bufT]; omega
theorem buf_norm {e v : Nat} {c : List Value} {L : Facts} (hv : v ≠ 0) : (⟨bufT e v, c, L⟩ : Blk).norm = false := by
  simp only [Blk.norm, bufT]
  exact blt_no (by omega)

/-- 'append' to a buffer: in its place, or in a new block. -/
theorem append_buf {t tx ty e : TypeId} {i : TypeInfo} {z : Value} (ht : P.underlying t = some (.slice e)) (hi : P.info? e = some i) (hz : i.zero = some z) (hzs : z.cells.size = i.size) (hz0 : i.size ≠ 0) (hby : i.bytes ≤ 32)
    {m : Nat} {w : World} {c xs : List Value} {y yv : Value} {n : Nat} (hb : BufOk m w e c i.size y) (hs : Src P i.size tx yv n xs w) (hlen : c.length + xs.length ≤ 1099511627776) :
    ∃ y' w' m', (Builtin.append_ #[t, tx] ty #[y, yv]).run P w = .ok y' w' ∧ BufOk m' w' e (c ++ xs) i.size y' ∧ w.heap.size ≤ w'.heap.size ∧ (∀ j, j < w.heap.size → j + 1 ≠ m → w'.heap[j]? = w.heap[j]?) ∧
      (m' ≠ 0 → m' = m ∨ (w.heap.size < m' ∧ m' ≤ w'.heap.size)) ∧ w'.os = w.os ∧ w'.tape = w.tape ∧ w'.output = w.output := by
  have hpos : 0 < i.size := by omega
  have hxl := hs.newsLen
  have hn : n ≤ xs.length := by rw [hxl]; exact Nat.le_mul_of_pos_right _ hpos
  have grow : ∀ (base : Option Addr) (sLen sCap : Nat), y = .slice base sLen sCap → c.length = sLen * i.size → (Builtin.firstCells i.size sLen (.slice base sLen sCap)).run P w.drew = .ok c.toArray w.drew → sCap < sLen + n →
      ∃ y' w' m', (Builtin.append_ #[t, tx] ty #[y, yv]).run P w = .ok y' w' ∧ BufOk m' w' e (c ++ xs) i.size y' ∧ w.heap.size ≤ w'.heap.size ∧ (∀ j, j < w.heap.size → j + 1 ≠ m → w'.heap[j]? = w.heap[j]?) ∧
      (m' ≠ 0 → m' = m ∨ (w.heap.size < m' ∧ m' ≤ w'.heap.size)) ∧ w'.os = w.os ∧ w'.tape = w.tape ∧ w'.output = w.output := by
    intro base sLen sCap hy hcl hold hg
    have hsl : sLen ≤ c.length := by rw [hcl]; exact Nat.le_mul_of_pos_right _ hpos
    have h63 : ((sLen + n : Nat) : Int) ≤ 9223372036854775807 := by omega
    have hfit : Builtin.nextslicecap (sLen + n) sCap * i.bytes ≤ 281474976710656 := by
      have h1 := nextslicecap_le hg
      have h2 : Builtin.nextslicecap (sLen + n) sCap * i.bytes ≤ 2 * (sLen + n) * 32 := Nat.mul_le_mul h1 hby
      omega
    have hrun := run_append_grow_src w t tx ty e i z ht hi hz base sLen sCap c hold yv n xs hs hg h63 hfit
    have hge := grownCap_ge w (sLen + n) sCap e
    rw [hy]
    refine ⟨_, _, w.heap.size + 1, hrun, .inr ⟨by omega, (Builtin.zeroCells z.cells (grownCap w (sLen + n) sCap e - (sLen + n))).toList, _, _, ?_, rfl, ?_, ?_⟩, ?_, ?_, ?_, rfl, rfl, rfl⟩
    · have := heap_alloc_new w.drew (.cells ((c ++ xs).toArray ++ Builtin.zeroCells z.cells (grownCap w (sLen + n) sCap e - (sLen + n))) e)
      simp only [Nat.add_sub_cancel]
      refine this.trans ?_
      congr 2
      apply Array.ext'
      simp
    · simp only [List.length_append, hcl, hxl, Nat.add_mul]
    · simp only [List.length_append, hcl, hxl]
      have e2 : (Builtin.zeroCells z.cells (grownCap w (sLen + n) sCap e - (sLen + n))).toList.length = (grownCap w (sLen + n) sCap e - (sLen + n)) * i.size := by
        simp [Builtin.zeroCells, hzs]
      rw [e2, ← Nat.add_mul, ← Nat.add_mul]
      congr 1
      omega
    · simp
    · intro j hj _
      exact ((Below.refl w.drew.heap.size w.drew).alloc (Nat.le_refl _) _).block j hj
    · intro _; right; simp
  rcases hb with ⟨rfl, o, rfl⟩ | ⟨hm0, sp, len, cap, hg, rfl, hcl, hcap⟩
  · by_cases h0 : n = 0
    · subst h0
      have hx0 : xs = [] := List.length_eq_zero_iff.1 (by rw [hxl]; simp)
      subst hx0
      refine ⟨.slice o 0 0, w, 0, ?_, .inl ⟨rfl, o, rfl⟩, Nat.le_refl _, fun _ _ _ => rfl, fun h => absurd rfl h, rfl, rfl, rfl⟩
      have hc := hs.cells
      rcases hs.kind with ⟨e', hk⟩ | hk <;> cases o <;> simp [Builtin.append_, run_underlying ht, run_underlying hk, sizeOf, typeInfo, hi, hs.len, hc, storeCells]
    · refine grow o 0 0 rfl (by simp) ?_ (by omega)
      cases o with
      | none => exact run_firstCells_none w.drew i.size 0 0 0
      | some a0 => exact run_firstCells_some w.drew i.size 0 a0 0 0 [] (by simp) (fun j v h => by simp at h)
  · by_cases hr : len + n ≤ cap
    · have hb1 : len * i.size + xs.length ≤ (c ++ sp).length := by
        rw [hxl, List.length_append, hcap, ← Nat.add_mul]; exact Nat.mul_le_mul_right _ hr
      have hst := run_storeCells_at P (m - 1) (len * i.size) e xs 0 (c ++ sp).toArray w hg (by simpa using hb1) hs.one
      simp only [Nat.add_zero] at hst
      have htk : (c ++ sp).take (len * i.size) = c := by rw [← hcl]; simp
      have hdr : (c ++ sp).drop (len * i.size + xs.length) = sp.drop xs.length := by rw [← hcl]; simp
      rw [htk, hdr] at hst
      have hlen2 : xs.length ≤ sp.length := by rw [← hcl, List.length_append] at hb1; omega
      refine ⟨.slice (some ⟨m - 1, 0, none⟩) (len + n) cap, w.setRow (m - 1) (c ++ xs ++ sp.drop xs.length).toArray, m, ?_, .inr ⟨hm0, sp.drop xs.length, len + n, cap, setRow_heap w (m - 1) _ _ e (0, 0) hg, rfl, ?_, ?_⟩, ?_, ?_, fun _ => .inl rfl, rfl, rfl, rfl⟩
      · rcases hs.kind with ⟨e', hk⟩ | hk <;> simp [Builtin.append_, run_underlying ht, run_underlying hk, sizeOf, typeInfo, hi, hs.len, hr, hs.cells, Addr.add_lit, hst]
      · simp only [List.length_append, hcl, hxl, Nat.add_mul]
      · simp only [List.length_append, List.length_drop]; omega
      · rw [setRow_size]; exact Nat.le_refl _
      · intro j _ hj; exact setRow_other w (m - 1) j _ (by omega)
    · refine grow _ len cap rfl hcl ?_ (by omega)
      refine run_firstCells_some w.drew i.size len _ len cap c hcl fun j v hj => ?_
      have hjl : j < c.length := (List.getElem?_eq_some_iff.1 hj).1
      have hg' : w.drew.heap[m - 1]? = some (.cells (c ++ sp).toArray e) := hg
      rw [add_none]
      simp [World.cell?, hg', List.getElem?_append, hjl]
      exact (List.getElem?_eq_some_iff.1 hj).2

/-- A row of a plain type that nobody holds becomes a buffer. -/
theorem Fresh.buf {w : World} {n0 e sz : Nat} {c : List Value} {v : Value} (h : Fresh n0 w e sz c v) : ∃ m, BufOk m w e c sz v ∧ (m ≠ 0 → n0 < m ∧ m ≤ w.heap.size) := by
  rcases h with h | ⟨m, sp, n, cap, h1, h2, h3⟩
  · exact ⟨0, .inl h, fun h => absurd rfl h⟩
  · exact ⟨m + 1, .inr ⟨by omega, sp, n, cap, by simpa using h2, h3⟩, fun _ => ⟨by omega, lt_of_some h2⟩⟩

theorem ap_sound {j : Nat} {orc : Option Or} (h : Rel σ w0 A s a w) (hB : ∀ q ∈ B, q ∈ A) (hd : ∀ t, o.dst = some t → t < s.n) {r : Ap} (hr : ap P B s j o orc = some r) (hp : r.p)
    (hn : ∀ σ' x a' w', Rel σ' w0 A (((s.over (r.hp x)).thr (r.th x)).put o.dst (r.sv x)) a' w' → next a' w') : o.guard = none ∧ o.wp P a w next Q := by
  have app : ∀ n xs out, apOn P B s o n xs out = some r → o.wp P a w next Q := by
    clear hr
    intro n xs out hr
    obtain ⟨dst, op, type, pos, after, guard⟩ := o
    unfold apOn at hr
    split at hr
    case h_2 => cases hr
    rename_i op' c hop
    simp only at hop
    subst hop
    obtain ⟨callee, args, argTypes⟩ := c
    split at hr
    case h_2 => cases hr
    rename_i x y t tx hcal hargs htys
    simp only at hcal
    subst hcal
    have ha : args = #[x, y] := by apply Array.ext'; simpa using hargs
    have htt : argTypes = #[t, tx] := by apply Array.ext'; simpa using htys
    subst ha htt
    split at hr
    case h_2 => cases hr
    rename_i k ver sz yv L e hx hy hu
    split at hr
    case h_2 => cases hr
    rename_i b i hb hi
    split at hr
    case h_2 => cases hr
    rename_i z hz
    obtain ⟨b', hb', hno, hle, hbuf⟩ := h.ev hx
    rw [hb] at hb'
    cases hb'
    obtain ⟨h1, h2⟩ := h.ev hy
    have main : ((!b.norm && Nat.beq b.ver ver && Nat.beq b.ty e) && (Nat.beq i.size sz && !Nat.beq sz 0 && Nat.ble i.bytes 32 && Nat.beq z.cells.size sz)) = true → (∀ w, Holds w (B ++ L) → Src P sz tx yv n xs w) → b.c.length + xs.length ≤ 1099511627776 →
        ∃ y' w' m', (execOp a.eval ⟨dst, .call ⟨.builtin .append, #[x, y], #[t, tx]⟩, type, pos, after, guard⟩).run P w = .ok (.value y') w' ∧ BufOk m' w' e (b.c ++ xs) sz y' ∧ w.heap.size ≤ w'.heap.size ∧ (∀ j, j < w.heap.size → j + 1 ≠ σ k → w'.heap[j]? = w.heap[j]?) ∧
        (m' ≠ 0 → m' = σ k ∨ (w.heap.size < m' ∧ m' ≤ w'.heap.size)) ∧ w'.os = w.os ∧ w'.tape = w.tape ∧ w'.output = w.output := by
      intro hc hsrc hlen
      simp only [Bool.and_eq_true, Bool.not_eq_true'] at hc
      have hv := Nat.eq_of_beq_eq_true hc.1.1.2
      have hte := Nat.eq_of_beq_eq_true hc.1.2
      have hsz := Nat.eq_of_beq_eq_true hc.2.1.1.1
      have hz0 : sz ≠ 0 := fun e0 => by rw [e0] at hc; simp at hc
      have hby := Nat.le_of_ble_eq_true hc.2.1.2
      have hzs := Nat.eq_of_beq_eq_true hc.2.2
      subst hsz
      have hbo := hbuf hv
      rw [hte] at hbo
      obtain ⟨y', w', m', g1, g2⟩ := append_buf (ty := type) hu hi hz hzs hz0 hby hbo (hsrc w ((h.base.sub hB).app h2).holds) hlen
      refine ⟨y', w', m', ?_, g2⟩
      simp [execOp, resolve, invoke, builtin, h1, g1]
    have hty : ∀ hc : ((!b.norm && Nat.beq b.ver ver && Nat.beq b.ty e) && (Nat.beq i.size sz && !Nat.beq sz 0 && Nat.ble i.bytes 32 && Nat.beq z.cells.size sz)) = true, e < 1048576 ∧ b.ver = ver ∧ sz ≠ 0 := by
      intro hc
      simp only [Bool.and_eq_true, Bool.not_eq_true'] at hc
      have hte := Nat.eq_of_beq_eq_true hc.1.2
      exact ⟨by rw [← hte]; exact Nat.mod_lt _ (by omega), Nat.eq_of_beq_eq_true hc.1.1.2, fun e0 => by rw [e0] at hc; simp at hc⟩
    have hrel : ∀ (b2 : Blk) (m w'), b2.norm = false → b.ver < b2.ver → FOk σ s.hp w0 A w b2.L → w.heap.size ≤ w'.heap.size → (∀ j, j < w.heap.size → j + 1 ≠ σ k → w'.heap[j]? = w.heap[j]?) → (m ≠ 0 → m = σ k ∨ (w.heap.size < m ∧ m ≤ w'.heap.size)) →
        w'.os = w.os → w'.tape = w.tape → w'.output = w.output → Rel ⟨fun j => if j = k then m else σ j, σ.th⟩ w0 A (s.over (set s.hp k b2)) a w' := by
      intro b2 m w' g1 g2 g3 g4 g5 g6 g7 g8 g9
      refine h.mv (fun b0 hb0 => ?_) g4 (fun j hj hne => g5 j hj (hne ⟨b, hb⟩)) (fun h0 => ?_) (fun hn => by rw [g1] at hn; cases hn) g3 g7 g8 g9
      · rw [hb] at hb0; cases hb0; exact ⟨hno, g1, g2⟩
      · rcases g6 h0 with g | g
        · subst g; have := h.place k b hb h0; exact ⟨this.1, by omega, .inr ⟨⟨b, hb⟩, rfl⟩⟩
        · have := h.below.size; exact ⟨by omega, g.2, .inl g.1⟩
    split at hr
    · rename_i hc
      simp only [Option.some.injEq] at hr
      subst hr
      obtain ⟨he, hv, hz0⟩ := hty hc
      obtain ⟨y', w', m', g1, g2, g3, g4, g5, g6, g7, g8⟩ := main hc hp.1 hp.2
      have hR := hrel ⟨bufT e (ver + 1), b.c ++ xs, b.L⟩ m' w' (buf_norm (by omega)) (by rw [buf_ver he]; omega) (h.hp k b hb).2 g3 g4 g5 g6 g7 g8
      refine wp_to g1 (hn _ () _ _ (hR.put (sv := .a k (ver + 1) sz) ⟨_, set_self _ _ _, buf_norm (by omega), by rw [buf_ver he]; exact Nat.le_refl _, fun _ => ?_⟩ hd))
      simp only [if_true, buf_ty he]
      exact g2
    · rename_i hc
      simp only [Option.some.injEq] at hr
      subst hr
      obtain ⟨he, hv, hz0⟩ := hty hc
      obtain ⟨y', w', m', g1, g2, g3, g4, g5, g6, g7, g8⟩ := main hc hp.1 hp.2
      have hR := hrel ⟨bufT e (ver + 1), [], []⟩ 0 w' (buf_norm (by omega)) (by rw [buf_ver he]; omega) .nil g3 g4 (fun h0 => absurd rfl h0) g6 g7 g8
      have hLb : FOk ⟨fun j => if j = k then 0 else σ j, σ.th⟩ (set s.hp k ⟨bufT e (ver + 1), [], []⟩) w0 A w' b.L := by
        have hf := (h.hp k b hb).2
        refine ⟨fun q hq => by rw [g4 _ (lt_of_some (hf.holds q hq)) (fun e' => hf.apart q hq k b hb e'.symm)]; exact hf.holds q hq, fun q hq k' b' hk' => ?_, hf.came, hf.free⟩
        by_cases ek : k' = k
        · simp only [ek, if_true]; omega
        · simp only [ek, if_false]
          rw [set_ne _ _ (Ne.symm ek)] at hk'
          exact hf.apart q hq k' b' hk'
      obtain ⟨x, hx1, hx2⟩ : ∃ x : FrX (b.c ++ xs), y' = .slice (frO x) (lenB (b.c ++ xs) sz) (frC sz x) ∧ FOk ⟨fun j => if j = k then 0 else σ j, σ.th⟩ (set s.hp k ⟨bufT e (ver + 1), [], []⟩) w0 A w' (frL e x) := by
        rcases g2 with ⟨q1, o', q2⟩ | ⟨q0, sp, n', cap, q1, q2, q3, q4⟩
        · have hl0 : lenB (b.c ++ xs) sz = 0 := lenB_of hz0 (by rw [q1]; simp)
          exact ⟨.inl ⟨⟨q1⟩, o'⟩, by rw [q2, hl0]; rfl, .nil⟩
        · refine ⟨.inr (m' - 1, sp), ?_, ?_, ?_, ?_, ?_⟩
          · rw [q2, lenB_of hz0 q3]
            simp only [frO, frC, q4]
            rw [Nat.mul_div_cancel _ (by omega)]
          · intro q hq
            simp only [frL, List.mem_singleton] at hq
            subst hq
            exact q1
          · intro q hq k' b' hk'
            simp only [frL, List.mem_singleton] at hq
            subst hq
            simp only
            by_cases ek : k' = k
            · simp only [ek, if_true]; omega
            · simp only [ek, if_false]
              rw [set_ne _ _ (Ne.symm ek)] at hk'
              intro e'
              rcases g5 q0 with g | g
              · exact ek (h.inj k' k b' b hk' hb (by omega) (by omega))
              · have := (h.place k' b' hk' (by omega)).2; omega
          · intro q hq
            simp only [frL, List.mem_singleton] at hq
            subst hq
            left
            simp only
            rcases g5 q0 with g | g
            · have := (h.place k b hb (by omega)).1; omega
            · have := h.below.size; omega
          · intro q hq k' q' hq'
            simp only [frL, List.mem_singleton] at hq
            subst hq
            simp only
            intro e'
            rcases g5 q0 with g | g
            · exact h.things.apart k' q' hq' k b hb (by omega)
            · have := lt_of_some (h.things.holds k' q' hq'); omega
      refine wp_to g1 (hn _ x _ _ (hR.put (sv := .v _ _) ⟨hx1, hx2.app hLb⟩ hd))
    · cases hr
  unfold ap at hr
  split at hr
  · cases hr
  rename_i hg
  refine ⟨hg, ?_⟩
  split at hr
  · rename_i X x0 e sz c
    split at hr
    case h_2 => cases hr
    rename_i L hL hk
    split at hr
    case h_2 => cases hr
    rename_i hc
    simp only [Option.some.injEq] at hr
    subst hr
    simp only [Bool.and_eq_true] at hc
    have he := blt_lt hc.1
    obtain ⟨h1, h2⟩ := h.facts hL
    have heq : execOp a.eval o = execOp s.valOf o := execOp_congr (ρ' := s.valOf) o (fun cs b e' => by have := hc.2; simp [notSel, e'] at this) (fun y hy => h1 y (by simpa using hy))
    have hrun := hp w ((h.base.sub hB).app h2).holds
    have fin : ∀ v w', (∃ x, Fresh w.heap.size w' e sz (c x) v ∧ Below w.heap.size w w') → next (a.put o.dst v) w' := by
      rintro v w' ⟨x, hf, hbe⟩
      obtain ⟨m, g1, g2⟩ := hf.buf
      have hR := h.mv (kk := s.nx + j) (m := m) (b' := ⟨bufT e 1, c x, []⟩) (fun b hb => by rw [hk] at hb; cases hb) hbe.size (fun j hj _ => hbe.block j hj) (fun h0 => ⟨by have := h.below.size; have := (g2 h0).1; omega, (g2 h0).2, .inl (g2 h0).1⟩)
        (fun hn => by rw [buf_norm (by omega)] at hn; cases hn) .nil hbe.os hbe.tape hbe.output
      refine hn _ x _ _ (hR.put (sv := .a (s.nx + j) 1 sz) ⟨_, set_self _ _ _, buf_norm (by omega), by rw [buf_ver he]; exact Nat.le_refl _, fun _ => ?_⟩ hd)
      simp only [if_true, buf_ty he]
      exact g1
    unfold Oper.wp
    rw [heq]
    unfold OpRun at hrun
    split at hrun
    · rename_i v w' hv
      rw [hv]
      exact fin v w' hrun
    · rename_i g as w' hv
      rw [hv]
      refine Calls.mono hrun ?_
      rintro e' w'' ⟨v, rfl, hv⟩
      exact fin v w'' hv
    · exact hrun.elim
  · exact app _ _ _ hr
  · exact app _ _ _ hr
  · rename_i n
    obtain ⟨dst, op, type, pos, after, guard⟩ := o
    split at hr
    case h_2 => cases hr
    rename_i op' t x y hop
    simp only at hop
    subst hop
    split at hr
    case h_2 => cases hr
    rename_i kl l Ll kc m Lm e hx hy hu
    split at hr
    case h_2 => cases hr
    rename_i i hi hk
    split at hr
    case h_2 => cases hr
    rename_i z hz
    split at hr
    case h_2 => cases hr
    rename_i z0 hc hzc
    simp only [Option.some.injEq] at hr
    subst hr
    simp only [Bool.and_eq_true] at hc
    obtain ⟨rfl, rfl, p3, p4⟩ := hp
    have h1 := (h.ev hx).1
    have h2 := (h.ev hy).1
    have hsz := Nat.eq_of_beq_eq_true hc.2
    have p5 : (i.bytes : Int) * (n : Int) ≤ 281474976710656 := by rw [← Int.natCast_mul]; omega
    have hrun := run_make (P := P) w t e i z hu hi hz kl kc n n (by omega) (Int.le_refl _) p5 (by omega)
    have hcells : madeCells z.cells ((n : Int).toNat * i.size) = (List.replicate n z0).toArray := by
      have : z.cells = #[z0] := by apply Array.ext'; simpa using hzc
      rw [this, hsz]
      apply Array.ext
      · simp [madeCells]
      · intro q g1 g2; simp [madeCells, Nat.mod_one]
    rw [hcells] at hrun
    simp only [Int.toNat_natCast] at hrun
    have hR := h.alloc (t := e) (c := (List.replicate n z0).toArray) (L := []) (k0 := s.nx + j) hk .nil
    have hex : (execOp a.eval ⟨dst, .makeSlice t x y, type, pos, after, none⟩).run P w = .ok (.value (.slice (some ⟨w.heap.size, 0, none⟩) n n)) (w.alloc (.cells (List.replicate n z0).toArray e)) := by
      simp [execOp, h1, h2, hrun]
    refine wp_to hex (hn _ () _ _ (hR.put (sv := .s (s.nx + j) 0 n n) ⟨by simp, _, set_self _ _ _, hc.1⟩ hd))
  · rename_i n xs
    obtain ⟨dst, op, type, pos, after, guard⟩ := o
    split at hr
    case h_2 => cases hr
    rename_i op' c hop
    simp only at hop
    subst hop
    obtain ⟨callee, args, argTypes⟩ := c
    split at hr
    case h_2 => cases hr
    rename_i x y t tx hcal hargs htys
    simp only at hcal
    subst hcal
    have ha : args = #[x, y] := by apply Array.ext'; simpa using hargs
    have htt : argTypes = #[t, tx] := by apply Array.ext'; simpa using htys
    subst ha htt
    split at hr
    case h_2 => cases hr
    rename_i k off len cc yv L e hx hy hu
    split at hr
    case h_2 => cases hr
    rename_i b i hb hi
    split at hr
    case h_2 => cases hr
    rename_i hc
    simp only [Option.some.injEq] at hr
    subst hr
    simp only [Bool.and_eq_true] at hc
    obtain ⟨p1, p2, p3⟩ := hp
    have h1 := (h.ev hx).1
    obtain ⟨h2, h3⟩ := h.ev hy
    have hg := ((h.hp k b hb).1 hc.1).2
    have hsz := Nat.eq_of_beq_eq_true hc.2
    have hs := p1 w ((h.base.sub hB).app h3).holds
    have hnl : xs.length = n := by rw [hs.newsLen, Nat.mul_one]
    have hmin : Nat.min n len = n := Nat.min_eq_left p2
    have hst := run_storeCells_at P (σ k - 1) off b.t xs 0 b.c.toArray w hg (by simp; omega) hs.one
    simp only [Nat.add_zero] at hst
    have hex : (execOp a.eval ⟨dst, .call ⟨.builtin .copy, #[x, y], #[t, tx]⟩, type, pos, after, none⟩).run P w = .ok (.value (.int .i64 n)) (w.setRow (σ k - 1) (setRange b.c off xs).toArray) := by
      simp [execOp, resolve, invoke, builtin, h1, h2, Builtin.copy_, run_underlying hu, sizeOf, typeInfo, hi, hsz, hs.len, hmin, hs.cells, hst, goInt, setRange]
    have hR := h.write hb hc.1 (c' := setRange b.c off xs) (L := []) .nil (w' := w.setRow (σ k - 1) (setRange b.c off xs).toArray)
      (setRow_heap w (σ k - 1) _ _ b.t (0, 0) hg) (fun j hj => setRow_other w (σ k - 1) j _ hj) (setRow_size ..) rfl rfl rfl
    exact wp_to hex (hn _ () _ _ (hR.put (sv := .v (.int .i64 n) []) ⟨rfl, .nil⟩ hd))
  · rename_i k0 X x0 ret L T'
    split at hr
    case h_2 => cases hr
    rename_i M hM hk hns
    simp only [Option.some.injEq] at hr
    subst hr
    obtain ⟨h1, h2⟩ := h.facts hM
    have heq : execOp a.eval o = execOp s.valOf o := execOp_congr (ρ' := s.valOf) o (fun cs b e' => by simp [notSel, e'] at hns) (fun y hy => h1 y (by simpa using hy))
    have hA := (h.base.sub hB).app h2
    obtain ⟨F, hTF, hsub⟩ : ∃ F, s.thing k0 F ∧ ∀ q ∈ F, q ∈ σ.th k0 := by
      unfold St.thing
      cases ht : s.th k0 with
      | none => exact ⟨[], rfl, fun _ h => by cases h⟩
      | some T => exact ⟨_, h.things.is k0 T ht, fun _ h => h⟩
    have hrun := hp w F hTF hA.holds (fun q hq => h.things.holds k0 q (hsub q hq)) (fun q hq q' hq' => hA.free q hq k0 q' (hsub q' hq'))
    have fin : ∀ v w', TPost (B ++ M) X ret L T' w F v w' → next (a.put o.dst v) w' := by
      rintro v w' ⟨x, F', rfl, g1, g2, g3, g4, g5, g6, g7⟩
      have hR0 := h.mv (kk := s.nx + j) (m := 0) (w' := w) (b' := ⟨bufT 0 1, [], []⟩) (fun b hb => by rw [hk] at hb; cases hb) (Nat.le_refl _) (fun _ _ _ => rfl) (fun h0 => absurd rfl h0) (fun hn => by rw [buf_norm (by omega)] at hn; cases hn) .nil rfl rfl rfl
      obtain ⟨hR, hf⟩ := hR0.turn (k0 := k0) (T := T' x) (F := F) (F' := F') hsub g1 g3 g6 g7
      refine hn _ x _ _ (hR.put (sv := .v (ret x) (L x)) ⟨rfl, g2, fun q hq jj b hj => ?_, fun q hq => ?_, fun q hq kk q' hq' => ?_⟩ hd)
      · rcases g5 q hq with h6 | ⟨q', h6, h7⟩
        · intro e; simp only at e; have := (hR0.place jj b hj (by simp only; omega)).2; simp only at this; omega
        · rw [← h7]
          by_cases ej : jj = s.nx + j
          · simp only [ej, if_true]; omega
          · simp only [ej, if_false]
            refine hA.apart q' h6 jj b ?_
            have hj' : set s.hp (s.nx + j) ⟨bufT 0 1, [], []⟩ jj = some b := hj
            rwa [set_ne _ _ (Ne.symm ej)] at hj'
      · rcases g5 q hq with h6 | ⟨q', h6, h7⟩
        · exact .inl (Nat.le_trans h.below.size h6)
        · rw [← h7]; exact hA.came q' h6
      · by_cases e : kk = k0
        · simp only [e, if_true] at hq'; exact g4 q hq q' hq'
        · simp only [e, if_false] at hq'
          rcases g5 q hq with h6 | ⟨q2, h6, h7⟩
          · have := lt_of_some (h.things.holds kk q' hq'); omega
          · rw [← h7]; exact hA.free q2 h6 kk q' hq'
    unfold Oper.wp
    rw [heq]
    unfold OpRunT at hrun
    split at hrun
    · rename_i v w' hv
      rw [hv]
      exact fin v w' hrun
    · rename_i g as w' hv
      rw [hv]
      refine Calls.mono hrun ?_
      rintro e' w'' ⟨v, rfl, hv⟩
      exact fin v w'' hv
    · rename_i w' hv
      rw [hv]
      exact fin undef w' hrun
    · exact hrun.elim
  · cases hr

theorem apG_some {j : Nat} {orc : Option Or} {r : Ap} (h : apG P B ops s j o orc = some r) : (ap P B s j o orc = some r ∧ ∀ k X x0 ret L T, orc ≠ some (.thg k X x0 ret L T)) ∨
    ∃ k X x0 ret L T v r', orc = some (.thg k X x0 ret L T) ∧ gdV ops s o = some v ∧ ap P B s j (Sx.Oper.bare o) orc = some r' ∧ r = ⟨gdP v r'.p, r'.X, r'.x0, r'.hp, r'.sv, r'.th⟩ := by
  unfold apG at h
  split at h
  · rename_i k X x0 ret L T
    split at h
    · rename_i v hv
      cases e : ap P B s j (Sx.Oper.bare o) (some (.thg k X x0 ret L T)) with
      | none => rw [e] at h; cases h
      | some r' =>
        rw [e] at h
        exact .inr ⟨k, X, x0, ret, L, T, v, r', rfl, hv, rfl, (Option.some.inj h).symm⟩
    · cases h
  · rename_i hne
    exact .inl ⟨h, fun k X x0 ret L T e => hne k X x0 ret L T e⟩
theorem gdP_p {v : Option Bool} {p : Prop} (h : gdP v p) : p := by
  cases v with
  | none => exact h
  | some c => exact h.2
theorem gd_wanted (h : Rel σ w0 A s a w) {v : Option Bool} (hv : gdV ops s o = some v) {p : Prop} (hp : gdP v p) : Region.wanted o (yielded ops a.tmps) = true := by
  unfold gdV at hv
  split at hv
  · rename_i hg; simp [Region.wanted, hg]
  · rename_i g want hg
    split at hv
    · rename_i d hd
      split at hv
      · rename_i b L ht
        have h1 := (h.tm d _ ht).1
        have h2 : yielded ops a.tmps g = some b := by
          unfold yielded
          rw [hd]
          simp only [Option.bind_some]
          cases e : a.tmps[d]? with
          | none => simp [Array.getD_eq_getD_getElem?, e, undef] at h1
          | some y => simp [Array.getD_eq_getD_getElem?, e] at h1; subst h1; rfl
        obtain rfl := Option.some.inj hv
        have hw : Region.wanted o (yielded ops a.tmps) = (b == want) := by
          simp [Region.wanted, hg, h2]
        exact hw.trans hp.1
      · cases hv
    · cases hv
theorem apG_sound {j : Nat} {orc : Option Or} (h : Rel σ w0 A s a w) (hB : ∀ q ∈ B, q ∈ A) (hd : ∀ t, o.dst = some t → t < s.n) {r : Ap} (hr : apG P B ops s j o orc = some r) (hp : r.p)
    (hn : ∀ σ' x a' w', Rel σ' w0 A (((s.over (r.hp x)).thr (r.th x)).put o.dst (r.sv x)) a' w' → next a' w') : Region.wanted o (yielded ops a.tmps) = true ∧ o.wp P a w next Q := by
  rcases apG_some hr with ⟨hr, _⟩ | ⟨k, X, x0, ret, L, T, v, r', _, hv, hr', rfl⟩
  · obtain ⟨h1, h2⟩ := ap_sound (Q := Q) h hB hd hr hp hn
    exact ⟨by simp [Region.wanted, h1], h2⟩
  · obtain ⟨_, h2⟩ := ap_sound (Q := Q) (o := Sx.Oper.bare o) h hB hd hr' (gdP_p hp) hn
    refine ⟨gd_wanted h hv hp, ?_⟩
    obtain ⟨dst, op, type, pos, after, guard⟩ := o
    exact h2

theorem step_sound {i : Nat} (hi : ops[i]? = some o) (h : Rel σ w0 A s a w) (hB : ∀ q ∈ B, q ∈ A) (hd : ∀ t, o.dst = some t → t < s.n) (hs : step P B ops orcs (o, i) s K)
    (hn : ∀ σ' s' a' w', Rel σ' w0 A s' a' w' → s'.n = s.n → K s' → next a' w') : wpOp P ops Q i next a w := by
  unfold step at hs
  simp only at hs
  split at hs
  · unfold mem at hs
    split at hs
    case h_2 => exact hs.elim
    rename_i s1 hs1
    obtain ⟨h1, h2⟩ := mem_sound (Q := Q) h hd hs1 fun σ' a' w' hr hn' => hn σ' s1 a' w' hr hn' hs
    unfold wpOp
    simp only [hi]
    rw [if_pos (by simp [Region.wanted, h1])]
    exact .inl h2
  · cases hr : apG P B ops s i o (orcs.at i) with
    | none => rw [hr] at hs; exact hs.elim
    | some r =>
      rw [hr] at hs
      obtain ⟨h1, h2⟩ := apG_sound (Q := Q) h hB hd hr hs.1 fun σ' x a' w' hR => hn σ' _ a' w' hR (put_n _ _ _) (hs.2 x)
      unfold wpOp
      simp only [hi]
      rw [if_pos h1]
      exact .inl h2
  · exact grd_sound hi h hB hs fun sv x w' hk hx hb => hn σ _ _ _ ((h.grow hb).put hx hd) (put_n _ _ _) hk

theorem step_mono {q : Oper × Nat} (hs : step P B ops orcs q s K) (hk : ∀ s', K s' → K' s') : step P B ops orcs q s K' := by
  unfold step at *
  split
  · rename_i e
    rw [e] at hs
    simp only [mem] at hs ⊢
    split at hs
    · exact hk _ hs
    · exact hs.elim
  · rename_i e e'
    rw [e, e'] at hs
    simp only at hs ⊢
    cases hr : apG P B ops s q.2 q.1 (orcs.at q.2) with
    | none => rw [hr] at hs; exact hs.elim
    | some r => rw [hr] at hs; exact ⟨hs.1, fun x => hk _ (hs.2 x)⟩
  · rename_i e e'
    rw [e, e'] at hs
    exact Rd.wp_mono hs fun sv h => hk _ h

theorem memC_mem {j : Nat} {t : TypeId} {a x : Operand} {K : St → Prop} (e : o.op = .store t a x) (h : memC P s o t a x K) : mem P s j o K := by
  unfold memC at h
  split at h
  · exact h.elim
  rename_i hg
  split at h
  · rename_i k off y L i h1 h2 h3
    split at h
    · rename_i b hb
      split at h
      · rename_i hc
        have : memSt P s j o = some ((s.over (set s.hp k { b with c := setRange b.c off y.cells.toList, L := L ++ b.L })).put o.dst (.v undef [])) := by
          unfold memSt
          rw [hg]
          simp only [e, h1, h2, h3, hb]
          simp only [Bool.and_eq_true] at hc
          rw [hc.1.1, hc.1.2, hc.2, Nat.ble_eq_true_of_le h.1]
          rfl
        unfold mem
        rw [this]
        exact h.2
      · exact h.elim
    · exact h.elim
  · exact h.elim
theorem ldC_step {q : Oper × Nat} {t : TypeId} {a : Operand} {x : Value} (e : q.1.op = .load t a) (ho : orcs.at q.2 = some (.ld x)) (h : ldC P s q.1 t a x K (step P B ops orcs q s K)) : step P B ops orcs q s K := by
  obtain ⟨⟨dst, op, type, pos, after, guard⟩, j⟩ := q
  simp only at e ho h
  subst e
  unfold ldC at h
  split at h
  · exact h
  rename_i hg
  simp only at hg
  subst hg
  split at h
  · rename_i k off h1
    split at h
    · rename_i b hb
      split at h
      · rename_i hn
        have u : useAp orcs (⟨dst, .load t a, type, pos, after, none⟩, j) = false := by
          simp only [useAp, isThg, ho, Bool.and_false, Bool.or_false]
        simp only [step, isMemO, isMem, Bool.false_and, u, grd, rd, ho, rd0, h1, hb, hn, h.1]
        exact h.2
      · exact h.elim
    · exact h.elim
  · exact h
theorem ixC_step {q : Oper × Nat} {t : TypeId} {a ix : Operand} {x : Value} (e : q.1.op = .index t a ix) (ho : orcs.at q.2 = some (.ld x)) (h : ixC P s q.1 t a ix x K (step P B ops orcs q s K)) : step P B ops orcs q s K := by
  obtain ⟨⟨dst, op, type, pos, after, guard⟩, j⟩ := q
  simp only at e ho h
  subst e
  unfold ixC at h
  split at h
  · exact h
  rename_i hg
  simp only at hg
  subst hg
  split at h
  · rename_i cs L kd i M h1 h2
    split at h
    · rename_i len el hu
      split at h
      · rename_i inf hi
        have u : useAp orcs (⟨dst, .index t a ix, type, pos, after, none⟩, j) = false := by
          simp only [useAp, isThg, ho, Bool.and_false, Bool.or_false]
        simp only [step, isMemO, isMem, Bool.false_and, u, grd, rd, ho, rd0, h1, h2, hu, hi, h.2.1]
        exact ⟨h.1, h.2.2⟩
      · exact h.elim
    · exact h.elim
  · exact h
theorem stepC_step {q : Oper × Nat} (h : stepC P B ops orcs q s K) : step P B ops orcs q s K := by
  unfold stepC at h
  split at h
  · split at h
    · rename_i ho _ t a x e
      have m : isMemO orcs q = true := by simp only [isMemO, isThg, ho, Bool.not_false, Bool.and_true, isMem, e]
      have := memC_mem (j := q.2) e h
      unfold step
      split
      · exact this
      · rename_i e1 _; rw [m] at e1; cases e1
      · rename_i e1 _; rw [m] at e1; cases e1
    · exact h
  · rename_i x ho
    split at h
    · rename_i t a e; exact ldC_step e ho h
    · rename_i t a ix e; exact ixC_step e ho h
    · exact h
  · exact h
theorem stepsC_steps : ∀ (l : List (Oper × Nat)) (s : St) (K : St → Prop), stepsC P B ops orcs l s K → steps P B ops orcs l s K
  | [], _, _, h => h
  | _ :: r, _, K, h => step_mono (stepC_step h) fun s' h' => stepsC_steps r s' K h'

theorem steps_seq (hB : ∀ q ∈ B, q ∈ A) (hQ : ∀ σ' s' a' w', Rel σ' w0 A s' a' w' → s'.n = s.n → K s' → Q .normal a' w') :
    ∀ (l : List (Oper × Nat)) (σ : Pl) (s' : St) (a : Act) (w : World), (∀ q ∈ l, ops[q.2]? = some q.1 ∧ ∀ t, q.1.dst = some t → t < s.n) → s'.n = s.n → Rel σ w0 A s' a w → steps P B ops orcs l s' K → wpOps P ops Q (l.map (·.2)) a w
  | [], σ, s', a, w, _, hsn, h, hs => hQ σ s' a w h hsn hs
  | (o, i) :: r, σ, s', a, w, hl, hsn, h, hs => by
    simp only [List.map_cons, wpOps_cons]
    have h1 := hl (o, i) (by simp)
    refine step_sound h1.1 h hB (fun t ht => by rw [hsn]; exact h1.2 t ht) hs fun σ2 s2 a2 w2 hr hn hk => ?_
    exact steps_seq hB hQ r σ2 s2 a2 w2 (fun q hq => hl q (by simp [hq])) (hn.trans hsn) hr hk
end

section
variable {P : Program} {B : Facts} {ops : Array Oper} {o : Oper} {orcs : Ors} {s s' : St} {K : St → Prop} {k' : SV → Prop} {orc : Option Or}

theorem valOf_congr {x : Operand} (h : s'.ev x = s.ev x) : s'.valOf x = s.valOf x := by unfold St.valOf; rw [h]

theorem factsOf_congr : ∀ {l : List Operand}, (∀ x ∈ l, s'.ev x = s.ev x) → s'.factsOf l = s.factsOf l
  | [], _ => rfl
  | x :: r, h => by unfold St.factsOf; rw [h x (by simp), factsOf_congr fun y hy => h y (by simp [hy])]

theorem partsOf_congr : ∀ {l : List (Nat × Operand)}, (∀ q ∈ l, s'.ev q.2 = s.ev q.2) → s'.partsOf l = s.partsOf l
  | [], _ => rfl
  | (i, x) :: r, h => by unfold St.partsOf; rw [h (i, x) (by simp), partsOf_congr fun y hy => h y (by simp [hy])]

theorem plain_congr (hs : ∀ cs b, o.op ≠ .select cs b) (he : ∀ x ∈ o.op.operands, s'.ev x = s.ev x) : rdPlain P s' o = rdPlain P s o := by
  unfold rdPlain
  rw [factsOf_congr (s := s) fun x hx => he x (by simpa using hx), execOp_congr (ρ := s'.valOf) (ρ' := s.valOf) o hs fun x hx => valOf_congr (he x hx)]

theorem gen_congr (hs : ∀ cs b, o.op ≠ .select cs b) (he : ∀ x ∈ o.op.operands, s'.ev x = s.ev x) : rdGen P B s' o orc = rdGen P B s o orc := by
  unfold rdGen
  rw [plain_congr (P := P) hs he, factsOf_congr (s := s) fun x hx => he x (by simpa using hx), execOp_congr (ρ := s'.valOf) (ρ' := s.valOf) o hs fun x hx => valOf_congr (he x hx)]

theorem rd0_congr (hs : ∀ cs b, o.op ≠ .select cs b) (hh : ∀ x ∈ o.op.operands, ∀ sv k, s.ev x = some sv → sv.key = some k → s'.hp k = s.hp k) (he : ∀ x ∈ o.op.operands, s'.ev x = s.ev x) : rd0 P B s' o orc = rd0 P B s o orc := by
  have hp := gen_congr (P := P) (B := B) (orc := orc) hs he
  obtain ⟨dst, op, type, pos, after, guard⟩ := o
  cases op
  case call c =>
    obtain ⟨callee, args, argTypes⟩ := c
    cases callee with
    | value f =>
      have ha : ∀ x ∈ args.toList, s'.ev x = s.ev x := fun x hx => he x (by simp only [Op.operands, Call.operands]; exact Array.mem_append.2 (.inr (by simpa using hx)))
      have hm : args.toList.map s'.valOf = args.toList.map s.valOf := List.map_congr_left fun x hx => valOf_congr (ha x hx)
      cases f <;> simp only [rd0]
      rw [factsOf_congr ha, hm]
    | invoke r m => rfl
    | builtin b =>
      have ha : ∀ x ∈ args.toList, s'.ev x = s.ev x := fun x hx => he x (by simp only [Op.operands, Call.operands]; exact Array.mem_append.2 (.inr (by simpa using hx)))
      cases b <;> simp only [rd0] <;> first | exact hp | skip
      rcases argTypes.toList with _ | ⟨t, _ | ⟨t2, ts⟩⟩ <;> rcases hl : args.toList with _ | ⟨x, _ | ⟨y, r⟩⟩ <;> try rfl
      have hx : x ∈ args.toList := by rw [hl]; simp
      have h2 := hh x (by simp only [Op.operands, Call.operands]; exact Array.mem_append.2 (.inr (by simpa using hx)))
      simp only [ha x hx]
      cases hev : s.ev x with
      | none =>
        cases P.underlying t with
        | none => rfl
        | some d => cases d <;> rfl
      | some sv =>
        cases sv with
        | a k ver sz =>
          have e := h2 _ k hev rfl
          cases P.underlying t with
          | none => rfl
          | some d => cases d <;> first | rfl | simp only [e]
        | v y L =>
          cases P.underlying t with
          | none => rfl
          | some d => cases d <;> first | rfl | (cases y <;> rfl)
        | p k off =>
          cases P.underlying t with
          | none => rfl
          | some d => cases d <;> rfl
        | s k off n c =>
          cases P.underlying t with
          | none => rfl
          | some d => cases d <;> rfl
  case build t ps =>
    have hq : s'.partsOf ps.toList = s.partsOf ps.toList := partsOf_congr fun q hq => he q.2 (by
      simp only [Op.operands]
      simp only [List.mem_toArray]
      exact List.mem_map.2 ⟨q, hq, rfl⟩)
    simp only [rd0, hq, hp]
  case binOp op t x y yt =>
    have h1 := he x (by simp [Op.operands])
    have h2 := he y (by simp [Op.operands])
    simp only [rd0, h1, h2, hp]
  case move x => simp only [rd0, he x (by simp [Op.operands])]
  case assign x => simp only [rd0, he x (by simp [Op.operands])]
  case pick c x y => simp only [rd0, he c (by simp [Op.operands]), he x (by simp [Op.operands]), he y (by simp [Op.operands])]
  case load t x =>
    have h1 := he x (by simp [Op.operands])
    have h2 := hh x (by simp [Op.operands])
    simp only [rd0, h1]
    cases hx : s.ev x with
    | none => rfl
    | some sv =>
      cases sv with
      | v y L =>
        cases y with
        | pointer ad => cases ad <;> rfl
        | _ => rfl
      | p k off => simp only [h2 _ k hx rfl]
      | s k off n c => rfl
      | a k ver sz => rfl
  case fieldAddr t x f => simp only [rd0, he x (by simp [Op.operands]), hp]
  case indexAddr t x y => simp only [rd0, he x (by simp [Op.operands]), he y (by simp [Op.operands]), hp]
  case field t x f => simp only [rd0, he x (by simp [Op.operands])]
  case index t x y => simp only [rd0, he x (by simp [Op.operands]), he y (by simp [Op.operands])]
  case slice t x lo hi mx =>
    have h1 := he x (by simp [Op.operands])
    have h2 : ∀ d, s'.bound lo d = s.bound lo d := fun d => by
      cases lo with
      | none => rfl
      | some y => simp only [St.bound, he y (by simp [Op.operands])]
    have h3 : ∀ d, s'.bound hi d = s.bound hi d := fun d => by
      cases hi with
      | none => rfl
      | some y => simp only [St.bound, he y (by simp [Op.operands])]
    simp only [rd0, h1, h2, h3, hp]
  case alloc => rfl
  case box => rfl
  case store => rfl
  case go => rfl
  case defer => rfl
  case select => rfl
  all_goals (simp only [rd0]; exact hp)

theorem rd_of (hs : ∀ cs b, o.op ≠ .select cs b) (he : ∀ x ∈ o.op.operands, s'.ev x = s.ev x) (ht : s'.th = s.th) (h0 : rd0 P B s' o orc = rd0 P B s o orc) : rd P B s' o orc = rd P B s o orc := by
  have hF : s'.factsOf o.op.operands.toList = s.factsOf o.op.operands.toList := factsOf_congr fun x hx => he x (by simpa using hx)
  have hE : execOp s'.valOf o = execOp s.valOf o := execOp_congr o hs fun x hx => valOf_congr (he x hx)
  unfold rd
  split
  · unfold rdThing
    rw [hF, ht, hE]
  · exact h0
theorem rd_congr (hs : ∀ cs b, o.op ≠ .select cs b) (hh : ∀ x ∈ o.op.operands, ∀ sv k, s.ev x = some sv → sv.key = some k → s'.hp k = s.hp k) (he : ∀ x ∈ o.op.operands, s'.ev x = s.ev x) (ht : s'.th = s.th) : rd P B s' o orc = rd P B s o orc :=
  rd_of hs he ht (rd0_congr hs hh he)

theorem ev_put {d : Option Tmp} {sv : SV} {x : Operand} (h : ∀ t, d = some t → x ≠ .tmp t) : (s.put d sv).ev x = s.ev x := by
  cases d with
  | none => rfl
  | some d =>
    cases x with
    | tmp t =>
      have : d ≠ t := fun e => h d rfl (e ▸ rfl)
      exact set_ne _ _ this
    | _ => rfl

theorem put_hp {d : Option Tmp} {sv : SV} : (s.put d sv).hp = s.hp := by cases d <;> rfl

theorem grd_put (hs : ∀ cs b, o.op ≠ .select cs b) {d : Option Tmp} {sv : SV} (h : ∀ t, d = some t → t ∉ o.looksAt ops) : grd P B ops (s.put d sv) o orc = grd P B ops s o orc := by
  have hr : ∀ orc, rd P B (s.put d sv) o orc = rd P B s o orc := fun orc => rd_congr hs (fun _ _ _ _ _ _ => by rw [put_hp]) (fun x hx => ev_put fun t ht e => h t ht (by
    subst e
    exact List.mem_append_left _ (List.mem_filterMap.2 ⟨.tmp t, by simpa using hx, rfl⟩))) (by cases d <;> rfl)
  unfold grd
  rw [hr, hr]
  cases hg : o.guard with
  | none => rfl
  | some gw =>
    obtain ⟨g, want⟩ := gw
    simp only
    cases ht : (ops[g]?).bind (·.dst) with
    | none => rfl
    | some t =>
      have : (s.put d sv).tm t = s.tm t := by
        cases d with
        | none => rfl
        | some d =>
          have hne : d ≠ t := fun e => h d rfl (by subst e; simp [Oper.looksAt, hg, ht])
          exact set_ne _ _ hne
      simp only [this]

theorem put_comm {d e : Option Tmp} {x y : SV} (h : ∀ t, d = some t → e ≠ some t) : (s.put d x).put e y = (s.put e y).put d x := by
  cases d with
  | none => rfl
  | some d =>
    cases e with
    | none => rfl
    | some e =>
      have hne : d ≠ e := fun h' => h d rfl (h' ▸ rfl)
      simp only [St.put]
      congr 1
      funext j
      by_cases h1 : d = j <;> by_cases h2 : e = j
      · exact absurd (h1.trans h2.symm) hne
      · subst h1; rw [set_ne _ _ h2, set_self, set_self]
      · subst h2; rw [set_self, set_ne _ _ h1, set_self]
      · rw [set_ne _ _ h2, set_ne _ _ h1, set_ne _ _ h1, set_ne _ _ h2]

theorem sel_of {o : Oper} (h : notSel o = true) : ∀ cs b, o.op ≠ .select cs b := fun cs b e => by simp [notSel, e] at h

/-- The slots' addresses lie in blocks that are there. -/
def Wf (s : St) : Prop := ∀ i sv k, s.tm i = some sv → sv.key = some k → ∃ b, s.hp k = some b
def Live (s : St) (sv : SV) : Prop := ∀ k, sv.key = some k → ∃ b, s.hp k = some b
theorem live_v {x : Value} {L : Facts} : Live s (.v x L) := fun _ h => by cases h

theorem Wf.ev (h : Wf s) {x : Operand} {sv : SV} (hx : s.ev x = some sv) : Live s sv := by
  cases x with
  | tmp t => exact fun k hk => h t sv k hx hk
  | const y => simp only [St.ev, Option.some.injEq] at hx; subst hx; exact live_v
  | global g => simp only [St.ev, Option.some.injEq] at hx; subst hx; exact live_v
  | func f => simp only [St.ev, Option.some.injEq] at hx; subst hx; exact live_v

theorem Wf.put (h : Wf s) {d : Option Tmp} {sv : SV} (hv : Live s sv) : Wf (s.put d sv) := by
  cases d with
  | none => exact h
  | some d =>
    intro i sv' k hi hk
    by_cases e : d = i
    · subst e
      simp only [St.put, set_self, Option.some.injEq] at hi
      subst hi
      exact hv k hk
    · simp only [St.put, set_ne _ _ e] at hi
      exact h i sv' k hi hk

theorem gen_live (hp : (rdPlain P s o).wp k' → (rdPlain P s o).wp fun sv => k' sv ∧ Live s sv) (hr : (rdGen P B s o orc).wp k') : (rdGen P B s o orc).wp fun sv => k' sv ∧ Live s sv := by
  unfold rdGen at *
  split at hr
  · split at hr
    · exact ⟨hr.1, hr.2, live_v⟩
    · exact hr.elim
  · split at hr
    · exact ⟨hr.1, fun x => ⟨hr.2 x, live_v⟩⟩
    · exact hr.elim
  · exact hp hr

theorem plain_live (hr : (rdPlain P s o).wp k') : (rdPlain P s o).wp fun sv => k' sv ∧ Live s sv := by
  unfold rdPlain at *
  repeat' split at hr
  all_goals first | exact ⟨hr, live_v⟩ | exact hr.elim

theorem rd0_live (h : Wf s) (hr : (rd0 P B s o orc).wp k') : (rd0 P B s o orc).wp fun sv => k' sv ∧ Live s sv := by
  obtain ⟨dst, op, type, pos, after, guard⟩ := o
  cases op
  case move x =>
    simp only [rd0] at *
    split at hr
    · rename_i sv hx; exact ⟨hr, h.ev hx⟩
    · exact hr.elim
  case assign x =>
    simp only [rd0] at *
    split at hr
    · rename_i sv hx; exact ⟨hr, h.ev hx⟩
    · exact hr.elim
  case pick c x y =>
    simp only [rd0] at *
    split at hr
    · rename_i t L hc
      split at hr
      · split at hr
        · rename_i sv hx; exact ⟨hr.1, hr.2, h.ev hx⟩
        · exact hr.elim
      · split at hr
        · rename_i sv hx; exact ⟨hr.1, hr.2, h.ev hx⟩
        · exact hr.elim
      · split at hr
        · rename_i sv hx
          refine ⟨hr, ?_⟩
          cases t <;> exact h.ev hx
        · exact hr.elim
      · split at hr
        · rename_i sv hx; exact ⟨hr.1, hr.2, h.ev hx⟩
        · exact hr.elim
    · exact hr.elim
  case load t x =>
    simp only [rd0] at *
    repeat' split at hr
    all_goals first | exact ⟨hr, live_v⟩ | exact ⟨hr.1, hr.2, live_v⟩ | exact hr.elim
  case fieldAddr t x f =>
    simp only [rd0] at *
    split at hr
    · rename_i k off hx
      split at hr
      · split at hr
        · split at hr
          · rename_i i hi
            cases hz : Nat.beq i.size 0 with
            | true => rw [hz] at hr; exact hr.elim
            | false => rw [hz] at hr; exact ⟨hr, (h.ev hx : Live s (.p k off))⟩
          · exact hr.elim
        · exact hr.elim
      · exact hr.elim
    · exact gen_live plain_live hr
    · exact hr.elim
  case indexAddr t x ix =>
    simp only [rd0] at *
    split at hr
    · rename_i k off kd i L hx hi
      split at hr
      · split at hr
        · exact ⟨hr.1, hr.2, (h.ev hx : Live s (.p k off))⟩
        · exact hr.elim
      · exact hr.elim
    · split at hr
      · split at hr
        · exact ⟨hr.1, hr.2, live_v⟩
        · exact hr.elim
      · exact hr.elim
    · rename_i k off n c kd i L hx hi
      split at hr
      · split at hr
        · exact ⟨hr.1, hr.2, (h.ev hx : Live s (.s k off n c))⟩
        · exact hr.elim
      · exact hr.elim
    · exact gen_live plain_live hr
  case index t x ix =>
    simp only [rd0] at *
    repeat' split at hr
    all_goals first | exact ⟨hr.1, hr.2, live_v⟩ | exact hr.elim
  case slice t x lo hi mx =>
    simp only [rd0] at *
    split at hr
    · repeat' split at hr
      all_goals first | exact ⟨hr.1, hr.2, live_v⟩ | exact hr.elim
    · repeat' split at hr
      all_goals first | exact ⟨hr.1, hr.2, live_v⟩ | exact hr.elim
    · exact gen_live plain_live hr
  case build t ps =>
    simp only [rd0] at *
    split at hr
    · exact gen_live plain_live hr
    · repeat' split at hr
      all_goals first | exact ⟨hr, live_v⟩ | exact hr.elim
  case field t x f =>
    simp only [rd0] at *
    repeat' split at hr
    all_goals first | exact ⟨hr, live_v⟩ | exact hr.elim
  case binOp op t x y yt =>
    simp only [rd0] at *
    split at hr
    all_goals first | exact ⟨hr.1, hr.2, live_v⟩ | exact gen_live plain_live hr
  case call c =>
    simp only [rd0] at *
    repeat' split at hr
    all_goals first | exact ⟨hr.1, fun x => ⟨hr.2 x, live_v⟩⟩ | exact ⟨hr, live_v⟩ | exact hr.elim | exact gen_live plain_live hr
  case alloc => exact hr.elim
  case box => exact hr.elim
  case store => exact hr.elim
  case go => exact hr.elim
  case defer => exact hr.elim
  case select => exact hr.elim
  all_goals (simp only [rd0] at *; exact gen_live plain_live hr)

/-- What is asked of the blocks that slots lead to. -/
def KeyP (p : Nat → Prop) (sv : SV) : Prop := ∀ k, sv.key = some k → p k
theorem keyP_v {p : Nat → Prop} {x : Value} {L : Facts} : KeyP p (.v x L) := fun _ h => by cases h
theorem gen_keys {p : Nat → Prop} (hp : (rdPlain P s o).wp k' → (rdPlain P s o).wp fun sv => k' sv ∧ KeyP p sv) (hr : (rdGen P B s o orc).wp k') : (rdGen P B s o orc).wp fun sv => k' sv ∧ KeyP p sv := by
  unfold rdGen at *
  split at hr
  · split at hr
    · exact ⟨hr.1, hr.2, keyP_v⟩
    · exact hr.elim
  · split at hr
    · exact ⟨hr.1, fun x => ⟨hr.2 x, keyP_v⟩⟩
    · exact hr.elim
  · exact hp hr
theorem plain_keys {p : Nat → Prop} (hr : (rdPlain P s o).wp k') : (rdPlain P s o).wp fun sv => k' sv ∧ KeyP p sv := by
  unfold rdPlain at *
  repeat' split at hr
  all_goals first | exact ⟨hr, keyP_v⟩ | exact hr.elim
theorem rd0_keys {p : Nat → Prop} (h : ∀ x ∈ o.op.operands, ∀ sv, s.ev x = some sv → KeyP p sv) (hr : (rd0 P B s o orc).wp k') : (rd0 P B s o orc).wp fun sv => k' sv ∧ KeyP p sv := by
  obtain ⟨dst, op, type, pos, after, guard⟩ := o
  cases op
  case move x =>
    simp only [rd0] at *
    split at hr
    · rename_i sv hx; exact ⟨hr, h _ (by simp [Op.operands]) _ hx⟩
    · exact hr.elim
  case assign x =>
    simp only [rd0] at *
    split at hr
    · rename_i sv hx; exact ⟨hr, h _ (by simp [Op.operands]) _ hx⟩
    · exact hr.elim
  case pick c x y =>
    simp only [rd0] at *
    split at hr
    · rename_i t L hc
      split at hr
      · split at hr
        · rename_i sv hx; exact ⟨hr.1, hr.2, h _ (by simp [Op.operands]) _ hx⟩
        · exact hr.elim
      · split at hr
        · rename_i sv hx; exact ⟨hr.1, hr.2, h _ (by simp [Op.operands]) _ hx⟩
        · exact hr.elim
      · split at hr
        · rename_i sv hx
          refine ⟨hr, ?_⟩
          cases t <;> exact h _ (by simp [Op.operands]) _ hx
        · exact hr.elim
      · split at hr
        · rename_i sv hx; exact ⟨hr.1, hr.2, h _ (by simp [Op.operands]) _ hx⟩
        · exact hr.elim
    · exact hr.elim
  case load t x =>
    simp only [rd0] at *
    repeat' split at hr
    all_goals first | exact ⟨hr, keyP_v⟩ | exact ⟨hr.1, hr.2, keyP_v⟩ | exact hr.elim
  case fieldAddr t x f =>
    simp only [rd0] at *
    split at hr
    · rename_i k off hx
      split at hr
      · split at hr
        · split at hr
          · rename_i i hi
            cases hz : Nat.beq i.size 0 with
            | true => rw [hz] at hr; exact hr.elim
            | false => rw [hz] at hr; exact ⟨hr, (h _ (by simp [Op.operands]) _ hx : KeyP p (.p k off))⟩
          · exact hr.elim
        · exact hr.elim
      · exact hr.elim
    · exact gen_keys plain_keys hr
    · exact hr.elim
  case indexAddr t x ix =>
    simp only [rd0] at *
    split at hr
    · rename_i k off kd i L hx hi
      split at hr
      · split at hr
        · exact ⟨hr.1, hr.2, (h _ (by simp [Op.operands]) _ hx : KeyP p (.p k off))⟩
        · exact hr.elim
      · exact hr.elim
    · split at hr
      · split at hr
        · exact ⟨hr.1, hr.2, keyP_v⟩
        · exact hr.elim
      · exact hr.elim
    · rename_i k off n c kd i L hx hi
      split at hr
      · split at hr
        · exact ⟨hr.1, hr.2, (h _ (by simp [Op.operands]) _ hx : KeyP p (.s k off n c))⟩
        · exact hr.elim
      · exact hr.elim
    · exact gen_keys plain_keys hr
  case index t x ix =>
    simp only [rd0] at *
    repeat' split at hr
    all_goals first | exact ⟨hr.1, hr.2, keyP_v⟩ | exact hr.elim
  case slice t x lo hi mx =>
    simp only [rd0] at *
    split at hr
    · repeat' split at hr
      all_goals first | exact ⟨hr.1, hr.2, keyP_v⟩ | exact hr.elim
    · repeat' split at hr
      all_goals first | exact ⟨hr.1, hr.2, keyP_v⟩ | exact hr.elim
    · exact gen_keys plain_keys hr
  case build t ps =>
    simp only [rd0] at *
    split at hr
    · exact gen_keys plain_keys hr
    · repeat' split at hr
      all_goals first | exact ⟨hr, keyP_v⟩ | exact hr.elim
  case field t x f =>
    simp only [rd0] at *
    repeat' split at hr
    all_goals first | exact ⟨hr, keyP_v⟩ | exact hr.elim
  case binOp op t x y yt =>
    simp only [rd0] at *
    split at hr
    all_goals first | exact ⟨hr.1, hr.2, keyP_v⟩ | exact gen_keys plain_keys hr
  case call c =>
    simp only [rd0] at *
    repeat' split at hr
    all_goals first | exact ⟨hr.1, fun x => ⟨hr.2 x, keyP_v⟩⟩ | exact ⟨hr, keyP_v⟩ | exact hr.elim | exact gen_keys plain_keys hr
  case alloc => exact hr.elim
  case box => exact hr.elim
  case store => exact hr.elim
  case go => exact hr.elim
  case defer => exact hr.elim
  case select => exact hr.elim
  all_goals (simp only [rd0] at *; exact gen_keys plain_keys hr)

theorem rd_keys {p : Nat → Prop} (h : ∀ x ∈ o.op.operands, ∀ sv, s.ev x = some sv → KeyP p sv) (hr : (rd P B s o orc).wp k') : (rd P B s o orc).wp fun sv => k' sv ∧ KeyP p sv := by
  unfold rd at *
  split at hr
  · unfold rdThing at *
    split at hr
    · exact ⟨hr.1, fun x => ⟨hr.2 x, keyP_v⟩⟩
    · exact hr.elim
  · exact rd0_keys h hr
theorem rd_live (h : Wf s) (hr : (rd P B s o orc).wp k') : (rd P B s o orc).wp fun sv => k' sv ∧ Live s sv := by
  unfold rd at *
  split at hr
  · unfold rdThing at *
    split at hr
    · exact ⟨hr.1, fun x => ⟨hr.2 x, live_v⟩⟩
    · exact hr.elim
  · exact rd0_live h hr
theorem under_live {q : Prop} {r : Rd} {k k2 : SV → Prop} (h : (r.under q).wp k) (hl : r.wp k → r.wp k2) : (r.under q).wp k2 := by
  cases r with
  | ret s => exact ⟨h.1, hl h.2⟩
  | chk p s => exact ⟨h.1, (hl ⟨h.1.2, h.2⟩).2⟩
  | many p X x0 out => exact ⟨h.1, (hl ⟨h.1.2, h.2⟩).2⟩
  | bad => exact h

theorem grd_live (h : Wf s) (hr : (grd P B ops s o orc).wp k') : (grd P B ops s o orc).wp fun sv => k' sv ∧ Live s sv := by
  unfold grd at *
  split at hr
  · exact rd_live h hr
  · split at hr
    · split at hr
      · rename_i b L ht
        split at hr
        · exact ⟨hr.1, hr.2, live_v⟩
        · rename_i want _ _ _ _
          revert hr
          cases (b == _) with
          | true => exact fun hr => rd_live (orc := none) h hr
          | false => exact fun hr => ⟨hr, live_v⟩
        · exact under_live hr (rd_live h)
      · exact ⟨hr, live_v⟩
      · exact hr.elim
    · exact hr.elim

theorem new_hp {i : Nat} {d : Option Tmp} {b : Blk} {s1 : St} (h : s.new i d b = some s1) : s.hp (s.nx + i) = none ∧ s1 = (s.over (set s.hp (s.nx + i) b)).put d (.p (s.nx + i) 0) := by
  unfold St.new at h
  split at h
  · rename_i hk; simp only [Option.some.injEq] at h; exact ⟨hk, h.symm⟩
  · cases h

theorem Wf.over (h : Wf s) {k : Nat} {b : Blk} : Wf (s.over (set s.hp k b)) := fun i sv k' hi hk => by
  by_cases e : k = k'
  · subst e; exact ⟨b, set_self _ _ _⟩
  · obtain ⟨b', hb'⟩ := h i sv k' hi hk
    exact ⟨b', by simp only [St.over]; rw [set_ne _ _ e]; exact hb'⟩

theorem new_wf (h : Wf s) {i : Nat} {d : Option Tmp} {b : Blk} {s1 : St} (hs : s.new i d b = some s1) : Wf s1 := by
  obtain ⟨hk, rfl⟩ := new_hp hs
  refine Wf.put h.over fun k hk => ?_
  simp only [SV.key, Option.some.injEq] at hk
  subst hk
  exact ⟨b, set_self _ _ _⟩

theorem memSt_wf (h : Wf s) {j : Nat} {s1 : St} (hs : memSt P s j o = some s1) : Wf s1 := by
  unfold memSt at hs
  split at hs
  · cases hs
  · split at hs
    · split at hs
      · rename_i k off y L i hx hy hi
        split at hs
        · rename_i b hb
          revert hs
          cases (_ && _ && _ : Bool) with
          | false => intro hs; cases hs
          | true =>
            intro hs
            simp only [cond_true, Option.some.injEq] at hs
            subst hs
            exact Wf.put h.over live_v
        · cases hs
      · cases hs
    · split at hs
      · exact new_wf h hs
      · cases hs

theorem ap_wf {j : Nat} {r : Ap} (hs : ap P B s j o orc = some r) (x : r.X) : ∃ k b, r.hp x = set s.hp k b ∧ (∀ k', (r.sv x).key = some k' → k' = k) ∧ ((isApp o = true ∨ ∃ k X x0 ret L T, orc = some (.thg k X x0 ret L T)) → s.hp k = none ∨ ∃ b0, s.hp k = some b0 ∧ b0.norm = false ∧ b.norm = false) := by
  have app : ∀ n xs out, apOn P B s o n xs out = some r → ∃ k b, r.hp x = set s.hp k b ∧ (∀ k', (r.sv x).key = some k' → k' = k) ∧ ((isApp o = true ∨ ∃ k X x0 ret L T, orc = some (.thg k X x0 ret L T)) → s.hp k = none ∨ ∃ b0, s.hp k = some b0 ∧ b0.norm = false ∧ b.norm = false) := by
    intro n xs out hr
    unfold apOn at hr
    repeat' split at hr
    all_goals first | (cases hr; done) | skip
    all_goals (simp only [Option.some.injEq] at hr; subst hr)
    · rename_i b i hb hi _ z hz _ _ hc
      simp only [Bool.and_eq_true, Bool.not_eq_true'] at hc
      exact ⟨_, _, rfl, fun k' hk => by simp only [SV.key, Option.some.injEq] at hk; exact hk.symm, fun _ => .inr ⟨b, hb, hc.1.1.1, buf_norm (by omega)⟩⟩
    · rename_i b i hb hi _ z hz _ _ hc
      simp only [Bool.and_eq_true, Bool.not_eq_true'] at hc
      exact ⟨_, _, rfl, fun k' hk => (by cases hk), fun _ => .inr ⟨b, hb, hc.1.1.1, buf_norm (by omega)⟩⟩
  unfold ap at hs
  split at hs
  · cases hs
  split at hs
  · repeat' split at hs
    all_goals first | (cases hs; done) | skip
    simp only [Option.some.injEq] at hs
    subst hs
    exact ⟨_, _, rfl, fun k' hk => by simp only [SV.key, Option.some.injEq] at hk; exact hk.symm, fun _ => .inl (by assumption)⟩
  · exact app _ _ _ hs
  · exact app _ _ _ hs
  · repeat' split at hs
    all_goals first | (cases hs; done) | skip
    simp only [Option.some.injEq] at hs
    subst hs
    exact ⟨_, _, rfl, fun k' hk => by simp only [SV.key, Option.some.injEq] at hk; exact hk.symm, fun _ => .inl (by assumption)⟩
  · obtain ⟨dst, op, type, pos, after, guard⟩ := o
    split at hs
    case h_2 => cases hs
    rename_i op' c hop
    simp only at hop
    subst hop
    obtain ⟨callee, args, argTypes⟩ := c
    split at hs
    case h_2 => cases hs
    rename_i x1 y1 t1 tx1 hcal hargs htys
    simp only at hcal
    subst hcal
    repeat' split at hs
    all_goals first | (cases hs; done) | skip
    simp only [Option.some.injEq] at hs
    subst hs
    exact ⟨_, _, rfl, fun k' hk => (by cases hk), fun h => h.elim (fun h => by simp [isApp] at h) (fun ⟨_, _, _, _, _, _, h⟩ => by cases h)⟩
  · repeat' split at hs
    all_goals first | (cases hs; done) | skip
    simp only [Option.some.injEq] at hs
    subst hs
    exact ⟨_, _, rfl, fun k' hk => (by cases hk), fun _ => .inl (by assumption)⟩
  · cases hs
theorem apG_wf {j : Nat} {r : Ap} (hs : apG P B ops s j o orc = some r) (x : r.X) : ∃ k b, r.hp x = set s.hp k b ∧ (∀ k', (r.sv x).key = some k' → k' = k) ∧ ((isApp o = true ∨ ∃ k X x0 ret L T, orc = some (.thg k X x0 ret L T)) → s.hp k = none ∨ ∃ b0, s.hp k = some b0 ∧ b0.norm = false ∧ b.norm = false) := by
  rcases apG_some hs with ⟨h, _⟩ | ⟨k, X, x0, ret, L, T, v, r', e, hv, h, rfl⟩
  · exact ap_wf h x
  · obtain ⟨k', b, h1, h2, h3⟩ := ap_wf h x
    exact ⟨k', b, h1, h2, fun _ => h3 (.inr ⟨k, X, x0, ret, L, T, e⟩)⟩
/-- Where things are left alone. -/
theorem ap_th {q : Oper × Nat} (hu : isThg orcs q = false) {r : Ap} (hs : ap P B s q.2 q.1 (orcs.at q.2) = some r) (x : r.X) : r.th x = s.th := by
  have app : ∀ n xs out, apOn P B s q.1 n xs out = some r → r.th x = s.th := by
    intro n xs out hr
    unfold apOn at hr
    repeat' split at hr
    all_goals first | (cases hr; done) | (simp only [Option.some.injEq] at hr; subst hr; rfl)
  unfold ap at hs
  split at hs
  · cases hs
  split at hs
  · repeat' split at hs
    all_goals first | (cases hs; done) | (simp only [Option.some.injEq] at hs; subst hs; rfl)
  · exact app _ _ _ hs
  · exact app _ _ _ hs
  · repeat' split at hs
    all_goals first | (cases hs; done) | (simp only [Option.some.injEq] at hs; subst hs; rfl)
  · repeat' split at hs
    all_goals first | (cases hs; done) | (simp only [Option.some.injEq] at hs; subst hs; rfl)
  · rename_i e
    simp only [isThg, e] at hu
    cases hu
  · cases hs

theorem apG_th {q : Oper × Nat} (hu : isThg orcs q = false) {r : Ap} (hs : apG P B ops s q.2 q.1 (orcs.at q.2) = some r) (x : r.X) : r.th x = s.th := by
  rcases apG_some hs with ⟨h, _⟩ | ⟨k, X, x0, ret, L, T, v, r', e, hv, h, rfl⟩
  · exact ap_th hu h x
  · simp only [isThg, e] at hu; cases hu
theorem step_wf (h : Wf s) {q : Oper × Nat} (hs : step P B ops orcs q s K) : step P B ops orcs q s fun s' => K s' ∧ Wf s' := by
  unfold step at *
  split
  · rename_i e
    rw [e] at hs
    simp only [mem] at hs ⊢
    split at hs
    · rename_i s1 h1; exact ⟨hs, memSt_wf h h1⟩
    · exact hs.elim
  · rename_i e e'
    rw [e, e'] at hs
    simp only at hs ⊢
    cases hr : apG P B ops s q.2 q.1 (orcs.at q.2) with
    | none => rw [hr] at hs; exact hs.elim
    | some r =>
      rw [hr] at hs
      refine ⟨hs.1, fun x => ⟨hs.2 x, ?_⟩⟩
      obtain ⟨k, b, h1, h2, _⟩ := apG_wf hr x
      rw [h1]
      exact Wf.put (s := (s.over (set s.hp k b)).thr (r.th x)) (fun i sv k' hi hk => h.over i sv k' hi hk) fun k' hk => by rw [h2 k' hk]; exact ⟨b, set_self _ _ _⟩
  · rename_i e e'
    rw [e, e'] at hs
    exact Rd.wp_mono (grd_live h hs) fun sv h1 => ⟨h1.1, h.put h1.2⟩

theorem newBlk_put {d : Option Tmp} {sv : SV} (h : ∀ t, d = some t → t ∉ o.looksAt ops) : newBlk P (s.put d sv) o = newBlk P s o := by
  obtain ⟨dst, op, type, pos, after, guard⟩ := o
  cases op
  case box t x =>
    have : (s.put d sv).ev x = s.ev x := ev_put fun t ht e => h t ht (by subst e; simp [Oper.looksAt, Op.operands])
    simp only [newBlk, this]
  all_goals rfl

theorem newBlk_hp {hp : Nat → Option Blk} : newBlk P (s.over hp) o = newBlk P s o := by
  obtain ⟨dst, op, type, pos, after, guard⟩ := o
  cases op
  case box t x => cases x <;> rfl
  all_goals rfl

theorem hp_put {d : Option Tmp} {sv : SV} {hp : Nat → Option Blk} : (s.over hp).put d sv = (s.put d sv).over hp := by cases d <;> rfl
theorem nx_put {d : Option Tmp} {sv : SV} : (s.put d sv).nx = s.nx := by cases d <;> rfl

theorem put_th {d : Option Tmp} {sv : SV} : (s.put d sv).th = s.th := by cases d <;> rfl
theorem new_put {i : Nat} {d d' : Option Tmp} {b : Blk} {sv : SV} (h : ∀ t, d = some t → d' ≠ some t) : (s.put d' sv).new i d b = (s.new i d b).map (·.put d' sv) := by
  unfold St.new
  rw [put_hp, nx_put]
  cases s.hp (s.nx + i) with
  | some _ => rfl
  | none =>
    simp only [Option.map_some, Option.some.injEq]
    rw [← hp_put, put_comm (d := d') (e := d) (fun t ht e => h t e ht)]

theorem memSt_new (hm : isMem o = true) (hs : isStore o = false) {j : Nat} : memSt P s j o = match o.guard with | some _ => none | none => match newBlk P s o with | some b => s.new j o.dst b | none => none := by
  obtain ⟨dst, op, type, pos, after, guard⟩ := o
  cases guard with
  | some g => rfl
  | none => cases op <;> simp [isMem] at hm <;> first | rfl | simp [isStore] at hs

theorem memSt_put (hm : isMem o = true) (hs : isStore o = false) {j : Nat} {d : Option Tmp} {sv : SV} (h1 : ∀ t, d = some t → t ∉ o.looksAt ops) (h2 : ∀ t, o.dst = some t → d ≠ some t) : memSt P (s.put d sv) j o = (memSt P s j o).map (·.put d sv) := by
  rw [memSt_new hm hs, memSt_new hm hs, newBlk_put h1]
  cases o.guard with
  | some g => rfl
  | none =>
    simp only
    cases newBlk P s o with
    | none => rfl
    | some b => exact new_put h2

theorem memSt_some (hm : isMem o = true) (hs : isStore o = false) {j : Nat} {s1 : St} (h : memSt P s j o = some s1) : ∃ b, o.guard = none ∧ newBlk P s o = some b ∧ s.hp (s.nx + j) = none ∧ s1 = (s.over (set s.hp (s.nx + j) b)).put o.dst (.p (s.nx + j) 0) := by
  rw [memSt_new hm hs] at h
  split at h
  · cases h
  · rename_i hg
    split at h
    · rename_i b hb
      obtain ⟨h1, h2⟩ := new_hp h
      exact ⟨b, hg, hb, h1, h2⟩
    · cases h

theorem memSt_mk (hm : isMem o = true) (hs : isStore o = false) {j : Nat} {b : Blk} (hg : o.guard = none) (hb : newBlk P s o = some b) (hk : s.hp (s.nx + j) = none) : memSt P s j o = some ((s.over (set s.hp (s.nx + j) b)).put o.dst (.p (s.nx + j) 0)) := by
  rw [memSt_new hm hs]
  simp only [hg, hb, St.new, hk]

theorem isMem_quiet {o : Oper} (h : isQuiet o = true) : isMem o = false := by
  obtain ⟨dst, op, type, pos, after, guard⟩ := o
  cases op <;> simp [isQuiet] at h <;> rfl

theorem memSt_shape {j : Nat} {s1 : St} (h : memSt P s j o = some s1) : ∃ hp sv, s1 = (s.over hp).put o.dst sv := by
  unfold memSt at h
  split at h
  · cases h
  · split at h
    · split at h
      · split at h
        · rename_i b _
          revert h
          cases (_ && _ && _ : Bool) with
          | false => intro h; cases h
          | true =>
            intro h
            simp only [cond_true, Option.some.injEq] at h
            exact ⟨_, _, h.symm⟩
        · cases h
      · cases h
    · split at h
      · exact ⟨_, _, (new_hp h).2⟩
      · cases h

theorem memStore_put (hs : isStore o = true) {j : Nat} {d : Option Tmp} {sv : SV} (h1 : ∀ t, d = some t → t ∉ o.looksAt ops) (h2 : ∀ t, o.dst = some t → d ≠ some t) : memSt P (s.put d sv) j o = (memSt P s j o).map (·.put d sv) := by
  obtain ⟨dst, op, type, pos, after, guard⟩ := o
  cases op <;> simp [isStore] at hs
  case store t x y =>
    have e1 : (s.put d sv).ev x = s.ev x := ev_put fun t ht e => h1 t ht (by subst e; simp [Oper.looksAt, Op.operands])
    have e2 : (s.put d sv).ev y = s.ev y := ev_put fun t ht e => h1 t ht (by subst e; simp [Oper.looksAt, Op.operands])
    cases guard with
    | some g => rfl
    | none =>
      simp only [memSt, e1, e2, put_hp]
      split
      · split
        · cases (_ && _ && _ : Bool) with
          | false => rfl
          | true =>
            simp only [cond_true, Option.map_some, Option.some.injEq]
            rw [← hp_put, put_comm (d := d) (e := dst) (fun t ht e => h2 t e ht)]
        · rfl
      · rfl

theorem memAny_put (hm : isMem o = true) {j : Nat} {d : Option Tmp} {sv : SV} (h1 : ∀ t, d = some t → t ∉ o.looksAt ops) (h2 : ∀ t, o.dst = some t → d ≠ some t) : memSt P (s.put d sv) j o = (memSt P s j o).map (·.put d sv) := by
  cases hs : isStore o with
  | true => exact memStore_put hs h1 h2
  | false => exact memSt_put hm hs h1 h2

/-- An operation that only reads does not see a new block. -/
theorem grd_new (hs : ∀ cs b, o.op ≠ .select cs b) (hw : Wf s) {d : Option Tmp} {k0 : Nat} {b : Blk} (hk : s.hp k0 = none) (h : ∀ t, d = some t → t ∉ o.looksAt ops) : grd P B ops ((s.over (set s.hp k0 b)).put d (.p k0 0)) o orc = grd P B ops s o orc := by
  rw [grd_put hs h]
  have hr : ∀ orc, rd P B (s.over (set s.hp k0 b)) o orc = rd P B s o orc := fun orc => rd_congr hs (fun x hx sv k he hkey => by
    obtain ⟨b', hb'⟩ := hw.ev he k hkey
    exact set_ne _ _ (fun e => by rw [e] at hk; rw [hk] at hb'; cases hb')) (fun x _ => by cases x <;> rfl) rfl
  unfold grd
  rw [hr, hr]
  rfl

/-- One that does not read memory sees no store. -/
theorem grd_over (hq : isQuiet o = true) {hp : Nat → Option Blk} {d : Option Tmp} {sv : SV} (hs : ∀ cs b, o.op ≠ .select cs b) (h : ∀ t, d = some t → t ∉ o.looksAt ops) : grd P B ops ((s.over hp).put d sv) o orc = grd P B ops s o orc := by
  rw [grd_put hs h]
  have hr : ∀ orc, rd P B (s.over hp) o orc = rd P B s o orc := fun orc => rd_of hs (fun x _ => by cases x <;> rfl) rfl <| by
    have he : ∀ x : Operand, (s.over hp).ev x = s.ev x := fun x => by cases x <;> rfl
    have hf : ∀ l, (s.over hp).factsOf l = s.factsOf l := fun l => factsOf_congr fun x _ => he x
    have hpa : ∀ l, (s.over hp).partsOf l = s.partsOf l := fun l => partsOf_congr fun x _ => he x.2
    have hv : (s.over hp).valOf = s.valOf := funext fun x => valOf_congr (he x)
    have hpl : rdGen P B (s.over hp) o orc = rdGen P B s o orc := gen_congr hs fun x _ => he x
    have hbo : ∀ o d, (s.over hp).bound o d = s.bound o d := fun o d => by cases o <;> simp only [St.bound, he]
    obtain ⟨dst, op, type, pos, after, guard⟩ := o
    cases op
    case call c =>
      obtain ⟨callee, args, argTypes⟩ := c
      cases callee with
      | value f => cases f <;> simp only [rd0, hf, hv]
      | invoke r m => rfl
      | builtin b => simp [isQuiet] at hq
    all_goals (simp [isQuiet] at hq <;> simp only [rd0, he, hpa, hpl, hbo])
  unfold grd
  rw [hr, hr]
  rfl

theorem grd_mem (hw : Wf s) {m : Oper} {j : Nat} {s1 : St} (hm : isMem m = true) (h : memSt P s j m = some s1) (hor : isStore m = false ∨ isQuiet o = true) (hs : ∀ cs b, o.op ≠ .select cs b) (ha : ∀ t, m.dst = some t → t ∉ o.looksAt ops) : grd P B ops s1 o orc = grd P B ops s o orc := by
  rcases hor with hst | hq
  · obtain ⟨b, hg, hb, hk, rfl⟩ := memSt_some hm hst h
    exact grd_new hs hw hk ha
  · obtain ⟨hp, sv, rfl⟩ := memSt_shape h
    exact grd_over hq hs ha

theorem Rd.some_of {r : Rd} {k : SV → Prop} (h : r.wp k) : ∃ sv, k sv := by
  cases r with
  | ret s => exact ⟨s, h⟩
  | chk p s => exact ⟨s, h.2⟩
  | many p X x0 out => exact ⟨_, h.2 x0⟩
  | bad => exact h.elim

theorem set_comm {α : Type} {f : Nat → Option α} {i j : Nat} {x y : α} (h : i ≠ j) : set (set f i x) j y = set (set f j y) i x := by
  funext k
  by_cases h1 : i = k <;> by_cases h2 : j = k
  · exact absurd (h1.trans h2.symm) h
  · subst h1; rw [set_ne _ _ h2, set_self, set_self]
  · subst h2; rw [set_self, set_ne _ _ h1, set_self]
  · rw [set_ne _ _ h2, set_ne _ _ h1, set_ne _ _ h1, set_ne _ _ h2]

theorem useAp_app {q : Oper × Nat} (ho : orcs.own = false) (h : useAp orcs q = true) : isApp q.1 = true ∨ ∃ k X x0 ret L T, orcs.at q.2 = some (.thg k X x0 ret L T) := by
  simp only [useAp, ho, Bool.or_false, Bool.and_eq_true, Bool.or_eq_true] at h
  rcases h with h | h
  · right
    unfold isThg at h
    split at h
    · rename_i e; exact ⟨_, _, _, _, _, _, e⟩
    · cases h
  · exact .inl h.1
theorem thr_put {th : Nat → Option TP} {d : Option Tmp} {sv : SV} : (s.thr th).put d sv = (s.put d sv).thr th := by cases d <;> rfl
/-- What reads no thing does not see that one turned. -/
theorem grd_thr {q : Oper × Nat} (hs : ∀ cs b, q.1.op ≠ .select cs b) {th : Nat → Option TP} (hn : isRdT orcs q = false ∨ th = s.th) : grd P B ops (s.thr th) q.1 (orcs.at q.2) = grd P B ops s q.1 (orcs.at q.2) := by
  rcases hn with hn | rfl
  · have h0 : ∀ orc, rd0 P B (s.thr th) q.1 orc = rd0 P B s q.1 orc := fun orc => rd0_congr hs (fun _ _ _ _ _ _ => rfl) (fun x _ => by cases x <;> rfl)
    have h1 : rd P B (s.thr th) q.1 (orcs.at q.2) = rd P B s q.1 (orcs.at q.2) := by
      unfold rd
      split
      · rename_i e
        simp only [isRdT, e] at hn
        cases hn
      · exact h0 _
    have h2 : rd P B (s.thr th) q.1 none = rd P B s q.1 none := by simpa only [rd] using h0 none
    unfold grd
    rw [h1, h2]
    rfl
  · rfl
theorem calm_mem {o : Oper} (h : isCalm o = true) : isMem o = false := by
  obtain ⟨dst, op, type, pos, after, guard⟩ := o
  cases op <;> simp [isCalm] at h <;> rfl
theorem calm_app {o : Oper} (h : isCalm o = true) : isApp o = false := by
  obtain ⟨dst, op, type, pos, after, guard⟩ := o
  cases op <;> simp [isCalm] at h <;> rfl

/-- An operation that looks at no buffer does not see that one changed. -/
theorem grd_calm (hc : isCalm o = true) (hw : Wf s) {k : Nat} {b : Blk} (hk : s.hp k = none ∨ ∃ b0, s.hp k = some b0 ∧ b0.norm = false ∧ b.norm = false) {d : Option Tmp} {sv : SV} (h : ∀ t, d = some t → t ∉ o.looksAt ops) :
    grd P B ops ((s.over (set s.hp k b)).put d sv) o orc = grd P B ops s o orc := by
  have hs : ∀ cs b, o.op ≠ .select cs b := fun cs b e => by
    obtain ⟨dst, op, type, pos, after, guard⟩ := o
    simp only at e
    subst e
    simp [isCalm] at hc
  rw [grd_put hs h]
  have hr : ∀ orc, rd P B (s.over (set s.hp k b)) o orc = rd P B s o orc := fun orc => rd_of hs (fun x _ => by cases x <;> rfl) rfl <| by
    have he : ∀ x : Operand, (s.over (set s.hp k b)).ev x = s.ev x := fun x => by cases x <;> rfl
    have hf : ∀ l, (s.over (set s.hp k b)).factsOf l = s.factsOf l := fun l => factsOf_congr fun x _ => he x
    have hpa : ∀ l, (s.over (set s.hp k b)).partsOf l = s.partsOf l := fun l => partsOf_congr fun x _ => he x.2
    have hv : (s.over (set s.hp k b)).valOf = s.valOf := funext fun x => valOf_congr (he x)
    have hpl : rdGen P B (s.over (set s.hp k b)) o orc = rdGen P B s o orc := gen_congr hs fun x _ => he x
    have hbo : ∀ o d, (s.over (set s.hp k b)).bound o d = s.bound o d := fun o d => by cases o <;> simp only [St.bound, he]
    obtain ⟨dst, op, type, pos, after, guard⟩ := o
    cases op
    case load t x =>
      simp only [rd0, he]
      cases hx : s.ev x with
      | none => rfl
      | some sv =>
        cases sv with
        | v y L =>
          cases y with
          | pointer ad => cases ad <;> rfl
          | _ => rfl
        | s k off n c => rfl
        | a k ver sz => rfl
        | p k' off =>
          simp only [St.over]
          by_cases e : k = k'
          · subst e
            rw [set_self]
            rcases hk with hk | ⟨b0, h1, h2, h3⟩
            · obtain ⟨b', hb'⟩ := hw.ev hx k rfl
              rw [hk] at hb'
              cases hb'
            · simp only [h1, h2, h3]
          · rw [set_ne _ _ e]
    all_goals (simp [isCalm] at hc <;> simp only [rd0, he, hpa, hpl, hbo])
  unfold grd
  rw [hr, hr]
  rfl

theorem ap_put {j : Nat} {d : Option Tmp} {sv : SV} (h : ∀ t, d = some t → t ∉ o.looksAt ops) : ap P B (s.put d sv) j o orc = ap P B s j o orc := by
  have he : ∀ x ∈ o.op.operands, (s.put d sv).ev x = s.ev x := fun x hx => ev_put fun t ht e => h t ht (by
    subst e
    exact List.mem_append_left _ (List.mem_filterMap.2 ⟨.tmp t, by simpa using hx, rfl⟩))
  have app : ∀ n xs out, apOn P B (s.put d sv) o n xs out = apOn P B s o n xs out := by
    intro n xs out
    obtain ⟨dst, op, type, pos, after, guard⟩ := o
    cases op
    case call c =>
      obtain ⟨callee, args, argTypes⟩ := c
      have ha : ∀ x ∈ args.toList, (s.put d sv).ev x = s.ev x := fun x hx => he x (by simp only [Op.operands, Call.operands]; exact Array.mem_append.2 (.inr (by simpa using hx)))
      simp only [apOn]
      split
      · rename_i x y t tx hl _
        rw [ha x (by rw [hl]; simp), ha y (by rw [hl]; simp), put_hp, put_th]
      · rfl
    all_goals rfl
  unfold ap
  cases o.guard with
  | some g => rfl
  | none =>
    cases orc with
    | none => rfl
    | some oc =>
      cases oc with
      | own X x0 e sz c =>
        simp only
        rw [factsOf_congr (s := s) fun x hx => he x (by simpa using hx), put_hp, nx_put, put_th]
        split
        · split
          · rename_i hc
            simp only [Bool.and_eq_true] at hc
            rw [execOp_congr (ρ := (s.put d sv).valOf) (ρ' := s.valOf) o (sel_of hc.2) fun x hx => valOf_congr (he x hx)]
          · rfl
        · rfl
      | app n xs => exact app _ _ _
      | appf n xs => exact app _ _ _
      | mk n =>
        obtain ⟨dst, op, type, pos, after, guard⟩ := o
        cases op
        case makeSlice t x y => simp only [he x (by simp [Op.operands]), he y (by simp [Op.operands]), put_hp, nx_put, put_th]
        all_goals rfl
      | cp n xs =>
        obtain ⟨dst, op, type, pos, after, guard⟩ := o
        cases op
        case call c =>
          obtain ⟨callee, args, argTypes⟩ := c
          have ha : ∀ x ∈ args.toList, (s.put d sv).ev x = s.ev x := fun x hx => he x (by simp only [Op.operands, Call.operands]; exact Array.mem_append.2 (.inr (by simpa using hx)))
          simp only
          split
          · rename_i x y t tx hl _
            rw [ha x (by rw [hl]; simp), ha y (by rw [hl]; simp), put_hp, put_th]
          · rfl
        all_goals rfl
      | thg k X x0 ret L T =>
        simp only
        rw [factsOf_congr (s := s) fun x hx => he x (by simpa using hx), put_hp, nx_put, put_th]
        split
        · rename_i hns
          rw [execOp_congr (ρ := (s.put d sv).valOf) (ρ' := s.valOf) o (sel_of hns) fun x hx => valOf_congr (he x hx)]
          unfold St.thing
          rw [put_th]
        · rfl
      | _ => rfl

theorem Rd.wp_pull {R : Rd} {p : Prop} {X : Type} (x0 : X) {K : X → SV → Prop} (h : p ∧ ∀ x, R.wp (K x)) : R.wp fun sv => p ∧ ∀ x, K x sv := by
  cases R with
  | ret s => exact h
  | chk q s => exact ⟨(h.2 x0).1, h.1, fun x => (h.2 x).2⟩
  | many q Y y0 out => exact ⟨(h.2 x0).1, fun y => ⟨h.1, fun x => (h.2 x).2 y⟩⟩
  | bad => exact (h.2 x0).elim

/-- Two operations change places. -/
theorem thg_some {j k : Nat} {X : Type} {x0 : X} {ret : X → Value} {L : X → Facts} {T : X → TP} {r : Ap} (h : ap P B s j o (some (.thg k X x0 ret L T)) = some r) :
    ∃ M, o.guard = none ∧ s.factsOf o.op.operands.toList = some M ∧ s.hp (s.nx + j) = none ∧ notSel o = true ∧ r = ⟨GivesT P (execOp s.valOf o) (B ++ M) (s.thing k) X ret L T, X, x0, fun _ => set s.hp (s.nx + j) ⟨bufT 0 1, [], []⟩, fun x => .v (ret x) (L x), fun x => set s.th k (T x)⟩ := by
  unfold ap at h
  split at h
  · cases h
  rename_i hg
  simp only at h
  split at h
  · rename_i M h1 h2 h3
    simp only [Option.some.injEq] at h
    exact ⟨M, hg, h1, h2, h3, h.symm⟩
  · cases h
theorem thg_mk {j k : Nat} {X : Type} {x0 : X} {ret : X → Value} {L : X → Facts} {T : X → TP} {M : Facts} (hg : o.guard = none) (h1 : s.factsOf o.op.operands.toList = some M) (h2 : s.hp (s.nx + j) = none) (h3 : notSel o = true) :
    ap P B s j o (some (.thg k X x0 ret L T)) = some ⟨GivesT P (execOp s.valOf o) (B ++ M) (s.thing k) X ret L T, X, x0, fun _ => set s.hp (s.nx + j) ⟨bufT 0 1, [], []⟩, fun x => .v (ret x) (L x), fun x => set s.th k (T x)⟩ := by
  unfold ap
  rw [hg]
  simp only
  rw [h1, h2, h3]
theorem gdV_put {d : Option Tmp} {sv : SV} (h : ∀ t, d = some t → t ∉ o.looksAt ops) : gdV ops (s.put d sv) o = gdV ops s o := by
  unfold gdV
  cases hg : o.guard with
  | none => rfl
  | some gw =>
    obtain ⟨g, want⟩ := gw
    simp only
    cases ht : (ops[g]?).bind (·.dst) with
    | none => rfl
    | some t =>
      have : (s.put d sv).tm t = s.tm t := by
        cases d with
        | none => rfl
        | some d =>
          have hne : d ≠ t := fun e => h d rfl (by subst e; simp [Oper.looksAt, hg, ht])
          exact set_ne _ _ hne
      simp only [this]
theorem apG_put {j : Nat} {d : Option Tmp} {sv : SV} (h : ∀ t, d = some t → t ∉ o.looksAt ops) : apG P B ops (s.put d sv) j o orc = apG P B ops s j o orc := by
  unfold apG
  rw [gdV_put h]
  split
  · rw [ap_put (ops := ops) (o := Sx.Oper.bare o) fun t ht hm => h t ht (by
      rcases List.mem_append.1 hm with hm | hm
      · exact List.mem_append_left _ hm
      · simp [Sx.Oper.bare] at hm)]
  · exact ap_put h
theorem thgG_some {j k : Nat} {X : Type} {x0 : X} {ret : X → Value} {L : X → Facts} {T : X → TP} {r : Ap} (h : apG P B ops s j o (some (.thg k X x0 ret L T)) = some r) :
    ∃ M v, gdV ops s o = some v ∧ s.factsOf o.op.operands.toList = some M ∧ s.hp (s.nx + j) = none ∧ notSel o = true ∧ r = ⟨gdP v (GivesT P (execOp s.valOf o) (B ++ M) (s.thing k) X ret L T), X, x0, fun _ => set s.hp (s.nx + j) ⟨bufT 0 1, [], []⟩, fun x => .v (ret x) (L x), fun x => set s.th k (T x)⟩ := by
  rcases apG_some h with ⟨_, h⟩ | ⟨_, _, _, _, _, _, v, r', e, hv, h', rfl⟩
  · exact absurd rfl (h _ _ _ _ _ _)
  · obtain ⟨M, _, h1, h2, h3, rfl⟩ := thg_some h'
    obtain ⟨dst, op, type, pos, after, guard⟩ := o
    exact ⟨M, v, hv, h1, h2, h3, rfl⟩
theorem thgG_mk {j k : Nat} {X : Type} {x0 : X} {ret : X → Value} {L : X → Facts} {T : X → TP} {M : Facts} {v : Option Bool} (hv : gdV ops s o = some v) (h1 : s.factsOf o.op.operands.toList = some M) (h2 : s.hp (s.nx + j) = none) (h3 : notSel o = true) :
    apG P B ops s j o (some (.thg k X x0 ret L T)) = some ⟨gdP v (GivesT P (execOp s.valOf o) (B ++ M) (s.thing k) X ret L T), X, x0, fun _ => set s.hp (s.nx + j) ⟨bufT 0 1, [], []⟩, fun x => .v (ret x) (L x), fun x => set s.th k (T x)⟩ := by
  have e := thg_mk (P := P) (B := B) (s := s) (o := Sx.Oper.bare o) (j := j) (k := k) (x0 := x0) (ret := ret) (L := L) (T := T) (M := M) rfl h1 h2 h3
  unfold apG
  simp only [hv, e]
  obtain ⟨dst, op, type, pos, after, guard⟩ := o
  rfl
theorem newBlk_thr {th : Nat → Option TP} : newBlk P (s.thr th) o = newBlk P s o := by
  have h : ∀ x, (s.thr th).ev x = s.ev x := fun x => by cases x <;> rfl
  unfold newBlk
  simp only [h]
theorem isThg_ex {q : Oper × Nat} (h : isThg orcs q = true) : ∃ k X x0 ret L T, orcs.at q.2 = some (.thg k X x0 ret L T) := by
  unfold isThg at h
  split at h
  · rename_i e; exact ⟨_, _, _, _, _, _, e⟩
  · cases h
/-- The state behind both. -/
theorem new_thg_state {d e : Option Tmp} {x y : SV} {k1 k2 : Nat} {b c : Blk} {th : Nat → Option TP} (hd : ∀ t, d = some t → e ≠ some t) (hk : k1 ≠ k2) :
    ((((s.over (set s.hp k1 b)).thr th).put d x).over (set (((s.over (set s.hp k1 b)).thr th).put d x).hp k2 c)).put e y = (((((s.over (set s.hp k2 c)).put e y).over (set ((s.over (set s.hp k2 c)).put e y).hp k1 b))).thr th).put d x := by
  have e1 : (((s.over (set s.hp k1 b)).thr th).put d x).hp = set s.hp k1 b := by rw [put_hp]; rfl
  have e2 : ((s.over (set s.hp k2 c)).put e y).hp = set s.hp k2 c := by rw [put_hp]; rfl
  rw [e1, e2, set_comm hk]
  have e3 : ((((s.over (set s.hp k1 b)).thr th).put d x).over (set (set s.hp k2 c) k1 b)) = ((s.over (set (set s.hp k2 c) k1 b)).thr th).put d x := by cases d <;> rfl
  have e4 : ((((s.over (set s.hp k2 c)).put e y).over (set (set s.hp k2 c) k1 b))).thr th = ((s.over (set (set s.hp k2 c) k1 b)).thr th).put e y := by cases e <;> rfl
  rw [e3, e4, put_comm hd]
theorem swap_thg_new {q r : Oper × Nat} (hqr : q.2 ≠ r.2) (hf : Oper.apart ops q.1 r.1 = true) (tq : isThg orcs q = true) (tr : isThg orcs r = false) (ur : useAp orcs r = false) (nr : isNew r.1 = true) (h : step P B ops orcs q s fun s1 => step P B ops orcs r s1 K) :
    step P B ops orcs r s fun s1 => step P B ops orcs q s1 K := by
  obtain ⟨h1, h2, h3⟩ := Oper.apart_spec hf
  simp only [isNew, Bool.and_eq_true, Bool.not_eq_true'] at nr
  have mq : isMemO orcs q = false := by simp only [isMemO, tq, Bool.not_true, Bool.and_false]
  have uq : useAp orcs q = true := by simp only [useAp, tq, Bool.true_or]
  have mr : isMemO orcs r = true := by simp only [isMemO, tr, nr.1, Bool.not_false, Bool.and_true]
  obtain ⟨k, X, x0, ret, L, T, eq⟩ := isThg_ex tq
  simp only [step, mq, uq, mr, ur, eq] at h ⊢
  cases hr0 : apG P B ops s q.2 q.1 (some (.thg k X x0 ret L T)) with
  | none => rw [hr0] at h; exact h.elim
  | some R =>
    rw [hr0] at h
    obtain ⟨M, v, hg, g1, g2, g3, rfl⟩ := thgG_some hr0
    have hall := h.2
    have hx0 := hall x0
    have key : ∀ x : X, mem P (((s.over (set s.hp (s.nx + q.2) ⟨bufT 0 1, [], []⟩)).thr (set s.th k (T x))).put q.1.dst (.v (ret x) (L x))) r.2 r.1 K → ∃ b, r.1.guard = none ∧ newBlk P s r.1 = some b ∧ s.hp (s.nx + r.2) = none ∧
        K (((((s.over (set s.hp (s.nx + q.2) ⟨bufT 0 1, [], []⟩)).thr (set s.th k (T x))).put q.1.dst (.v (ret x) (L x))).over (set (((s.over (set s.hp (s.nx + q.2) ⟨bufT 0 1, [], []⟩)).thr (set s.th k (T x))).put q.1.dst (.v (ret x) (L x))).hp (s.nx + r.2) b)).put r.1.dst (.p (s.nx + r.2) 0)) := by
      intro x hx
      unfold mem at hx
      split at hx
      case h_2 => exact hx.elim
      rename_i s2 hm2
      obtain ⟨b, hg2, hc, hk2, rfl⟩ := memSt_some nr.1 nr.2 hm2
      rw [nx_put, put_hp] at hk2
      simp only [nx_put] at hx
      rw [newBlk_put h1, newBlk_thr, newBlk_hp] at hc
      have hk3 : set s.hp (s.nx + q.2) ⟨bufT 0 1, [], []⟩ (s.nx + r.2) = none := hk2
      rw [set_ne _ _ (by omega)] at hk3
      exact ⟨b, hg2, hc, hk3, hx⟩
    obtain ⟨b, hg2, hc, hk2, _⟩ := key x0 hx0
    unfold mem
    rw [memSt_mk nr.1 nr.2 hg2 hc hk2]
    simp only
    have hnx2 : ((s.over (set s.hp (s.nx + r.2) b)).put r.1.dst (.p (s.nx + r.2) 0)).nx = s.nx := by rw [nx_put]; rfl
    have hhp2 : ((s.over (set s.hp (s.nx + r.2) b)).put r.1.dst (.p (s.nx + r.2) 0)).hp = set s.hp (s.nx + r.2) b := by rw [put_hp]; rfl
    have he : ∀ x ∈ q.1.op.operands, ((s.over (set s.hp (s.nx + r.2) b)).put r.1.dst (.p (s.nx + r.2) 0)).ev x = s.ev x := fun x hx =>
      (ev_put (s := s.over (set s.hp (s.nx + r.2) b)) fun t ht e => h3 t ht (by
        subst e
        exact List.mem_append_left _ (List.mem_filterMap.2 ⟨.tmp t, by simpa using hx, rfl⟩))).trans (by cases x <;> rfl)
    rw [thgG_mk (M := M) (v := v) (show gdV ops ((s.over (set s.hp (s.nx + r.2) b)).put r.1.dst (.p (s.nx + r.2) 0)) q.1 = some v from (gdV_put (s := s.over (set s.hp (s.nx + r.2) b)) h3).trans hg) ((factsOf_congr fun x hx => he x (by simpa using hx)).trans g1) (by rw [hnx2, hhp2, set_ne _ _ (by omega)]; exact g2) g3]
    have hE : execOp ((s.over (set s.hp (s.nx + r.2) b)).put r.1.dst (.p (s.nx + r.2) 0)).valOf q.1 = execOp s.valOf q.1 := execOp_congr q.1 (sel_of g3) fun x hx => valOf_congr (he x hx)
    have hTh : ((s.over (set s.hp (s.nx + r.2) b)).put r.1.dst (.p (s.nx + r.2) 0)).thing k = s.thing k := by unfold St.thing; rw [put_th]; rfl
    refine ⟨by rw [hE, hTh]; exact h.1, fun x => ?_⟩
    obtain ⟨b', _, hc', _, hK⟩ := key x (hall x)
    rw [hc] at hc'
    simp only [Option.some.injEq] at hc'
    subst hc'
    rw [new_thg_state (fun t ht e => h2 t ht e) (by omega)] at hK
    simp only [hnx2, put_th]
    exact hK
theorem swap_new_thg {q r : Oper × Nat} (hqr : q.2 ≠ r.2) (hf : Oper.apart ops q.1 r.1 = true) (tr : isThg orcs r = true) (tq : isThg orcs q = false) (uq : useAp orcs q = false) (nq : isNew q.1 = true) (h : step P B ops orcs q s fun s1 => step P B ops orcs r s1 K) :
    step P B ops orcs r s fun s1 => step P B ops orcs q s1 K := by
  obtain ⟨h1, h2, h3⟩ := Oper.apart_spec hf
  have h2' : ∀ t, r.1.dst = some t → q.1.dst ≠ some t := fun t ht e => h2 t e ht
  simp only [isNew, Bool.and_eq_true, Bool.not_eq_true'] at nq
  have mr : isMemO orcs r = false := by simp only [isMemO, tr, Bool.not_true, Bool.and_false]
  have ur : useAp orcs r = true := by simp only [useAp, tr, Bool.true_or]
  have mq : isMemO orcs q = true := by simp only [isMemO, tq, nq.1, Bool.not_false, Bool.and_true]
  obtain ⟨k, X, x0, ret, L, T, eq⟩ := isThg_ex tr
  simp only [step, mq, uq, mr, ur, eq] at h ⊢
  unfold mem at h
  split at h
  case h_2 => exact h.elim
  rename_i s2 hm2
  obtain ⟨b, hg2, hc, hk2, rfl⟩ := memSt_some nq.1 nq.2 hm2
  cases hr0 : apG P B ops ((s.over (set s.hp (s.nx + q.2) b)).put q.1.dst (.p (s.nx + q.2) 0)) r.2 r.1 (some (.thg k X x0 ret L T)) with
  | none => rw [hr0] at h; exact h.elim
  | some R =>
    rw [hr0] at h
    obtain ⟨M, v, hg, g1, g2, g3, rfl⟩ := thgG_some hr0
    have hnx2 : ((s.over (set s.hp (s.nx + q.2) b)).put q.1.dst (.p (s.nx + q.2) 0)).nx = s.nx := by rw [nx_put]; rfl
    have hhp2 : ((s.over (set s.hp (s.nx + q.2) b)).put q.1.dst (.p (s.nx + q.2) 0)).hp = set s.hp (s.nx + q.2) b := by rw [put_hp]; rfl
    have he : ∀ x ∈ r.1.op.operands, ((s.over (set s.hp (s.nx + q.2) b)).put q.1.dst (.p (s.nx + q.2) 0)).ev x = s.ev x := fun x hx =>
      (ev_put (s := s.over (set s.hp (s.nx + q.2) b)) fun t ht e => h1 t ht (by
        subst e
        exact List.mem_append_left _ (List.mem_filterMap.2 ⟨.tmp t, by simpa using hx, rfl⟩))).trans (by cases x <;> rfl)
    have hE : execOp ((s.over (set s.hp (s.nx + q.2) b)).put q.1.dst (.p (s.nx + q.2) 0)).valOf r.1 = execOp s.valOf r.1 := execOp_congr r.1 (sel_of g3) fun x hx => valOf_congr (he x hx)
    have hTh : ((s.over (set s.hp (s.nx + q.2) b)).put q.1.dst (.p (s.nx + q.2) 0)).thing k = s.thing k := by unfold St.thing; rw [put_th]; rfl
    have hF : s.factsOf r.1.op.operands.toList = some M := (factsOf_congr (s := s) fun x hx => he x (by simpa using hx)).symm.trans g1
    rw [hnx2, hhp2, set_ne _ _ (by omega)] at g2
    rw [thgG_mk (M := M) (v := v) (show gdV ops s r.1 = some v from (gdV_put (s := s.over (set s.hp (s.nx + q.2) b)) h1).symm.trans hg) hF g2 g3]
    refine ⟨by have := h.1; simp only [hE, hTh] at this; exact this, fun x => ?_⟩
    have hK := h.2 x
    simp only [hnx2, put_th] at hK
    show mem P (((s.over (set s.hp (s.nx + r.2) ⟨bufT 0 1, [], []⟩)).thr (set s.th k (T x))).put r.1.dst (.v (ret x) (L x))) q.2 q.1 K
    unfold mem
    have hnx3 : (((s.over (set s.hp (s.nx + r.2) ⟨bufT 0 1, [], []⟩)).thr (set s.th k (T x))).put r.1.dst (.v (ret x) (L x))).nx = s.nx := by rw [nx_put]; rfl
    have hhp3 : (((s.over (set s.hp (s.nx + r.2) ⟨bufT 0 1, [], []⟩)).thr (set s.th k (T x))).put r.1.dst (.v (ret x) (L x))).hp = set s.hp (s.nx + r.2) ⟨bufT 0 1, [], []⟩ := by rw [put_hp]; rfl
    rw [memSt_mk (b := b) nq.1 nq.2 hg2 (by rw [newBlk_put h3, newBlk_thr, newBlk_hp]; exact hc) (by rw [hnx3, hhp3, set_ne _ _ (by omega)]; exact hk2)]
    simp only
    rw [hnx3, new_thg_state h2' (by omega)]
    exact hK

theorem step_swap (ho : orcs.own = false) (hw : Wf s) {q r : Oper × Nat} (hqr : q.2 ≠ r.2) (hq : notSel q.1 = true) (hr : notSel r.1 = true) (n1 : isStore q.1 = false ∨ isQuiet r.1 = true) (n2 : (isStore r.1 = false ∨ isQuiet q.1 = true) ∨ (isMem q.1 = false ∧ ∀ s1, memSt P s r.2 r.1 = some s1 → grd P B ops s1 q.1 (orcs.at q.2) = grd P B ops s q.1 (orcs.at q.2))) (n3 : isApp q.1 = false ∨ isCalm r.1 = true) (n4 : isApp r.1 = false ∨ isCalm q.1 = true) (hap : q.1.apart ops r.1 = true) (hx : okPair orcs q r = true) (h : step P B ops orcs q s fun s1 => step P B ops orcs r s1 K) :
    step P B ops orcs r s fun s1 => step P B ops orcs q s1 K := by
  obtain ⟨h1, h2, h3⟩ := Oper.apart_spec hap
  have h2' : ∀ t, r.1.dst = some t → q.1.dst ≠ some t := fun t ht e => h2 t e ht
  simp only [okPair, Bool.and_eq_true, Bool.or_eq_true, Bool.not_eq_true', Bool.or_eq_false_iff] at hx
  by_cases tn1 : isThg orcs q = true ∧ isNew r.1 = true
  · obtain ⟨tq, nr⟩ := tn1
    have htr := (hx.1.resolve_left (by rw [tq]; exact Bool.noConfusion)).2.2
    refine swap_thg_new hqr hap tq htr ?_ nr h
    cases e : useAp orcs r with
    | false => rfl
    | true =>
      simp only [useAp, htr, ho, Bool.or_false, Bool.false_or, Bool.and_eq_true] at e
      simp only [isNew, Bool.and_eq_true] at nr
      have ha := e.1
      obtain ⟨⟨dst, op, type, pos, after, guard⟩, jj⟩ := r
      cases op <;> simp [isMem] at nr <;> simp [isApp] at ha
  by_cases tn2 : isThg orcs r = true ∧ isNew q.1 = true
  · obtain ⟨tr, nq⟩ := tn2
    have htq := (hx.2.resolve_left (by rw [tr]; exact Bool.noConfusion)).2.2
    refine swap_new_thg hqr hap tr htq ?_ nq h
    cases e : useAp orcs q with
    | false => rfl
    | true =>
      simp only [useAp, htq, ho, Bool.or_false, Bool.false_or, Bool.and_eq_true] at e
      simp only [isNew, Bool.and_eq_true] at nq
      have ha := e.1
      obtain ⟨⟨dst, op, type, pos, after, guard⟩, jj⟩ := q
      cases op <;> simp [isMem] at nq <;> simp [isApp] at ha
  replace hx : (isThg orcs q = false ∨ isCalm r.1 = true ∧ isRdT orcs r = false ∧ isThg orcs r = false) ∧ (isThg orcs r = false ∨ isCalm q.1 = true ∧ isRdT orcs q = false ∧ isThg orcs q = false) := by
    refine ⟨?_, ?_⟩
    · cases e : isThg orcs q with
      | false => exact .inl rfl
      | true =>
        have h := hx.1.resolve_left (by rw [e]; exact Bool.noConfusion)
        exact .inr ⟨h.1.resolve_right fun h1 => tn1 ⟨e, h1⟩, h.2⟩
    · cases e : isThg orcs r with
      | false => exact .inl rfl
      | true =>
        have h := hx.2.resolve_left (by rw [e]; exact Bool.noConfusion)
        exact .inr ⟨h.1.resolve_right fun h1 => tn2 ⟨e, h1⟩, h.2⟩
  have appmem : ∀ {q : Oper × Nat}, useAp orcs q = true → isMemO orcs q = false := fun {q} e => by
    unfold isMemO
    cases et : isThg orcs q with
    | true => simp
    | false =>
      have h5 : isApp q.1 = true := by
        simp only [useAp, et, ho, Bool.or_false, Bool.false_or, Bool.and_eq_true] at e
        exact e.1
      obtain ⟨⟨dst, op, type, pos, after, guard⟩, jj⟩ := q
      cases op <;> simp [isApp] at h5 <;> rfl
  have noap : ∀ {q : Oper × Nat}, useAp orcs q = false → isMemO orcs q = isMem q.1 := fun {q} e => by
    simp only [useAp, Bool.or_eq_false_iff] at e
    simp only [isMemO, e.1, Bool.not_false, Bool.and_true]
  have calmM : ∀ {q : Oper × Nat}, isCalm q.1 = true → isMemO orcs q = false := fun {q} e => by
    simp only [isMemO, calm_mem e, Bool.false_and]
  have tcalm : ∀ {q r : Oper × Nat}, (isApp q.1 = false ∨ isCalm r.1 = true) → (isThg orcs q = false ∨ isCalm r.1 = true ∧ isRdT orcs r = false ∧ isThg orcs r = false) → useAp orcs q = true → isCalm r.1 = true := fun {q r} n hx u => by
    cases et : isThg orcs q with
    | true => exact (hx.resolve_left (by rw [et]; exact Bool.noConfusion)).1
    | false =>
      refine n.resolve_left ?_
      simp only [useAp, et, ho, Bool.or_false, Bool.false_or, Bool.and_eq_true] at u
      rw [u.1]; exact Bool.noConfusion
  have c1 : useAp orcs q = true → isCalm r.1 = true := tcalm n3 hx.1
  have c2 : useAp orcs r = true → isCalm q.1 = true := tcalm n4 hx.2
  have e3 : ∀ (hp : Nat → Option Blk) (th : Nat → Option TP) sv sv', (((s.put r.1.dst sv').over hp).thr th).put q.1.dst sv = (((s.over hp).thr th).put q.1.dst sv).put r.1.dst sv' := fun hp th sv sv' => by
    rw [show ((s.put r.1.dst sv').over hp).thr th = ((s.over hp).thr th).put r.1.dst sv' from by cases r.1.dst <;> rfl, put_comm (d := r.1.dst) (e := q.1.dst) h2']
  have e4 : ∀ (hp : Nat → Option Blk) (th : Nat → Option TP) sv sv', (((s.put q.1.dst sv').over hp).thr th).put r.1.dst sv = (((s.over hp).thr th).put r.1.dst sv).put q.1.dst sv' := fun hp th sv sv' => by
    rw [show ((s.put q.1.dst sv').over hp).thr th = ((s.over hp).thr th).put q.1.dst sv' from by cases q.1.dst <;> rfl, put_comm (d := q.1.dst) (e := r.1.dst) h2]
  cases u1 : useAp orcs q with
  | true =>
    have hc := c1 u1
    have m2 := calmM hc
    have m1 := appmem u1
    cases u2 : useAp orcs r with
    | true =>
      exfalso
      have hc2 := c2 u2
      have bad : ∀ {q r : Oper × Nat}, isCalm q.1 = true → useAp orcs q = true → isThg orcs q = true := fun {q r} hcq u => by
        cases et : isThg orcs q with
        | true => rfl
        | false =>
          simp only [useAp, et, ho, Bool.or_false, Bool.false_or, Bool.and_eq_true] at u
          rw [calm_app hcq] at u
          cases u.1
      exact absurd (bad (r := q) hc u2) (by rw [(hx.1.resolve_left (by rw [bad (r := r) hc2 u1]; exact Bool.noConfusion)).2.2]; exact Bool.noConfusion)
    | false =>
    simp only [step, m1, m2, u1, u2] at h ⊢
    cases hr0 : apG P B ops s q.2 q.1 (orcs.at q.2) with
    | none => rw [hr0] at h; exact h.elim
    | some R =>
      rw [hr0] at h
      have h5 : R.p ∧ ∀ x, (grd P B ops s r.1 (orcs.at r.2)).wp fun sv' => K ((((s.over (R.hp x)).thr (R.th x)).put q.1.dst (R.sv x)).put r.1.dst sv') := ⟨h.1, fun x => by
        obtain ⟨k, b, g1, _, g3⟩ := apG_wf hr0 x
        have := h.2 x
        rw [thr_put, grd_thr (s := (s.over (R.hp x)).put q.1.dst (R.sv x)) (q := r) (sel_of hr) (th := R.th x) (by
          cases e : isThg orcs q with
          | true => exact .inl (hx.1.resolve_left (by rw [e]; exact Bool.noConfusion)).2.1
          | false => exact .inr ((apG_th e hr0 x).trans (put_th (s := s.over (R.hp x))).symm)), ← thr_put] at this
        rw [g1] at this ⊢
        rwa [grd_calm hc hw (g3 (useAp_app ho u1)) h1] at this⟩
      refine Rd.wp_mono (Rd.wp_pull R.x0 h5) fun sv' h6 => ?_
      rw [apG_put h3, hr0]
      exact ⟨h6.1, fun x => by rw [e3]; exact h6.2 x⟩
  | false =>
  cases u2 : useAp orcs r with
  | true =>
    have hc := c2 u2
    have m1 := calmM hc
    have m2 := appmem u2
    simp only [step, m1, m2, u1, u2] at h ⊢
    have h5 : (grd P B ops s q.1 (orcs.at q.2)).wp fun sv => Ap.go (s.put q.1.dst sv) r.1.dst K (apG P B ops s r.2 r.1 (orcs.at r.2)) := Rd.wp_mono h fun sv h6 => by rwa [apG_put h1] at h6
    cases hr0 : apG P B ops s r.2 r.1 (orcs.at r.2) with
    | none => rw [hr0] at h5; obtain ⟨sv, h6⟩ := Rd.some_of h5; exact h6.elim
    | some R =>
      rw [hr0] at h5
      obtain ⟨sv0, h6⟩ := Rd.some_of h5
      refine ⟨h6.1, fun x => ?_⟩
      obtain ⟨k, b, g1, _, g3⟩ := apG_wf hr0 x
      rw [thr_put, grd_thr (s := (s.over (R.hp x)).put r.1.dst (R.sv x)) (q := q) (sel_of hq) (th := R.th x) (by
        cases e : isThg orcs r with
        | true => exact .inl (hx.2.resolve_left (by rw [e]; exact Bool.noConfusion)).2.1
        | false => exact .inr ((apG_th e hr0 x).trans (put_th (s := s.over (R.hp x))).symm)), ← thr_put, g1, grd_calm hc hw (g3 (useAp_app ho u2)) h3]
      refine Rd.wp_mono h5 fun sv h7 => ?_
      have := h7.2 x
      rw [e4, g1] at this
      exact this
  | false =>
  cases m1 : isMem q.1 <;> cases m2 : isMem r.1 <;> simp only [step, noap u1, noap u2, m1, m2, u1, u2] at h ⊢
  · have e1 : ∀ sv, grd P B ops (s.put q.1.dst sv) r.1 (orcs.at r.2) = grd P B ops s r.1 (orcs.at r.2) := fun sv => grd_put (sel_of hr) h1
    have e2 : ∀ sv, grd P B ops (s.put r.1.dst sv) q.1 (orcs.at q.2) = grd P B ops s q.1 (orcs.at q.2) := fun sv => grd_put (sel_of hq) h3
    simp only [e1] at h
    simp only [e2]
    have h' := Rd.swap h
    simp only [put_comm h2] at h'
    exact h'
  · simp only [mem, memAny_put m2 h1 h2'] at h ⊢
    cases hm : memSt P s r.2 r.1 with
    | none =>
      rw [hm] at h
      obtain ⟨sv, h⟩ := Rd.some_of h
      exact h
    | some s1 =>
      rw [hm] at h
      simp only
      rcases n2 with n2 | ⟨_, n2⟩
      · rw [grd_mem hw m2 hm n2 (sel_of hq) h3]
        exact h
      · rw [n2 s1 hm]
        exact h
  · simp only [mem] at h ⊢
    cases hm : memSt P s q.2 q.1 with
    | none => rw [hm] at h; exact h.elim
    | some s1 =>
      rw [hm] at h
      simp only at h
      rw [grd_mem hw m1 hm n1 (sel_of hr) h1] at h
      refine Rd.wp_mono h fun sv hsv => ?_
      rw [memAny_put m1 h3 h2, hm]
      exact hsv
  · replace n2 : isStore r.1 = false ∨ isQuiet q.1 = true := n2.resolve_right fun h' => by rw [h'.1] at m1; cases m1
    have s1f : isStore q.1 = false := n1.resolve_right fun hq' => by rw [isMem_quiet hq'] at m2; cases m2
    have s2f : isStore r.1 = false := n2.resolve_right fun hq' => by rw [isMem_quiet hq'] at m1; cases m1
    simp only [mem] at h ⊢
    cases hm : memSt P s q.2 q.1 with
    | none => rw [hm] at h; exact h.elim
    | some s1 =>
      rw [hm] at h
      simp only at h
      obtain ⟨b, hg, hb, hk, rfl⟩ := memSt_some m1 s1f hm
      split at h
      case h_2 => exact h.elim
      rename_i s2 hm2
      obtain ⟨c, hg2, hc, hk2, rfl⟩ := memSt_some m2 s2f hm2
      have hnx : ((s.over (set s.hp (s.nx + q.2) b)).put q.1.dst (.p (s.nx + q.2) 0)).nx = s.nx := by rw [nx_put]; rfl
      have hhp : ((s.over (set s.hp (s.nx + q.2) b)).put q.1.dst (.p (s.nx + q.2) 0)).hp = set s.hp (s.nx + q.2) b := by rw [put_hp]; rfl
      rw [hnx, hhp, set_ne _ _ (by omega)] at hk2
      rw [newBlk_put h1, newBlk_hp] at hc
      rw [memSt_mk m2 s2f hg2 hc hk2]
      simp only
      have hnx2 : ((s.over (set s.hp (s.nx + r.2) c)).put r.1.dst (.p (s.nx + r.2) 0)).nx = s.nx := by rw [nx_put]; rfl
      have hhp2 : ((s.over (set s.hp (s.nx + r.2) c)).put r.1.dst (.p (s.nx + r.2) 0)).hp = set s.hp (s.nx + r.2) c := by rw [put_hp]; rfl
      rw [memSt_mk (b := b) m1 s1f hg (by rw [newBlk_put h3, newBlk_hp]; exact hb) (by rw [hnx2, hhp2, set_ne _ _ (by omega)]; exact hk)]
      simp only
      rw [hnx, hhp] at h
      rw [hnx2, hhp2]
      rw [← hp_put] at h ⊢
      rw [put_comm h2, set_comm (by omega)] at h
      exact h

/-- A key of one of the operands. -/
def OpKey (s : St) (o : Oper) (k : Nat) : Prop := ∃ x ∈ o.op.operands, ∃ sv, s.ev x = some sv ∧ sv.key = some k
theorem grd_keys (hr : (grd P B ops s o orc).wp k') : (grd P B ops s o orc).wp fun sv => k' sv ∧ KeyP (OpKey s o) sv := by
  have h : ∀ x ∈ o.op.operands, ∀ sv, s.ev x = some sv → KeyP (OpKey s o) sv := fun x hx sv hsv k hk => ⟨x, hx, sv, hsv, hk⟩
  unfold grd at *
  split at hr
  · exact rd_keys h hr
  · split at hr
    · split at hr
      · rename_i b L ht
        split at hr
        · exact ⟨hr.1, hr.2, keyP_v⟩
        · rename_i want _ _ _ _
          revert hr
          cases (b == _) with
          | true => exact fun hr => rd_keys (orc := none) h hr
          | false => exact fun hr => ⟨hr, keyP_v⟩
        · exact under_live hr (rd_keys h)
      · exact ⟨hr, keyP_v⟩
      · exact hr.elim
    · exact hr.elim
theorem ap_keys {j : Nat} {r : Ap} (hs : ap P B s j o orc = some r) (x : r.X) : ∀ k, (r.sv x).key = some k → k = s.nx + j ∨ OpKey s o k := by
  have app : ∀ n xs out, apOn P B s o n xs out = some r → ∀ k, (r.sv x).key = some k → k = s.nx + j ∨ OpKey s o k := by
    intro n xs out hr
    obtain ⟨dst, op, type, pos, after, guard⟩ := o
    unfold apOn at hr
    split at hr
    case h_2 => cases hr
    rename_i op' c hop
    simp only at hop
    subst hop
    obtain ⟨callee, args, argTypes⟩ := c
    split at hr
    case h_2 => cases hr
    rename_i x1 y1 t tx hcal hargs htys
    split at hr
    case h_2 => cases hr
    rename_i kk ver sz yv L e hx hy hu
    have hmem : x1 ∈ (Op.call ⟨callee, args, argTypes⟩).operands := by
      simp only [Op.operands, Call.operands]
      exact Array.mem_append.2 (.inr (by simpa using (show x1 ∈ args.toList by rw [hargs]; simp)))
    repeat' split at hr
    all_goals first | (cases hr; done) | skip
    all_goals (simp only [Option.some.injEq] at hr; subst hr)
    · intro k hk
      simp only [SV.key, Option.some.injEq] at hk
      subst hk
      exact .inr ⟨x1, hmem, _, hx, rfl⟩
    · intro k hk; cases hk
  unfold ap at hs
  split at hs
  · cases hs
  split at hs
  · repeat' split at hs
    all_goals first | (cases hs; done) | skip
    simp only [Option.some.injEq] at hs
    subst hs
    intro k hk
    simp only [SV.key, Option.some.injEq] at hk
    exact .inl hk.symm
  · exact app _ _ _ hs
  · exact app _ _ _ hs
  · repeat' split at hs
    all_goals first | (cases hs; done) | skip
    simp only [Option.some.injEq] at hs
    subst hs
    intro k hk
    simp only [SV.key, Option.some.injEq] at hk
    exact .inl hk.symm
  · repeat' split at hs
    all_goals first | (cases hs; done) | skip
    simp only [Option.some.injEq] at hs
    subst hs
    intro k hk; cases hk
  · repeat' split at hs
    all_goals first | (cases hs; done) | skip
    simp only [Option.some.injEq] at hs
    subst hs
    intro k hk; cases hk
  · cases hs
theorem memSt_keys {j : Nat} {s1 : St} (h : memSt P s j o = some s1) : ∃ hp sv, s1 = (s.over hp).put o.dst sv ∧ ∀ k, sv.key = some k → k = s.nx + j := by
  cases hst : isStore o with
  | false =>
    have hm : isMem o = true := by
      obtain ⟨dst, op, type, pos, after, guard⟩ := o
      unfold memSt at h
      cases guard with
      | some g => cases h
      | none => cases op <;> first | rfl | (simp [newBlk] at h; done) | (simp [isStore] at hst; done)
    obtain ⟨b, _, _, _, rfl⟩ := memSt_some hm hst h
    exact ⟨_, _, rfl, fun k hk => by simp only [SV.key, Option.some.injEq] at hk; exact hk.symm⟩
  | true =>
    obtain ⟨dst, op, type, pos, after, guard⟩ := o
    cases op <;> simp [isStore] at hst
    unfold memSt at h
    split at h
    · cases h
    · simp only at h
      split at h
      · split at h
        · rename_i b hb
          cases hc : ((b.norm && _) && _ && _) with
          | false => rw [hc] at h; cases h
          | true =>
            rw [hc] at h
            simp only [cond_true, Option.some.injEq] at h
            exact ⟨_, _, h.symm, fun k hk => by cases hk⟩
        · cases h
      · cases h
theorem apG_keys {j : Nat} {r : Ap} (hs : apG P B ops s j o orc = some r) (x : r.X) : ∀ k, (r.sv x).key = some k → k = s.nx + j ∨ OpKey s o k := by
  rcases apG_some hs with ⟨h, _⟩ | ⟨_, _, _, _, _, _, v, r', e, hv, h, rfl⟩
  · exact ap_keys h x
  · exact ap_keys h x
/-- The state behind one operation. -/
def Shape (s : St) (q : Oper × Nat) (s' : St) : Prop := ∃ hp th sv, s' = ((s.over hp).thr th).put q.1.dst sv ∧ ∀ k, sv.key = some k → k = s.nx + q.2 ∨ OpKey s q.1 k
theorem step_shape {q : Oper × Nat} (hs : step P B ops orcs q s K) : step P B ops orcs q s fun s' => K s' ∧ Shape s q s' := by
  unfold step at *
  split
  · rename_i e
    rw [e] at hs
    simp only [mem] at hs ⊢
    split at hs
    · rename_i s1 h1
      obtain ⟨hp, sv, h2, h3⟩ := memSt_keys h1
      exact ⟨hs, hp, s.th, sv, h2, fun k hk => .inl (h3 k hk)⟩
    · exact hs.elim
  · rename_i e e'
    rw [e, e'] at hs
    simp only at hs ⊢
    cases hr : apG P B ops s q.2 q.1 (orcs.at q.2) with
    | none => rw [hr] at hs; exact hs.elim
    | some r =>
      rw [hr] at hs
      exact ⟨hs.1, fun x => ⟨hs.2 x, r.hp x, r.th x, r.sv x, rfl, apG_keys hr x⟩⟩
  · rename_i e e'
    rw [e, e'] at hs
    exact Rd.wp_mono (grd_keys hs) fun sv h1 => ⟨h1.1, s.hp, s.th, sv, rfl, fun k hk => .inr (h1.2 k hk)⟩
theorem ap_fresh {j : Nat} {orc : Option Or} {r : Ap} (hn : isMem o = true ∧ isStore o = false) (hr : ap P B s j o orc = some r) : s.hp (s.nx + j) = none := by
  obtain ⟨dst, op, type, pos, after, guard⟩ := o
  unfold ap at hr
  split at hr
  · cases hr
  split at hr
  · split at hr
    · assumption
    · cases hr
  · cases op <;> simp [isMem] at hn <;> simp [apOn] at hr
  · cases op <;> simp [isMem] at hn <;> simp [apOn] at hr
  · cases op <;> simp [isMem] at hn <;> simp at hr
  · cases op <;> simp [isMem] at hn <;> simp at hr
  · split at hr
    · assumption
    · cases hr
  · cases hr
/-- A new block has a number of its own. -/
theorem step_fresh {q : Oper × Nat} (hn : isNew q.1 = true) (hs : step P B ops orcs q s K) : s.hp (s.nx + q.2) = none := by
  simp only [isNew, Bool.and_eq_true, Bool.not_eq_true'] at hn
  unfold step at hs
  split at hs
  · unfold mem at hs
    split at hs
    · rename_i s1 h1
      obtain ⟨b, _, _, h2, _⟩ := memSt_some hn.1 hn.2 h1
      exact h2
    · exact hs.elim
  · cases hr : apG P B ops s q.2 q.1 (orcs.at q.2) with
    | none => rw [hr] at hs; exact hs.elim
    | some r =>
      rcases apG_some hr with ⟨h, _⟩ | ⟨_, _, _, _, _, _, v, r', e, hv, h, rfl⟩
      · exact ap_fresh hn h
      · exact ap_fresh (o := Sx.Oper.bare q.1) hn h
  · rename_i e1 e2
    exfalso
    obtain ⟨⟨dst, op, type, pos, after, guard⟩, jj⟩ := q
    simp only [isMemO, hn.1, Bool.true_and, Bool.not_eq_false'] at e1
    simp only [useAp, e1, Bool.true_or] at e2
    cases e2

/-- Slot a leads to the block that operation j made, and what does not hang on it does not. -/
structure Inv (ops : Array Oper) (a j nx0 : Nat) (s : St) : Prop where
  nx : s.nx = nx0
  slot : ∀ sv, s.tm a = some sv → KeyP (fun k => k = nx0 + j) sv
  rest : ∀ t sv, t ∉ der ops a → s.tm t = some sv → KeyP (fun k => k ≠ nx0 + j) sv
theorem newAt_spec {a j : Nat} (h : newAt ops a j = true) : (∀ (i : Nat) (o : Oper), ops[i]? = some o → (i = j → isNew o = true ∧ o.dst = some a) ∧ (i ≠ j → o.dst ≠ some a)) ∧ (∀ (i : Nat) (o : Oper), ops[i]? = some o → ∀ d, o.dst = some d → (∃ t ∈ o.looksAt ops, t ∈ der ops a) → d ∈ der ops a) ∧ a ∈ der ops a := by
  simp only [newAt, Bool.and_eq_true] at h
  obtain ⟨h1, _, h2, h3⟩ := h
  refine ⟨fun i o hi => ?_, fun i o hi d hd ⟨t, ht, hd2⟩ => ?_, by simpa using h3⟩
  · have := List.all_eq_true.1 h1 (o, i) (show (o, i) ∈ ops.toList.zipIdx by rw [List.mem_zipIdx_iff_getElem?]; simpa using hi)
    simp only at this
    refine ⟨fun e => ?_, fun e => ?_⟩
    · rw [e, Nat.beq_refl] at this
      simpa using this
    · have hb : Nat.beq i j = false := by
        cases e2 : Nat.beq i j with
        | false => rfl
        | true => exact absurd (Nat.eq_of_beq_eq_true e2) e
      rw [hb] at this
      simpa using this
  · have := List.all_eq_true.1 h2 o (by simpa using Array.mem_of_getElem? hi)
    simp only [hd, Bool.or_eq_true, Bool.not_eq_true'] at this
    rcases this with h4 | h4
    · have := List.any_eq_false.1 h4 t ht
      simp at this
      exact absurd hd2 this
    · simpa using h4
theorem shape_inv {a j nx0 : Nat} {q : Oper × Nat} {s' : St} (hc : newAt ops a j = true) (hq : ops[q.2]? = some q.1) (hj : q.2 ≠ j) (hi : Inv ops a j nx0 s) (hs : Shape s q s') : Inv ops a j nx0 s' := by
  obtain ⟨hp, th, sv, rfl, hk⟩ := hs
  obtain ⟨n1, n2, n3⟩ := newAt_spec hc
  have hda := (n1 q.2 q.1 hq).2 hj
  have hnx : (((s.over hp).thr th).put q.1.dst sv).nx = s.nx := by rw [nx_put]; rfl
  refine ⟨hnx.trans hi.nx, fun sv' h' => ?_, fun t sv' ht h' => ?_⟩
  · cases hd : q.1.dst with
    | none => rw [hd] at h'; exact hi.slot sv' h'
    | some d =>
      rw [hd] at h'
      have hne : d ≠ a := fun e => hda (by rw [hd, e])
      simp only [St.put, set_ne _ _ hne] at h'
      exact hi.slot sv' h'
  · cases hd : q.1.dst with
    | none => rw [hd] at h'; exact hi.rest t sv' ht h'
    | some d =>
      rw [hd] at h'
      by_cases e : d = t
      · subst e
        simp only [St.put, set_self, Option.some.injEq] at h'
        subst h'
        intro k hkk
        rcases hk k hkk with h1 | ⟨x, hx, sv2, h2, h3⟩
        · rw [h1, hi.nx]; omega
        · cases x with
          | tmp u =>
            have hu : u ∈ q.1.looksAt ops := List.mem_append_left _ (List.mem_filterMap.2 ⟨.tmp u, by simpa using hx, rfl⟩)
            exact hi.rest u sv2 (fun hu2 => ht (n2 q.2 q.1 hq d hd ⟨u, hu, hu2⟩)) h2 k h3
          | const y => simp only [St.ev, Option.some.injEq] at h2; subst h2; cases h3
          | global y => simp only [St.ev, Option.some.injEq] at h2; subst h2; cases h3
          | func y => simp only [St.ev, Option.some.injEq] at h2; subst h2; cases h3
      · simp only [St.put, set_ne _ _ e] at h'
        exact hi.rest t sv' ht h'
theorem new_keys {j : Nat} {r : Ap} {orc : Option Or} (hn : isNew o = true) (hs : ap P B s j o orc = some r) (x : r.X) : ∀ k, (r.sv x).key = some k → k = s.nx + j := by
  simp only [isNew, Bool.and_eq_true, Bool.not_eq_true'] at hn
  obtain ⟨dst, op, type, pos, after, guard⟩ := o
  unfold ap at hs
  split at hs
  · cases hs
  split at hs
  · repeat' split at hs
    all_goals first | (cases hs; done) | skip
    simp only [Option.some.injEq] at hs
    subst hs
    intro k hk
    simp only [SV.key, Option.some.injEq] at hk
    exact hk.symm
  · cases op <;> simp [isMem] at hn <;> simp [apOn] at hs
  · cases op <;> simp [isMem] at hn <;> simp [apOn] at hs
  · cases op <;> simp [isMem] at hn <;> simp at hs
  · cases op <;> simp [isMem] at hn <;> simp at hs
  · repeat' split at hs
    all_goals first | (cases hs; done) | skip
    simp only [Option.some.injEq] at hs
    subst hs
    intro k hk; cases hk
  · cases hs
theorem newG_keys {j : Nat} {r : Ap} {orc : Option Or} (hn : isNew o = true) (hs : apG P B ops s j o orc = some r) (x : r.X) : ∀ k, (r.sv x).key = some k → k = s.nx + j := by
  rcases apG_some hs with ⟨h, _⟩ | ⟨_, _, _, _, _, _, v, r', e, hv, h, rfl⟩
  · exact new_keys hn h x
  · exact new_keys (o := Sx.Oper.bare o) hn h x
/-- The state behind an operation that makes a block. -/
theorem step_new {q : Oper × Nat} (hn : isNew q.1 = true) (hs : step P B ops orcs q s K) : step P B ops orcs q s fun s' => K s' ∧ ∃ hp th sv, s' = ((s.over hp).thr th).put q.1.dst sv ∧ ∀ k, sv.key = some k → k = s.nx + q.2 := by
  have hn' := hn
  simp only [isNew, Bool.and_eq_true, Bool.not_eq_true'] at hn
  unfold step at *
  split
  · rename_i e
    rw [e] at hs
    simp only [mem] at hs ⊢
    split at hs
    · rename_i s1 h1
      obtain ⟨hp, sv, h2, h3⟩ := memSt_keys h1
      exact ⟨hs, hp, s.th, sv, h2, h3⟩
    · exact hs.elim
  · rename_i e e'
    rw [e, e'] at hs
    simp only at hs ⊢
    cases hr : apG P B ops s q.2 q.1 (orcs.at q.2) with
    | none => rw [hr] at hs; exact hs.elim
    | some r =>
      rw [hr] at hs
      exact ⟨hs.1, fun x => ⟨hs.2 x, r.hp x, r.th x, r.sv x, rfl, newG_keys hn' hr x⟩⟩
  · rename_i e1 e2
    exfalso
    obtain ⟨⟨dst, op, type, pos, after, guard⟩, jj⟩ := q
    simp only [isMemO, hn.1, Bool.true_and, Bool.not_eq_false'] at e1
    simp only [useAp, e1, Bool.true_or] at e2
    cases e2
theorem shape_new {a j : Nat} {q : Oper × Nat} {s' : St} (hw : Wf s) (hc : newAt ops a j = true) (hq : ops[q.2]? = some q.1) (hj : q.2 = j) (hf : s.hp (s.nx + q.2) = none) (hs : ∃ hp th sv, s' = ((s.over hp).thr th).put q.1.dst sv ∧ ∀ k, sv.key = some k → k = s.nx + q.2) : Inv ops a j s.nx s' := by
  obtain ⟨hp, th, sv, rfl, hk⟩ := hs
  obtain ⟨n1, n2, n3⟩ := newAt_spec hc
  have hda := ((n1 q.2 q.1 hq).1 hj).2
  have hnx : (((s.over hp).thr th).put q.1.dst sv).nx = s.nx := by rw [nx_put]; rfl
  rw [hda] at hnx ⊢
  refine ⟨hnx, fun sv' h' => ?_, fun t sv' ht h' => ?_⟩
  · simp only [St.put, set_self, Option.some.injEq] at h'
    subst h'
    rw [← hj]
    exact hk
  · have hne : a ≠ t := fun e => ht (by rw [← e]; exact n3)
    simp only [St.put, set_ne _ _ hne] at h'
    intro k hkk e
    obtain ⟨b, hb⟩ := hw t sv' k h' hkk
    rw [e, ← hj, hf] at hb
    cases hb
/-- The load x does not see the store y. -/
structure LS (ops : Array Oper) (a j : Nat) (x y : Oper) : Prop where
  ap : x.apart ops y = true
  ld : ∃ t u, x.op = .load t (.tmp u) ∧ u ∉ der ops a
  st : ∃ t v, y.op = .store t (.tmp a) v
theorem ls_grd0 {i : Nat} {x y : Oper} {orc : Option Or} {t t2 : TypeId} {u a : Tmp} {v : Operand} (hap : x.apart ops y = true) (hx : x.op = .load t (.tmp u)) (hy : y.op = .store t2 (.tmp a) v)
    (hne : ∀ k off k' off', s.tm a = some (.p k off) → s.tm u = some (.p k' off') → k' ≠ k) : ∀ s1, memSt P s i y = some s1 → grd P B ops s1 x orc = grd P B ops s x orc := by
  intro s1 h1
  obtain ⟨_, _, h3⟩ := Oper.apart_spec hap
  have hs : ∀ cs b, x.op ≠ .select cs b := fun cs b e => by rw [hx] at e; cases e
  have hshape : ∃ k b off sv, s.tm a = some (.p k off) ∧ s1 = (s.over (set s.hp k b)).put y.dst sv := by
    unfold memSt at h1
    split at h1
    · cases h1
    · rw [hy] at h1
      simp only at h1
      split at h1
      · rename_i k off yv L i2 e1 e2 e3
        split at h1
        · rename_i b hb
          cases hc : ((b.norm && _) && _ && _) with
          | false => rw [hc] at h1; cases h1
          | true =>
            rw [hc] at h1
            simp only [cond_true, Option.some.injEq] at h1
            exact ⟨_, _, _, _, e1, h1.symm⟩
        · cases h1
      · cases h1
  obtain ⟨k, b, off, sv, ha, rfl⟩ := hshape
  rw [grd_put hs h3]
  have hr : ∀ orc, rd P B (s.over (set s.hp k b)) x orc = rd P B s x orc := fun orc => rd_of hs (fun x _ => by cases x <;> rfl) rfl <| by
    have he : ∀ x : Operand, (s.over (set s.hp k b)).ev x = s.ev x := fun x => by cases x <;> rfl
    have hpl : rdGen P B (s.over (set s.hp k b)) x orc = rdGen P B s x orc := gen_congr hs fun x _ => he x
    obtain ⟨dst, op, type, pos, after, guard⟩ := x
    simp only at hx
    subst hx
    simp only [rd0, he]
    cases hx : s.ev (.tmp u) with
    | none => rfl
    | some sv =>
      cases sv with
      | v y L =>
        cases y with
        | pointer ad => cases ad <;> rfl
        | _ => rfl
      | s k off n c => rfl
      | a k ver sz => rfl
      | p k' off' =>
        have hne2 : k' ≠ k := hne k off k' off' ha hx
        simp only [St.over]
        rw [set_ne _ _ (Ne.symm hne2)]
  unfold grd
  rw [hr, hr]
  rfl
theorem ls_grd {a j i nx0 : Nat} {x y : Oper} {orc : Option Or} (h : LS ops a j x y) (hi : Inv ops a j nx0 s) : ∀ s1, memSt P s i y = some s1 → grd P B ops s1 x orc = grd P B ops s x orc := by
  obtain ⟨hap, ⟨t, u, hx, hu⟩, t2, v, hy⟩ := h
  exact ls_grd0 hap hx hy fun k off k' off' h1 h2 => by rw [hi.slot _ h1 k rfl]; exact hi.rest u _ hu h2 k' rfl
/-- While a region runs: the slots that it does not write are as they were, and the plain ones lead where they may. -/
structure Far (ops : Array Oper) (s0 s : St) : Prop where
  nx : s.nx = s0.nx
  same : ∀ u, unwr ops u = true → s.tm u = s0.tm u
  keys : ∀ t, plainAt ops t = true → ∀ sv k, s.tm t = some sv → sv.key = some k → k ∈ keysOf ops s0 t
theorem keyAt_mem {s : St} {t : Tmp} {sv : SV} {k : Nat} (h : s.tm t = some sv) (hk : sv.key = some k) : k ∈ keyAt s t := by
  unfold keyAt
  rw [h]
  simp only
  rw [hk]
  exact List.mem_singleton.2 rfl
theorem Far.refl (ops : Array Oper) (s : St) : Far ops s s := ⟨rfl, fun _ _ => rfl, fun _ _ _ _ h hk => List.mem_append_left _ (keyAt_mem h hk)⟩
theorem unwr_ne {u : Tmp} (h : unwr ops u = true) {i : Nat} {o : Oper} (hi : ops[i]? = some o) : o.dst ≠ some u := fun e => by
  have := List.all_eq_true.1 h o (by simpa using Array.mem_of_getElem? hi)
  rw [e] at this
  simp at this
theorem Far.keep {s0 s' : St} {q : Oper × Nat} (h : Far ops s0 s) (hq : ops[q.2]? = some q.1) (hs : Shape s q s') : Far ops s0 s' := by
  obtain ⟨hp, th, sv, rfl, hk⟩ := hs
  have hnx : (((s.over hp).thr th).put q.1.dst sv).nx = s.nx := by rw [nx_put]; rfl
  refine ⟨hnx.trans h.nx, fun u hu => ?_, fun t ht sv' k h1 h2 => ?_⟩
  · have hne := unwr_ne hu hq
    cases hd : q.1.dst with
    | none => exact h.same u hu
    | some d =>
      have hdu : d ≠ u := fun e => hne (by rw [hd, e])
      simp only [St.put, set_ne _ _ hdu]
      exact h.same u hu
  · cases hd : q.1.dst with
    | none => rw [hd] at h1; exact h.keys t ht sv' k h1 h2
    | some d =>
      rw [hd] at h1
      by_cases e : d = t
      · subst e
        simp only [St.put, set_self, Option.some.injEq] at h1
        subst h1
        refine List.mem_append_right _ (List.mem_flatMap.2 ⟨q, (by rw [List.mem_zipIdx_iff_getElem?]; simpa using hq), ?_⟩)
        rw [hd, show ((some d == some d) = true) from beq_self_eq_true _]
        simp only [cond_true]
        rcases hk k h2 with h3 | ⟨x, hx, sv2, h4, h5⟩
        · rw [h3, h.nx]
          exact List.mem_cons_self
        · refine List.mem_cons_of_mem _ ?_
          cases x with
          | tmp u =>
            have hu : u ∈ q.1.looksAt ops := List.mem_append_left _ (List.mem_filterMap.2 ⟨.tmp u, by simpa using hx, rfl⟩)
            have hw : unwr ops u = true := by
              have := List.all_eq_true.1 ht q.1 (by simpa using Array.mem_of_getElem? hq)
              rw [hd, show ((some d == some d) = true) from beq_self_eq_true _] at this
              simp only [Bool.not_true, Bool.false_or] at this
              exact List.all_eq_true.1 this u hu
            have h6 : s0.tm u = some sv2 := by rw [← h.same u hw]; exact h4
            exact List.mem_flatMap.2 ⟨u, hu, keyAt_mem h6 h5⟩
          | const y => simp only [St.ev, Option.some.injEq] at h4; subst h4; cases h5
          | global y => simp only [St.ev, Option.some.injEq] at h4; subst h4; cases h5
          | func y => simp only [St.ev, Option.some.injEq] at h4; subst h4; cases h5
      · simp only [St.put, set_ne _ _ e] at h1
        exact h.keys t ht sv' k h1 h2
theorem disj_ne {a b : List Nat} (h : disj a b = true) {k j : Nat} (hk : k ∈ a) (hj : j ∈ b) : k ≠ j := fun e => by
  have h1 := List.all_eq_true.1 (List.all_eq_true.1 h k hk) j hj
  rw [e, Nat.beq_refl] at h1
  cases h1
theorem lsFar_spec {s0 : St} {x y : Oper} (h : lsFar ops s0 x y = true) : x.apart ops y = true ∧ ∃ t u t2 a v, x.op = .load t (.tmp u) ∧ y.op = .store t2 (.tmp a) v ∧ ∀ s, Far ops s0 s → ∀ k off k' off', s.tm a = some (.p k off) → s.tm u = some (.p k' off') → k' ≠ k := by
  unfold lsFar at h
  split at h
  · rename_i t1 t t2 a v hx hy
    simp only [Bool.and_eq_true] at h
    obtain ⟨⟨h1, h2, h3⟩, h4⟩ := h
    exact ⟨h1, t1, t, t2, a, v, hx, hy, fun s hf k off k' off' ha hu => disj_ne h4 (hf.keys t h2 _ k' hu rfl) (hf.keys a h3 _ k ha rfl)⟩
  · cases h
/-- What is known of the blocks that were made up to now. -/
def Made (ops : Array Oper) (L : Nat → Prop) (s : St) : Prop := ∀ a j, newAt ops a j = true → L j → Inv ops a j s.nx s
theorem Shape.nx {q : Oper × Nat} {s' : St} (h : Shape s q s') : s'.nx = s.nx := by
  obtain ⟨hp, th, sv, rfl, _⟩ := h
  rw [nx_put]; rfl
theorem Made.keep {L : Nat → Prop} {q : Oper × Nat} {s' : St} (h : Made ops L s) (hq : ops[q.2]? = some q.1) (hL : ¬ L q.2) (hs : Shape s q s') : Made ops L s' := fun a j hc hj => by
  rw [hs.nx]
  exact shape_inv hc hq (fun e => hL (e ▸ hj)) (h a j hc hj) hs
/-- The two change places. -/
def Swaps (ops : Array Oper) (s0 : St) (L : Nat → Prop) (x y : Oper) : Prop := freePair ops x y = true ∨ (∃ a j, newAt ops a j = true ∧ L j ∧ LS ops a j x y) ∨ lsFar ops s0 x y = true
theorem pull (ho : orcs.own = false) {s0 : St} {L : Nat → Prop} {r : Oper × Nat} (hr : notSel r.1 = true) : ∀ (xs ys : List (Oper × Nat)) (s : St), Wf s → Made ops L s → Far ops s0 s → (∀ x ∈ xs, x.2 ≠ r.2 ∧ notSel x.1 = true ∧ (ops[x.2]? = some x.1 ∧ ¬ L x.2 ∧ Swaps ops s0 L x.1 r.1) ∧ okPair orcs x r = true) → steps P B ops orcs (xs ++ r :: ys) s K →
    step P B ops orcs r s fun s1 => steps P B ops orcs (xs ++ ys) s1 K
  | [], ys, s, _, _, _, _, h => h
  | x :: xs, ys, s, hw, hm, hfar, hx, h => by
    have h1 := hx x (by simp)
    have h2 : step P B ops orcs x s fun s1 => step P B ops orcs r s1 fun s2 => steps P B ops orcs (xs ++ ys) s2 K :=
      step_mono (step_wf hw (step_shape h)) fun s1 h3 => pull ho hr xs ys s1 h3.2 (hm.keep h1.2.2.1.1 h1.2.2.1.2.1 h3.1.2) (hfar.keep h1.2.2.1.1 h3.1.2) (fun y hy => hx y (by simp [hy])) h3.1.1
    rcases h1.2.2.1.2.2 with hf | ⟨a, j, hc, hL, hls⟩ | hlf
    · simp only [freePair, Bool.and_eq_true, Bool.or_eq_true, Bool.not_eq_true'] at hf
      obtain ⟨⟨⟨n1, n2⟩, n3, n4⟩, hap⟩ := hf
      exact step_swap ho hw h1.1 h1.2.1 hr n1 (.inl n2) n3 n4 hap h1.2.2.2 h2
    · obtain ⟨hap, ⟨t, u, hx, hu⟩, t2, v, hy⟩ := hls
      refine step_swap ho hw h1.1 h1.2.1 hr (.inl ?_) (.inr ⟨?_, ls_grd ⟨hap, ⟨t, u, hx, hu⟩, t2, v, hy⟩ (hm a j hc hL)⟩) (.inl ?_) (.inl ?_) hap h1.2.2.2 h2
      · simp [isStore, hx]
      · simp [isMem, hx]
      · simp [isApp, hx]
      · simp [isApp, hy]
    · obtain ⟨hap, t, u, t2, a, v, hx, hy, hne⟩ := lsFar_spec hlf
      refine step_swap ho hw h1.1 h1.2.1 hr (.inl ?_) (.inr ⟨?_, ls_grd0 hap hx hy (hne s hfar)⟩) (.inl ?_) (.inl ?_) hap h1.2.2.2 h2
      · simp [isStore, hx]
      · simp [isMem, hx]
      · simp [isApp, hx]
      · simp [isApp, hy]

/-- Operation i waits for operation j in every order. -/
inductive Waits (ops : Array Oper) : Nat → Nat → Prop
  | one {i j : Nat} {o : Oper} {e : Edge} : ops[i]? = some o → e ∈ o.after → Region.binds .any e = true → e.on = j → Waits ops i j
  | more {i j : Nat} {o : Oper} {e : Edge} : ops[i]? = some o → e ∈ o.after → Region.binds .any e = true → Waits ops e.on j → Waits ops i j

theorem maskOf_spec {acc : List Nat} {j : Nat} : ∀ (l : List Edge), (l.foldr (fun e r => bif Region.binds .any e then r ||| 2 ^ e.on ||| (acc[e.on]?).getD 0 else r) 0).testBit j = true →
    ∃ e ∈ l, Region.binds .any e = true ∧ (e.on = j ∨ ((acc[e.on]?).getD 0).testBit j = true)
  | [], h => by simp at h
  | e :: l, h => by
    simp only [List.foldr_cons] at h
    cases hb : Region.binds .any e with
    | false =>
      rw [hb] at h
      obtain ⟨e', h1, h2⟩ := maskOf_spec l h
      exact ⟨e', by simp [h1], h2⟩
    | true =>
      rw [hb] at h
      simp only [cond_true, Nat.testBit_or, Bool.or_eq_true, Nat.testBit_two_pow, decide_eq_true_eq] at h
      rcases h with (h | h) | h
      · obtain ⟨e', h1, h2⟩ := maskOf_spec l h
        exact ⟨e', by simp [h1], h2⟩
      · exact ⟨e, by simp, hb, .inl h⟩
      · exact ⟨e, by simp, hb, .inr h⟩

theorem masks_spec : ∀ (l : List Oper) (acc : List Nat), (∀ i, l[i]? = ops[acc.length + i]?) → (∀ i m j, acc[i]? = some m → m.testBit j = true → Waits ops i j) →
    ∀ i m j, (masks l acc)[i]? = some m → m.testBit j = true → Waits ops i j
  | [], acc, _, h => h
  | o :: l, acc, hl, h => by
    refine masks_spec l (acc ++ [maskOf acc o]) (fun i => ?_) (fun i m j hm hj => ?_)
    · have := hl (i + 1)
      simp only [List.getElem?_cons_succ] at this
      rw [this]
      simp
      congr 1
      omega
    · by_cases hi : i < acc.length
      · rw [List.getElem?_append_left hi] at hm
        exact h i m j hm hj
      · rw [List.getElem?_append_right (by omega)] at hm
        have hi0 : i - acc.length = 0 := by
          cases e : i - acc.length with
          | zero => rfl
          | succ n => rw [e] at hm; simp at hm
        have hi1 : i = acc.length := by omega
        rw [hi0] at hm
        simp only [List.getElem?_cons_zero, Option.some.injEq] at hm
        subst hm
        have ho : ops[i]? = some o := by have := hl 0; rw [hi1]; simpa using this.symm
        obtain ⟨e, he, hb, h2⟩ := maskOf_spec _ hj
        have he' : e ∈ o.after := by simpa using he
        rcases h2 with h2 | h2
        · exact .one ho he' hb h2
        · cases hq : acc[e.on]? with
          | none => rw [hq] at h2; simp at h2
          | some m' => rw [hq] at h2; exact .more ho he' hb (h e.on m' j hq h2)

/-- The listed operations are closed under waiting. -/
def Closed (ops : Array Oper) (listed : Array Bool) : Prop :=
  ∀ j oj, ops[j]? = some oj → listed.getD j false = true → ∀ e ∈ oj.after, Region.binds .any e = true → listed.getD e.on false = true

theorem waits_listed {listed : Array Bool} (hc : Closed ops listed) {i j : Nat} (hw : Waits ops i j) :
    (∀ o, ops[i]? = some o → ∀ e ∈ o.after, Region.binds .any e = true → listed.getD e.on false = true) → listed.getD j false = true := by
  induction hw with
  | one ho he hb hj => intro h; rw [← hj]; exact h _ ho _ he hb
  | more ho he hb _ ih =>
    intro h
    have h1 := h _ ho _ he hb
    exact ih fun o' ho' e' he' hb' => hc _ o' ho' h1 e' he' hb'
end

section
variable {P : Program} {σ : Pl} {w0 : Start} {w : World} {A B : Facts} {s : St} {a : Act} {ops : Array Oper} {Q : Exit → Act → World → Prop} {K : St → Prop} {orcs : Ors}

theorem freeRow_spec {far : Oper → Oper → Bool} {m : Nat} {o : Oper} : ∀ {l : List (Oper × Nat)}, freeRow ops far m o l = true → ∀ q ∈ l, m.testBit q.2 = true ∨ freePair ops q.1 o = true ∨ lsPair ops q.1 o = true ∨ far q.1 o = true
  | [], _, q, hq => by cases hq
  | x :: r, h, q, hq => by
    simp only [freeRow, Bool.and_eq_true, Bool.or_eq_true, or_assoc] at h
    rcases List.mem_cons.1 hq with rfl | hq
    · exact h.1
    · exact freeRow_spec h.2 q hq

theorem drawRows_spec {far : Oper → Oper → Bool} {ms : List Nat} : ∀ {done l : List (Oper × Nat)}, drawRows ops far ms done l = true → ∀ xs q ys, l = xs ++ q :: ys →
    notSel q.1 = true ∧ (∀ e ∈ q.1.after, Region.binds .any e = true → e.on < q.2) ∧ ∀ x, (x ∈ done ∨ x ∈ xs) → ((ms[q.2]?).getD 0).testBit x.2 = true ∨ freePair ops x.1 q.1 = true ∨ lsPair ops x.1 q.1 = true ∨ far x.1 q.1 = true
  | done, [], _, xs, q, ys, e => by cases xs <;> cases e
  | done, p :: r, h, xs, q, ys, e => by
    simp only [drawRows, Bool.and_eq_true] at h
    obtain ⟨⟨⟨h1, h2⟩, h3⟩, h4⟩ := h
    cases xs with
    | nil =>
      simp only [List.nil_append, List.cons.injEq] at e
      obtain ⟨rfl, rfl⟩ := e
      refine ⟨h1, fun e he hb => ?_, fun x hx => ?_⟩
      · have := List.all_eq_true.1 h2 e (by simpa using he)
        simp only [hb, Bool.not_true, Bool.false_or] at this
        exact Nat.lt_of_lt_of_le (Nat.le_of_ble_eq_true this) (Nat.le_refl _)
      · rcases hx with hx | hx
        · exact freeRow_spec h3 x hx
        · cases hx
    | cons x xs =>
      simp only [List.cons_append, List.cons.injEq] at e
      obtain ⟨rfl, e⟩ := e
      obtain ⟨k1, k2, k3⟩ := drawRows_spec h4 xs q ys e
      exact ⟨k1, k2, fun y hy => k3 y (by
        rcases hy with hy | hy
        · exact .inl (by simp [hy])
        · rcases List.mem_cons.1 hy with rfl | hy
          · exact .inl (by simp)
          · exact .inr hy)⟩

theorem mem_zip {o : Oper} {i : Nat} : (o, i) ∈ ops.toList.zipIdx ↔ ops[i]? = some o := by
  rw [List.mem_zipIdx_iff_getElem?]
  simp

theorem zip_split {o : Oper} {i : Nat} (h : ops[i]? = some o) : ∃ xs ys, ops.toList.zipIdx = xs ++ (o, i) :: ys ∧ ∀ j oj, j < i → ops[j]? = some oj → (oj, j) ∈ xs := by
  obtain ⟨xs, ys, e⟩ := List.append_of_mem (mem_zip.2 h)
  have hp : (ops.toList.zipIdx.map (·.2)) = List.range ops.size := by rw [List.zipIdx_map_snd]; simp [List.range_eq_range']
  have hs : (ops.toList.zipIdx.map (·.2)).Pairwise (· < ·) := by rw [hp]; exact List.pairwise_lt_range
  refine ⟨xs, ys, e, fun j oj hj hoj => ?_⟩
  have hm := mem_zip.2 hoj
  rw [e] at hm hs
  rcases List.mem_append.1 hm with hm | hm
  · exact hm
  · rw [List.map_append, List.map_cons, List.pairwise_append] at hs
    rcases List.mem_cons.1 hm with hm | hm
    · cases hm; omega
    · have := (List.pairwise_cons.1 hs.2.1).1 j (List.mem_map.2 ⟨(oj, j), hm, rfl⟩)
      omega

theorem draw_facts {far : Oper → Oper → Bool} (hd : drawRows ops far (masks ops.toList []) [] ops.toList.zipIdx = true) : (∀ j oj, ops[j]? = some oj → notSel oj = true ∧ ∀ e ∈ oj.after, Region.binds .any e = true → e.on < j) ∧
    ∀ i oi j oj, i < j → ops[i]? = some oi → ops[j]? = some oj → Waits ops j i ∨ freePair ops oi oj = true ∨ lsPair ops oi oj = true ∨ far oi oj = true := by
  refine ⟨fun j oj hj => ?_, fun i oi j oj hij hi hj => ?_⟩
  · obtain ⟨xs, ys, e, _⟩ := zip_split hj
    obtain ⟨h1, h2, _⟩ := drawRows_spec hd xs (oj, j) ys e
    exact ⟨h1, h2⟩
  · obtain ⟨xs, ys, e, h⟩ := zip_split hj
    obtain ⟨_, _, h3⟩ := drawRows_spec hd xs (oj, j) ys e
    rcases h3 (oi, i) (.inr (h i oi hij hi)) with h4 | h4
    · refine .inl ?_
      cases hm : (masks ops.toList [])[j]? with
      | none => simp [hm] at h4
      | some m =>
        simp only [hm, Option.getD_some] at h4
        exact masks_spec (ops := ops) ops.toList [] (fun i => by simp) (fun i m j h => by simp at h) j m i hm h4
    · exact .inr h4

theorem thRow_spec {m : Nat} {q : Oper × Nat} : ∀ {l : List (Oper × Nat)}, thRow orcs m q l = true → ∀ x ∈ l, m.testBit x.2 = true ∨ okPair orcs x q = true
  | [], _, x, hx => by cases hx
  | y :: r, h, x, hx => by
    simp only [thRow, Bool.and_eq_true, Bool.or_eq_true] at h
    rcases List.mem_cons.1 hx with rfl | hx
    · exact h.1
    · exact thRow_spec h.2 x hx
theorem thRows_spec {ms : List Nat} : ∀ {done l : List (Oper × Nat)}, thRows orcs ms done l = true → ∀ xs q ys, l = xs ++ q :: ys → ∀ x, (x ∈ done ∨ x ∈ xs) → ((ms[q.2]?).getD 0).testBit x.2 = true ∨ okPair orcs x q = true
  | done, [], _, xs, q, ys, e => by cases xs <;> cases e
  | done, p :: r, h, xs, q, ys, e => by
    simp only [thRows, Bool.and_eq_true] at h
    obtain ⟨h3, h4⟩ := h
    cases xs with
    | nil =>
      simp only [List.nil_append, List.cons.injEq] at e
      obtain ⟨rfl, rfl⟩ := e
      intro x hx
      rcases hx with hx | hx
      · exact thRow_spec h3 x hx
      · cases hx
    | cons x xs =>
      simp only [List.cons_append, List.cons.injEq] at e
      obtain ⟨rfl, e⟩ := e
      intro y hy
      refine thRows_spec h4 xs q ys e y ?_
      rcases hy with hy | hy
      · exact .inl (by simp [hy])
      · rcases List.mem_cons.1 hy with rfl | hy
        · exact .inl (by simp)
        · exact .inr hy
theorem look_thg {i : Nat} : ∀ {l : List (Nat × Or)}, hasThg l = false → ∀ {k X x0 ret L T}, look i l ≠ some (.thg k X x0 ret L T)
  | [], _, k, X, x0, ret, L, T, h => by cases h
  | (j, y) :: r, hn, k, X, x0, ret, L, T, h => by
    unfold look at h
    cases hb : Nat.beq j i with
    | true =>
      rw [hb] at h
      simp only [cond_true, Option.some.injEq] at h
      subst h
      cases hn
    | false =>
      rw [hb] at h
      refine look_thg (l := r) ?_ h
      cases y <;> first | exact hn | cases hn
theorem no_thg (hn : hasThg orcs.l = false) (q : Oper × Nat) : isThg orcs q = false := by
  unfold isThg Ors.at
  split
  · rename_i h
    split at h
    · rename_i x hx
      simp only [Option.some.injEq] at h
      subst h
      exact absurd hx (look_thg hn)
    · cases ha : orcs.all <;> simp [ha] at h
  · rfl
theorem pairs_spec {draw : Bool} {K : St → Prop} (hd : draw = true) (h : stepsT P B ops draw orcs s K) : ∀ i oi j oj, i < j → ops[i]? = some oi → ops[j]? = some oj → Waits ops j i ∨ okPair orcs (oi, i) (oj, j) = true := by
  intro i oi j oj hij hi hj
  unfold stepsT at h
  subst hd
  cases hn : hasThg orcs.l with
  | false => right; simp only [okPair, no_thg hn, Bool.not_false, Bool.true_or, Bool.and_self]
  | true =>
    simp only [hn, Bool.and_self] at h
    split at h
    · rename_i ht
      obtain ⟨xs, ys, e, h1⟩ := zip_split hj
      rcases thRows_spec ht xs (oj, j) ys e (oi, i) (.inr (h1 i oi hij hi)) with h4 | h4
      · refine .inl ?_
        cases hm : (masks ops.toList [])[j]? with
        | none => simp [hm] at h4
        | some m =>
          simp only [hm, Option.getD_some] at h4
          exact masks_spec (ops := ops) ops.toList [] (fun i => by simp) (fun i m j h => by simp at h) j m i hm h4
      · exact .inr h4
    · exact h.elim
theorem stepsD_T {draw : Bool} {K : St → Prop} (h : stepsD P B ops draw orcs s K) : stepsT P B ops draw orcs s K ∧ ((draw && hasLS ops) = true → drawD ops s = true) := by
  unfold stepsD at h
  split at h
  · rename_i e
    exact ⟨h, fun e2 => by rw [e] at e2; cases e2⟩
  · split at h
    · rename_i e2
      exact ⟨h, fun _ => e2⟩
    · exact h.elim
theorem stepsT_C {draw : Bool} {K : St → Prop} (h : stepsT P B ops draw orcs s K) : stepsC P B ops orcs ops.toList.zipIdx s K := by
  unfold stepsT at h
  split at h
  · exact h
  · split at h
    · exact h
    · exact h.elim

theorem getD_both' {listed : Array Bool} {i : Nat} (h : listed.getD i true = false) : listed.getD i false = false := by
  rcases Nat.lt_or_ge i listed.size with h' | h'
  · simp [h'] at h ⊢; exact h
  · simp [Array.getElem?_eq_none h'] at h

theorem Rel.wf (h : Rel σ w0 A s a w) : Wf s := fun i sv k hi hk => by
  have := h.tm i sv hi
  cases sv with
  | v x L => cases hk
  | p k' off => cases hk; exact ⟨_, this.2.choose_spec.1⟩
  | s k' off n c => cases hk; exact ⟨_, this.2.choose_spec.1⟩
  | a k' ver sz => cases hk; exact ⟨_, this.choose_spec.1⟩

theorem lsPair_spec {x y : Oper} (h : lsPair ops x y = true) : ∃ a, ∃ e ∈ y.after, Region.binds .any e = true ∧ newAt ops a e.on = true ∧ LS ops a e.on x y := by
  unfold lsPair at h
  split at h
  · rename_i t1 t t2 a v hx hy
    simp only [Bool.and_eq_true, Bool.not_eq_true', List.any_eq_true] at h
    obtain ⟨⟨h1, h2⟩, e, he, h3, h4⟩ := h
    exact ⟨a, e, by simpa using he, h3, h4, h1, ⟨t1, t, hx, by simpa using h2⟩, t2, v, hy⟩
  · cases h

theorem steps_any (ho : orcs.own = false) (hpp : ∀ i oi j oj, i < j → ops[i]? = some oi → ops[j]? = some oj → Waits ops j i ∨ okPair orcs (oi, i) (oj, j) = true) {s0 : St} {far : Oper → Oper → Bool} (hfa : ∀ x y, far x y = true → lsFar ops s0 x y = true) (hd : drawRows ops far (masks ops.toList []) [] ops.toList.zipIdx = true) (hB : ∀ q ∈ B, q ∈ A) (hdst : ∀ (i : Nat) (o : Oper), ops[i]? = some o → ∀ t, o.dst = some t → t < s.n) (hQ : ∀ σ' s' a' w', Rel σ' w0 A s' a' w' → s'.n = s.n → K s' → Q .normal a' w') :
    ∀ (fuel : Nat) (l : List (Oper × Nat)) (listed : Array Bool) (σ : Pl) (s' : St) (a : Act) (w : World), l.length = fuel → listed.size = ops.size →
      (∀ q ∈ l, ops[q.2]? = some q.1 ∧ listed.getD q.2 true = false) → (∀ i, listed.getD i true = false → ∃ o, (o, i) ∈ l) → l.Pairwise (fun x y => x.2 < y.2) → Closed ops listed →
      s'.n = s.n → Rel σ w0 A s' a w → Made ops (fun j => listed.getD j false = true) s' → Far ops s0 s' → steps P B ops orcs l s' K → wpAny P .any ops Q fuel listed a w := by
  obtain ⟨f1, f2⟩ := draw_facts hd
  intro fuel
  induction fuel with
  | zero =>
    intro l listed σ s' a w hl hsz h1 h2 hp hc hsn hr hmd hfr hs
    have : l = [] := List.length_eq_zero_iff.1 hl
    subst this
    refine ⟨?_, hQ σ s' a w hr hsn hs⟩
    cases e : Region.ready .any ops listed with
    | nil => rfl
    | cons i r =>
      have hi : i ∈ Region.ready .any ops listed := by rw [e]; simp
      obtain ⟨o, ho⟩ := h2 i (mem_ready.1 hi).1
      cases ho
  | succ fuel ih =>
    intro l listed σ s' a w hl hsz h1 h2 hp hc hsn hr hmd hfr hs
    refine ⟨fun hnil => ?_, fun i hi => ?_⟩
    · exfalso
      cases l with
      | nil => cases hl
      | cons q r =>
        have hq := h1 q (by simp)
        have : q.2 ∈ Region.ready .any ops listed := by
          refine mem_ready.2 ⟨hq.2, q.1, hq.1, fun e he hb => ?_⟩
          have hlt := (f1 _ _ hq.1).2 e he hb
          cases hg : listed.getD e.on false with
          | true => rfl
          | false =>
            have hin : e.on < listed.size := by rw [hsz]; have := (Array.getElem?_eq_some_iff.1 hq.1).1; omega
            have h3 : listed.getD e.on true = false := by simp [hin] at hg ⊢; exact hg
            obtain ⟨o, ho⟩ := h2 _ h3
            rcases List.mem_cons.1 ho with ho | ho
            · rw [← ho] at hlt; exact absurd hlt (Nat.lt_irrefl _)
            · have := (List.pairwise_cons.1 hp).1 _ ho; simp only at this; omega
        rw [hnil] at this
        cases this
    · obtain ⟨hun, o, ho2, hall⟩ := mem_ready.1 hi
      obtain ⟨o', ho'⟩ := h2 i hun
      have : o' = o := Option.some.inj ((h1 _ ho').1.symm.trans ho2)
      subst this
      obtain ⟨xs, ys, e⟩ := List.append_of_mem ho'
      subst e
      have hpair : ∀ x ∈ xs, x.2 < i := fun x hx => by
        rw [List.pairwise_append] at hp
        exact hp.2.2 x hx (o', i) (by simp)
      have hfree : ∀ x ∈ xs, x.2 ≠ i ∧ notSel x.1 = true ∧ (ops[x.2]? = some x.1 ∧ ¬ listed.getD x.2 false = true ∧ Swaps ops s0 (fun j => listed.getD j false = true) x.1 o') ∧ okPair orcs x (o', i) = true := fun x hx => by
        have hx1 := h1 x (by simp [hx])
        have hx2 := getD_both' hx1.2
        refine ⟨by have := hpair x hx; omega, (f1 _ _ hx1.1).1, ?_⟩
        rcases (show Waits ops i x.2 ∨ ((freePair ops x.1 o' = true ∨ lsPair ops x.1 o' = true ∨ far x.1 o' = true) ∧ okPair orcs x (o', i) = true) from by
            rcases f2 x.2 x.1 i o' (hpair x hx) hx1.1 ho2 with hw | hf
            · exact .inl hw
            · rcases hpp x.2 x.1 i o' (hpair x hx) hx1.1 ho2 with hw | hf2
              · exact .inl hw
              · exact .inr ⟨hf, hf2⟩) with hw | hf
        · have h3 := waits_listed hc hw (fun o2 ho3 e he hb => by
            have : o2 = o' := Option.some.inj (ho3.symm.trans ho2)
            subst this
            exact hall e he hb)
          rw [hx2] at h3
          cases h3
        · refine ⟨⟨hx1.1, by rw [hx2]; exact Bool.noConfusion, ?_⟩, hf.2⟩
          rcases hf.1 with h3 | h3 | h3
          · exact .inl h3
          · obtain ⟨a, e, he, hb, hc2, hls⟩ := lsPair_spec h3
            exact .inr (.inl ⟨a, e.on, hc2, hall e he hb, hls⟩)
          · exact .inr (.inr (hfa _ _ h3))
      have hst := pull ho (r := (o', i)) (f1 _ _ ho2).1 xs ys s' hr.wf hmd hfr hfree hs
      have hst : step P B ops orcs (o', i) s' fun s2 => (steps P B ops orcs (xs ++ ys) s2 K ∧ Far ops s0 s2) ∧ Made ops (fun j => (listed.setIfInBounds i true).getD j false = true) s2 := by
        have hkeep : ∀ s2, Shape s' (o', i) s2 → ∀ a j, newAt ops a j = true → j ≠ i → (listed.setIfInBounds i true).getD j false = true → Inv ops a j s2.nx s2 := fun s2 h5 a j hc2 hji hlj => by
          rw [getD_set_ne false (Ne.symm hji)] at hlj
          rw [h5.nx]
          exact shape_inv hc2 ho2 (fun e => hji e.symm) (hmd a j hc2 hlj) h5
        cases hnew : isNew o' with
        | true =>
          have hf0 := step_fresh (q := (o', i)) hnew hst
          refine step_mono (step_new (q := (o', i)) hnew (step_shape hst)) fun s2 h5 => ⟨⟨h5.1.1, hfr.keep ho2 h5.1.2⟩, fun a j hc2 hlj => ?_⟩
          by_cases hji : j = i
          · rw [h5.1.2.nx]
            exact shape_new hr.wf hc2 ho2 hji.symm hf0 h5.2
          · exact hkeep s2 h5.1.2 a j hc2 hji hlj
        | false =>
          refine step_mono (step_shape hst) fun s2 h5 => ⟨⟨h5.1, hfr.keep ho2 h5.2⟩, fun a j hc2 hlj => ?_⟩
          by_cases hji : j = i
          · exfalso
            have := ((newAt_spec hc2).1 i o' ho2).1 hji.symm
            rw [hnew] at this
            cases this.1
          · exact hkeep s2 h5.2 a j hc2 hji hlj
      refine step_sound ho2 hr hB (fun t ht => by rw [hsn]; exact hdst i o' ho2 t ht) hst fun σ2 s2 a2 w2 hr2 hn2 hk2 => ?_
      have hsub : ∀ q ∈ xs ++ ys, q ∈ xs ++ (o', i) :: ys ∧ q.2 ≠ i := fun q hq => by
        rw [List.pairwise_append] at hp
        rcases List.mem_append.1 hq with hq | hq
        · exact ⟨by simp [hq], by have := hpair q hq; omega⟩
        · have h5 := (List.pairwise_cons.1 hp.2.1).1 q hq
          exact ⟨by simp [hq], by simp only at h5; omega⟩
      refine ih (xs ++ ys) (listed.setIfInBounds i true) σ2 s2 a2 w2 (by simp at hl ⊢; omega) (by simp [hsz]) (fun q hq => ?_) (fun j hj => ?_) (hp.sublist (by simp)) ?_ (hn2.trans hsn) hr2 hk2.2 hk2.1.2 hk2.1.1
      · obtain ⟨h5, h6⟩ := hsub q hq
        exact ⟨(h1 q h5).1, by rw [getD_set_ne true (Ne.symm h6)]; exact (h1 q h5).2⟩
      · have hji : i ≠ j := fun e => by
          subst e
          have hilt : i < listed.size := by rw [hsz]; exact (Array.getElem?_eq_some_iff.1 ho2).1
          simp [hilt] at hj
        rw [getD_set_ne true hji] at hj
        obtain ⟨oj, hoj⟩ := h2 j hj
        refine ⟨oj, ?_⟩
        rcases List.mem_append.1 hoj with h5 | h5
        · exact List.mem_append.2 (.inl h5)
        · rcases List.mem_cons.1 h5 with h5 | h5
          · cases h5; exact absurd rfl hji
          · exact List.mem_append.2 (.inr h5)
      · intro j oj hj hl' e he hb
        by_cases hij : i = j
        · subst hij
          have : oj = o' := Option.some.inj (hj.symm.trans ho2)
          subst this
          exact getD_set_true (hall e he hb)
        · rw [getD_set_ne false hij] at hl'
          exact getD_set_true (hc j oj hj hl' e he hb)
end

end Go.Proofs.Ytlaapbenpjopiaa.Sx

