/- Bridges between contracts of calls and what the writer of conditions asks: values alone, and slices of digits. No Go function in this text; no conditions. -/
import Derived.Test.YtkionnggdncncaaDoorSx
import Derived.Test.YtkionnggdncncaaDoorRefa
namespace Go.Proofs.YtkionnggdncncaaDoor
open Go.RowKit Sx

/-- A function with a body. -/
def Enters (P : Program) (f : FuncId) : Prop := ∃ fn, P.funcs[f]? = some fn ∧ (fn.name == "runtime.NumGoroutine") = false ∧ fn.body.isSome = true

theorem run_enters {P : Program} {f : FuncId} (h : Enters P f) (args : Array Value) (w : World) : (callFunc f args).run P w = .ok (.enter f args) w := by
  obtain ⟨fn, hf, hne, hb⟩ := h
  have hne' : ¬ fn.name = "runtime.NumGoroutine" := by simpa using hne
  obtain ⟨c, hc⟩ := Option.isSome_iff_exists.1 hb
  simp [callFunc, hf, hne', hc]

theorem callRun_enters {P : Program} {f : FuncId} (h : Enters P f) {args : Array Value} {w : World} {R : Value → World → Prop} : CallRun P f args w R ↔ Calls P f args w fun e w' => ∃ v, e = .returned v ∧ R v w' := by
  unfold CallRun
  rw [run_enters h]

def Sub (L A : Facts) : Prop := ∀ q ∈ L, q ∈ A
theorem Sub.nil (A : Facts) : Sub [] A := fun _ h => by cases h
theorem Sub.left (L A : Facts) : Sub L (L ++ A) := fun _ h => List.mem_append.2 (.inl h)

theorem Sx.Gives.sub {P : Program} {f : FuncId} {args : List Value} {A A' : Facts} {X : Type} {ret : X → Value} {M : X → Facts} (h : Gives P f args A X ret M) (hA : Sub A A') : Gives P f args A' X ret M := by
  intro w hw
  have := h w fun q hq => hw q (hA q hq)
  unfold CallRun at this ⊢
  have key : ∀ v w', (∃ x, v = ret x ∧ Holds w' (M x) ∧ (∀ q ∈ M x, w.heap.size ≤ q.1 ∨ ∃ q' ∈ A, q'.1 = q.1) ∧ Below w.heap.size w w') → ∃ x, v = ret x ∧ Holds w' (M x) ∧ (∀ q ∈ M x, w.heap.size ≤ q.1 ∨ ∃ q' ∈ A', q'.1 = q.1) ∧ Below w.heap.size w w' :=
    fun v w' ⟨x, h1, h2, h3, h4⟩ => ⟨x, h1, h2, fun q hq => (h3 q hq).imp id fun ⟨q', h5, h6⟩ => ⟨q', hA q' h5, h6⟩, h4⟩
  split at this
  · exact key _ _ this
  · exact this.mono fun e w' ⟨v, h1, h2⟩ => ⟨v, h1, key _ _ h2⟩
  · exact this

/-- The call gives this value, whatever lies in memory. -/
def Det (P : Program) (f : FuncId) (args : List Value) (v : Value) : Prop := ∀ A, Gives P f args A Unit (fun _ => v) (fun _ => [])
abbrev det (v : Value) : Or := .call Unit () (fun _ => v) (fun _ => [])

theorem gives_none {P : Program} {f : FuncId} {args : List Value} {A : Facts} {v : Value} (hE : Enters P f) (h : ∀ w, Holds w A → Calls P f args.toArray w fun e w' => e = .returned v ∧ Below w.heap.size w w') : Gives P f args A Unit (fun _ => v) (fun _ => []) := by
  intro w hw
  rw [callRun_enters hE]
  exact (h w hw).mono fun e w' ⟨h1, h2⟩ => ⟨v, h1, (), rfl, fun _ h => (by cases h), fun _ h => (by cases h), h2⟩

theorem Det.of_calls {P : Program} {f : FuncId} {args : List Value} {v : Value} (hE : Enters P f) (h : ∀ w, Calls P f args.toArray w fun e w' => e = .returned v ∧ Below w.heap.size w w') : Det P f args v :=
  fun _ => gives_none hE fun w _ => h w

theorem Sx.Gives.calls {P : Program} {f : FuncId} {args : List Value} {A : Facts} {v : Value} {M : Unit → Facts} (h : Gives P f args A Unit (fun _ => v) M) (hE : Enters P f) (w : World) (hw : Holds w A) : Calls P f args.toArray w fun e w' => e = .returned v ∧ Below w.heap.size w w' := by
  have := h w hw
  rw [callRun_enters hE] at this
  exact this.mono fun e w' ⟨u, h1, _, h2, _, _, h3⟩ => ⟨by rw [h1, h2], h3⟩
theorem Det.calls {P : Program} {f : FuncId} {args : List Value} {v : Value} (h : Det P f args v) (hE : Enters P f) (w : World) : Calls P f args.toArray w fun e w' => e = .returned v ∧ Below w.heap.size w w' :=
  (h []).calls hE w fun _ h => by cases h

/-- What is asked of a function's text, and its name. -/
def Good (P : Program) (f : FuncId) (fn : Func) (k : Nat) : Prop := P.funcs[f]? = some fn ∧ (fn.name == "runtime.NumGoroutine") = false ∧ okFn fn k = true
theorem Good.enters {P : Program} {f : FuncId} {fn : Func} {k : Nat} (h : Good P f fn k) : Enters P f := ⟨fn, h.1, h.2.1, by
  have := h.2.2
  unfold okFn at this
  cases hb : fn.body with
  | none => rw [hb] at this; cases this
  | some c => rfl⟩

def bare (args : List Value) : List (Value × Facts) := args.map fun v => (v, [])
theorem bare_facts : ∀ args : List Value, argFacts (bare args) = []
  | [] => rfl
  | _ :: r => by show [] ++ argFacts (bare r) = []; rw [bare_facts r]; rfl
theorem bare_vals (args : List Value) : (bare args).map (·.1) = args := by simp [bare, Function.comp_def]

theorem det_of_vc {P : Program} {f : FuncId} {fn : Func} {args : List Value} {v : Value} {O : List Orc} (hm : P.follows .mixedOrders = true) (hg : Good P f fn args.length) (h : ∀ B, Vc P fn B (bare args) Unit (fun _ => v) (fun _ => []) O) : Det P f args v := by
  intro A
  have := gives_of_vc (B := A) hg.1 hg.2.1 hm (by simpa [bare] using hg.2.2) (h A)
  rw [bare_facts, bare_vals, List.append_nil] at this
  exact this

theorem Sub.app {L M A : Facts} (h : Sub L A) (k : Sub M A) : Sub (L ++ M) A := fun q hq => (List.mem_append.1 hq).elim (h q) (k q)
theorem Sub.refl (A : Facts) : Sub A A := fun _ h => h
theorem Sub.holds {L A : Facts} (h : Sub L A) {w : World} (hw : Holds w A) : Holds w L := fun q hq => hw q (h q hq)

theorem gives_of_vcF {P : Program} {f : FuncId} {fn : Func} {args : List (Value × Facts)} {B A : Facts} {X : Type} {ret : X → Value} {M : X → Facts} {O : List Orc} (hm : P.follows .mixedOrders = true) (hg : Good P f fn args.length) (hA : Sub (B ++ argFacts args) A) (h : Vc P fn B args X ret M O) : Gives P f (args.map (·.1)) A X ret M :=
  (gives_of_vc hg.1 hg.2.1 hm hg.2.2 h).sub hA

/-- A slice that reads as the number n, and the memory that shows it. -/
structure BigX (n : Nat) where
  A : Option Addr
  cap : Nat
  L : Facts
  h : ∀ w, Holds w L → Big w (.slice A (nd n) cap) n
abbrev BigX.v {n : Nat} (x : BigX n) : Value := .slice x.A (nd n) x.cap

theorem cell_same {w w' : World} {b : Nat} (h : w'.heap[b]? = w.heap[b]?) (i : Nat) : w'.cell? ⟨b, i, none⟩ = w.cell? ⟨b, i, none⟩ := by unfold World.cell?; rw [h]

theorem bigX_of {w : World} {v : Value} {n : Nat} (h : Big w v n) : ∃ x : BigX n, v = x.v ∧ Holds w x.L ∧ ∀ q ∈ x.L, v.ownBlock = some q.1 := by
  obtain ⟨A, cap, rfl, h1, h2, h3, h4⟩ := h
  by_cases h0 : 0 < nd n
  · obtain ⟨b, rfl, hb, hc⟩ := h4 h0
    refine ⟨⟨some ⟨b, 0, none⟩, cap, [(b, w.heap[b])], fun w' hw => ⟨_, cap, rfl, h1, h2, h3, fun _ => ⟨b, rfl, ?_, fun i hi => ?_⟩⟩⟩, rfl, ?_, ?_⟩
    · exact lt_of_some (hw (b, w.heap[b]) (by simp))
    · rw [cell_same (w := w) (by rw [hw (b, w.heap[b]) (by simp)]; simp [hb])]; exact hc i hi
    · intro q hq; simp only [List.mem_singleton] at hq; subst hq; simp [hb]
    · intro q hq; simp only [List.mem_singleton] at hq; subst hq; rfl
  · exact ⟨⟨A, cap, [], fun w' _ => ⟨A, cap, rfl, h1, h2, h3, fun h => absurd h h0⟩⟩, rfl, fun _ h => (by cases h), fun _ h => (by cases h)⟩

/-- One such slice, in memory that there is none of: only that the type is not empty is wanted of it. -/
def bigX0 (n : Nat) : BigX n where
  A := none
  cap := 0
  L := [(0, .cells #[] 0), (0, .cells #[] 1)]
  h w hw := by
    have h0 : w.heap[0]? = _ := hw (0, .cells #[] 0) (by simp)
    have h1 : w.heap[0]? = _ := hw (0, .cells #[] 1) (by simp)
    rw [h0] at h1
    simp at h1

/-- A call that gives a number in a new slice. -/
theorem gives_big {P : Program} {f : FuncId} {args : List Value} {A : Facts} {n : Nat} (hE : Enters P f) (h : ∀ w, Holds w A → Calls P f args.toArray w fun e w' => ∃ v, e = .returned v ∧ Big w' v n ∧ Fresh w v ∧ Below w.heap.size w w') :
    Gives P f args A (BigX n) BigX.v BigX.L := by
  intro w hw
  rw [callRun_enters hE]
  refine (h w hw).mono fun e w' ⟨v, h1, h2, h3, h4⟩ => ⟨v, h1, ?_⟩
  obtain ⟨x, e1, e2, e3⟩ := bigX_of h2
  exact ⟨x, e1, e2, fun q hq => .inl (h3 _ (e3 q hq)), h4⟩
abbrev big (n : Nat) : Or := .call (BigX n) (bigX0 n) BigX.v BigX.L
abbrev big2 (n m : Nat) : Or := .call (BigX n × BigX m) (bigX0 n, bigX0 m) (fun x => .tuple #[x.1.v, x.2.v]) (fun x => x.1.L ++ x.2.L)
/-- A sign and a number. -/
abbrev sb (s : Bool) (n : Nat) : Or := .call (BigX n) (bigX0 n) (fun x => .agg #[.bool s, x.v]) BigX.L

/-- A call that gives two. -/
theorem gives_big2 {P : Program} {f : FuncId} {args : List Value} {A : Facts} {n m : Nat} (hE : Enters P f) (h : ∀ w, Holds w A → Calls P f args.toArray w fun e w' => ∃ u v, e = .returned (.tuple #[u, v]) ∧ Big w' u n ∧ Big w' v m ∧ Below w.heap.size w w' ∧ Fresh w u ∧ Fresh w v) :
    Gives P f args A (BigX n × BigX m) (fun x => .tuple #[x.1.v, x.2.v]) (fun x => x.1.L ++ x.2.L) := by
  intro w hw
  rw [callRun_enters hE]
  refine (h w hw).mono fun e w' ⟨u, v, h1, h2, h3, h4, h5, h6⟩ => ⟨_, h1, ?_⟩
  obtain ⟨x, e1, e2, e3⟩ := bigX_of h2
  obtain ⟨y, f1, f2, f3⟩ := bigX_of h3
  refine ⟨(x, y), by rw [e1, f1], fun q hq => (List.mem_append.1 hq).elim (e2 q) (f2 q), fun q hq => .inl ?_, h4⟩
  rcases List.mem_append.1 hq with hq | hq
  · exact h5 _ (e3 q hq)
  · exact h6 _ (f3 q hq)
end Go.Proofs.YtkionnggdncncaaDoor

