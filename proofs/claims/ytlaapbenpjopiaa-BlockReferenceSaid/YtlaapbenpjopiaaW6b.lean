/- Slices of bytes that are made: literals, rows of rows, append to nothing, append of zeros. No Go function in this text; no conditions. -/
import Derived.Test.YtlaapbenpjopiaaW6n
import Derived.Great.BuildSlice
namespace Go.Proofs.Ytlaapbenpjopiaa
open Go.RowKit Sx
set_option maxRecDepth 100000

theorem Sx.CallRun.mono {P : Program} {f : FuncId} {args : Array Value} {w : World} {R R' : Value → World → Prop} (h : CallRun P f args w R) (hr : ∀ v w', R v w' → R' v w') : CallRun P f args w R' := by
  unfold CallRun at h ⊢
  split at h
  · exact hr _ _ h
  · exact Calls.mono h fun _ _ ⟨v, hv, hR⟩ => ⟨v, hv, hr _ _ hR⟩
  · exact h.elim
/-- A row of its own. -/
def Byt.row (m : Nat) (l : List UInt8) : Byt where
  o := some ⟨m, 0, none⟩
  n := l.length
  cap := l.length
  l := l
  L := [(m, .cells (bcs l).toArray 5)]
  hl := rfl
  hc := Nat.le_refl _
  hs := fun _ => rfl
  h := fun w hw i hi => by
    have h1 := hw _ (List.mem_singleton.2 rfl)
    simp only at h1
    simp only [Option.getD_some, add_none, Nat.zero_add]
    simp only [World.cell?, h1]
    rw [List.getElem?_toArray]
    exact bcs_get hi
def Byt.nil : Byt where
  o := none
  n := 0
  cap := 0
  l := []
  L := []
  hl := rfl
  hc := Nat.le_refl _
  hs := fun h => absurd h (by decide)
  h := fun _ _ i hi => absurd hi (by omega)

theorem info_u8 : ∃ i, Try.prog.info? 5 = some i ∧ i.size = 1 ∧ i.bytes = 1 ∧ i.zero = some (.int .u8 0) := by
  have h1 : (Try.prog.info? 5).map (fun i => (i.size, i.bytes, i.zero)) = some (1, 1, some (.int .u8 0)) := by kernel_rfl
  cases h : Try.prog.info? 5 with
  | none => rw [h] at h1; cases h1
  | some i => rw [h] at h1; simp at h1; exact ⟨i, rfl, h1.1, h1.2.1, h1.2.2⟩
section
variable {ρ : Operand → Value} {dst : Option Tmp} {type : TypeId} {pos : String} {after : Array Edge} {guard : Option (Nat × Bool)}
/-- An operation that makes one block. -/
theorem gives_alloc {m : Sem Next} {A F : Facts} {X : Type} {ret : X → Value} {M : X → Facts} (x : Nat → X) (obj : Obj) (hr : ∀ w, m.run Try.prog w = .ok (.value (ret (x w.heap.size))) (w.alloc obj)) (hM : ∀ k, M (x k) = (k, obj) :: F) (hF : Sub F A) : GivesOp Try.prog m A X ret M := by
  intro w hw
  unfold OpRun
  rw [hr]
  have hh : (w.alloc obj).heap = w.heap.push obj := rfl
  refine ⟨x w.heap.size, rfl, ?_, ?_, ⟨rfl, rfl, rfl, by rw [hh, Array.size_push]; omega, fun k hk => by rw [hh, Array.getElem?_push, if_neg (Nat.ne_of_lt hk)]⟩⟩
  · rw [hM]
    intro q hq
    rw [hh, Array.getElem?_push]
    rcases List.mem_cons.1 hq with rfl | hq
    · rw [if_pos rfl]
    · have h1 := hw q (hF q hq)
      have h2 : q.1 < w.heap.size := (Array.getElem?_eq_some_iff.1 h1).1
      rw [if_neg (Nat.ne_of_lt h2)]
      exact h1
  · rw [hM]
    intro q hq
    rcases List.mem_cons.1 hq with rfl | hq
    · exact .inl (Nat.le_refl _)
    · exact .inr ⟨q, hF q hq, rfl⟩
/-- A slice that nobody else holds, given away. -/
theorem Sx.GivesA.gives {P : Program} {f : FuncId} {args : List Value} {A : Facts} {e : Nat} {c : List Value} (h : GivesA P f args A Unit e 1 (fun _ => c)) : Gives P f args A (FrX c) (fun x => .slice (frO x) (lenB c 1) (frC 1 x)) (fun x => frL e x) := by
  intro w hw
  refine (h w hw).mono fun v w' ⟨_, hf, hb⟩ => ?_
  rcases hf with ⟨hc, o, rfl⟩ | ⟨m, sp, n, cap, h0, h1, rfl, h3, h4⟩
  · exact ⟨.inl (⟨hc⟩, o), by show Value.slice o 0 0 = .slice o c.length 0; rw [show c = [] from hc]; rfl, fun q hq => (by cases hq), fun q hq => (by cases hq), hb⟩
  · refine ⟨.inr (m, sp), ?_, fun q hq => ?_, fun q hq => ?_, hb⟩
    · show Value.slice (some ⟨m, 0, none⟩) n cap = .slice (some ⟨m, 0, none⟩) c.length ((c.length + sp.length) / 1)
      rw [Nat.div_one, h4, h3, Nat.mul_one, Nat.mul_one]
    · rw [List.mem_singleton.1 hq]; exact h1
    · rw [List.mem_singleton.1 hq]; exact .inl h0
theorem Sx.GivesA.sub {P : Program} {f : FuncId} {args : List Value} {A A' : Facts} {X : Type} {e sz : Nat} {c : X → List Value} (h : GivesA P f args A X e sz c) (hs : Sub A A') : GivesA P f args A' X e sz c := fun w hw => h w (hs.holds hw)
theorem givesA_of_vcF {P : Program} {f : FuncId} {fn : Func} {args : List (Value × Facts)} {B A : Facts} {X : Type} {e sz : Nat} {c : X → List Value} {O : List Orc} (hm : P.follows .mixedOrders = true) (hg : Good P f fn args.length) (hA : Sub (B ++ argFacts args) A) (h : VcA P fn B args X e sz c O) : GivesA P f (args.map (·.1)) A X e sz c :=
  (givesA_of_vc hg.1 hg.2.1 hm hg.2.2 h).sub hA
/-- An oracle: a slice that nobody else holds, given away. -/
abbrev frv (c : List Value) : Or := .call (FrX c) (.inr (0, [])) (fun x => .slice (frO x) (lenB c 1) (frC 1 x)) (fun x => frL 5 x)
end
end Go.Proofs.Ytlaapbenpjopiaa

