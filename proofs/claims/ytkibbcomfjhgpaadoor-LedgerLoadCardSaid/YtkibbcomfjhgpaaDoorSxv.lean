/- What is asked for a piece of code, where what follows it is a variable: then the kernel never unfolds the rest of a function. No Go function in this text; no conditions. -/
import Derived.Test.YtkibbcomfjhgpaaDoorSx
namespace Go.Proofs.YtkibbcomfjhgpaaDoor.Sx
open Go.RowKit

section
variable {P : Program} {B : Facts} {a b c : Code} {O : List Orc} {s : St} {K : List Orc → Exit → St → Prop}
abbrev KSeq (P : Program) (B : Facts) (b : Code) (K : List Orc → Exit → St → Prop) : List Orc → Exit → St → Prop := fun O' e s' =>
  match e with
  | .normal => run P B b O' s' K
  | e => K O' e s'
theorem rSeqK (h : ∀ K' : List Orc → Exit → St → Prop, (∀ O e s, KSeq P B b K O e s → K' O e s) → run P B a O s K') : run P B (.seq a b) O s K := h _ (fun _ _ _ h => h)
abbrev KBlk (id : Nat) (K : List Orc → Exit → St → Prop) : List Orc → Exit → St → Prop := fun O' e s' =>
  match e with
  | .exit j => bif Nat.beq j id then K O' .normal s' else K O' (.exit j) s'
  | e => K O' e s'
theorem rBlkK {id : Nat} (h : ∀ K' : List Orc → Exit → St → Prop, (∀ O e s, KBlk id K O e s → K' O e s) → run P B c O s K') : run P B (.block id c) O s K := h _ (fun _ _ _ h => h)
abbrev KInv {X : Type} (S : X → Ls) (μ : X → Nat) (x : X) (K : List Orc → Exit → St → Prop) : List Orc → Exit → St → Prop := fun O' e s' =>
  match e with
  | .normal => ∃ x', μ x' < μ x ∧ Le s' (S x')
  | e => K O' e s'
theorem rInvK {X : Type} {S : X → Ls} {μ : X → Nat} {Ob : X → List Orc} (h0 : ∃ x0, Le s (S x0)) (h : ∀ (x : X) (K' : List Orc → Exit → St → Prop), (∀ O e s, KInv S μ x K O e s → K' O e s) → run P B c (Ob x) (S x).st K') : run P B (.loop c) (.inv X S μ Ob :: O) s K := ⟨h0, fun x => h x _ (fun _ _ _ h => h)⟩
abbrev KInvT {X : Type} (S : X → Ls) (Th : X → List (Nat × TP)) (μ : X → Nat) (x : X) (K : List Orc → Exit → St → Prop) : List Orc → Exit → St → Prop := fun O' e s' =>
  match e with
  | .normal => ∃ x', μ x' < μ x ∧ Le s' (S x') ∧ LeT s' (Th x')
  | e => K O' e s'
theorem rInvTK {X : Type} {S : X → Ls} {Th : X → List (Nat × TP)} {μ : X → Nat} {Ob : X → List Orc} (h0 : ∃ x0, Le s (S x0) ∧ LeT s (Th x0)) (h : ∀ (x : X) (K' : List Orc → Exit → St → Prop), (∀ O e s, KInvT S Th μ x K O e s → K' O e s) → run P B c (Ob x) ((S x).st.thr fun k => look k (Th x)) K') : run P B (.loop c) (.invT X S Th μ Ob :: O) s K := ⟨h0, fun x => h x _ (fun _ _ _ h => h)⟩
end
end Go.Proofs.YtkibbcomfjhgpaaDoor.Sx

