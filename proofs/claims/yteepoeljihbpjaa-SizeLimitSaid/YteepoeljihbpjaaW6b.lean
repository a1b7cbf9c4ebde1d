/- Slices of bytes that are made: literals, rows of rows, append to nothing, append of zeros. No Go function in this text; no conditions. -/
import Derived.Test.YteepoeljihbpjaaW6n
import Derived.Great.BuildSlice
namespace Go.Proofs.Yteepoeljihbpjaa
open Go.RowKit Sx
set_option maxRecDepth 100000

theorem Sx.CallRun.mono {P : Program} {f : FuncId} {args : Array Value} {w : World} {R R' : Value → World → Prop} (h : CallRun P f args w R) (hr : ∀ v w', R v w' → R' v w') : CallRun P f args w R' := by
  unfold CallRun at h ⊢
  split at h
  · exact hr _ _ h
  · exact Calls.mono h fun _ _ ⟨v, hv, hR⟩ => ⟨v, hv, hr _ _ hR⟩
  · exact h.elim
/-- A row of its own. -/
def Byt.row (m : Nat) (l : List UInt8) : Byt where
  o := some ⟨m, 0, none⟩
  n := l.length
  cap := l.length
  l := l
  L := [(m, .cells (bcs l).toArray 5)]
  hl := rfl
  hc := Nat.le_refl _
  hs := fun _ => rfl
  h := fun w hw i hi => by
    have h1 := hw _ (List.mem_singleton.2 rfl)
    simp only at h1
    simp only [Option.getD_some, add_none, Nat.zero_add]
    simp only [World.cell?, h1]
    rw [List.getElem?_toArray]
    exact bcs_get hi
def Byt.nil : Byt where
  o := none
  n := 0
  cap := 0
  l := []
  L := []
  hl := rfl
  hc := Nat.le_refl _
  hs := fun h => absurd h (by decide)
  h := fun _ _ i hi => absurd hi (by omega)

theorem info_u8 : ∃ i, Try.prog.info? 5 = some i ∧ i.size = 1 ∧ i.bytes = 1 ∧ i.zero = some (.int .u8 0) := by
  have h1 : (Try.prog.info? 5).map (fun i => (i.size, i.bytes, i.zero)) = some (1, 1, some (.int .u8 0)) := by kernel_rfl
  cases h : Try.prog.info? 5 with
  | none => rw [h] at h1; cases h1
  | some i => rw [h] at h1; simp at h1; exact ⟨i, rfl, h1.1, h1.2.1, h1.2.2⟩
theorem info_row : ∃ i, Try.prog.info? 22 = some i ∧ i.size = 1 ∧ i.zero = some (.slice none 0 0) := by
  have h1 : (Try.prog.info? 22).map (fun i => (i.size, i.zero)) = some (1, some (.slice none 0 0)) := by kernel_rfl
  cases h : Try.prog.info? 22 with
  | none => rw [h] at h1; cases h1
  | some i => rw [h] at h1; simp at h1; exact ⟨i, rfl, h1.1, h1.2⟩

section
variable {ρ : Operand → Value} {dst : Option Tmp} {type : TypeId} {pos : String} {after : Array Edge} {guard : Option (Nat × Bool)}
/-- An operation that makes one block. -/
theorem gives_alloc {m : Sem Next} {A F : Facts} {X : Type} {ret : X → Value} {M : X → Facts} (x : Nat → X) (obj : Obj) (hr : ∀ w, m.run Try.prog w = .ok (.value (ret (x w.heap.size))) (w.alloc obj)) (hM : ∀ k, M (x k) = (k, obj) :: F) (hF : Sub F A) : GivesOp Try.prog m A X ret M := by
  intro w hw
  unfold OpRun
  rw [hr]
  have hh : (w.alloc obj).heap = w.heap.push obj := rfl
  refine ⟨x w.heap.size, rfl, ?_, ?_, ⟨rfl, rfl, rfl, by rw [hh, Array.size_push]; omega, fun k hk => by rw [hh, Array.getElem?_push, if_neg (Nat.ne_of_lt hk)]⟩⟩
  · rw [hM]
    intro q hq
    rw [hh, Array.getElem?_push]
    rcases List.mem_cons.1 hq with rfl | hq
    · rw [if_pos rfl]
    · have h1 := hw q (hF q hq)
      have h2 : q.1 < w.heap.size := (Array.getElem?_eq_some_iff.1 h1).1
      rw [if_neg (Nat.ne_of_lt h2)]
      exact h1
  · rw [hM]
    intro q hq
    rcases List.mem_cons.1 hq with rfl | hq
    · exact .inl (Nat.le_refl _)
    · exact .inr ⟨q, hF q hq, rfl⟩
theorem build_0 (A : Facts) : GivesOp Try.prog (execOp ρ ⟨dst, .buildSlice 22 0 #[], type, pos, after, guard⟩) A Nat (fun m => (Byt.row m []).v) (fun m => (Byt.row m []).L) := by
  obtain ⟨i, hi, _, _, _⟩ := info_u8
  refine gives_alloc (F := []) id (.cells #[] 5) (fun w => ?_) (fun k => rfl) (fun _ h => by cases h)
  simp [execOp, Instr.buildSlice, run_underlying Try.underlying22, sizeOf, typeInfo, hi, Instr.fill, newRow, Byt.row]
  kernel_rfl
theorem build_1 (b : UInt8) (A : Facts) {x : Operand} (hx : ρ x = .int .u8 (b.toNat : Int) := by rfl) : GivesOp Try.prog (execOp ρ ⟨dst, .buildSlice 22 1 #[(0, x)], type, pos, after, guard⟩) A Nat (fun m => (Byt.row m [b]).v) (fun m => (Byt.row m [b]).L) := by
  obtain ⟨i, hi, hs, _, hz⟩ := info_u8
  refine gives_alloc (F := []) id (.cells (bcs [b]).toArray 5) (fun w => ?_) (fun k => rfl) (fun _ h => by cases h)
  have hf : Instr.fill (fun j => some (j * 1, 1)) ((Array.range (1 * 1)).map ((Value.int .u8 0).cells[· % (Value.int .u8 0).cells.size]!)) [(0, .int .u8 (b.toNat : Int))] = some (bcs [b]).toArray := by kernel_rfl
  have hb := run_buildSlice w 22 5 1 #[(0, .int .u8 (b.toNat : Int))] (bcs [b]).toArray i (.int .u8 0) Try.underlying22 hi hz (by rw [hs]; decide) (by rw [hs]; decide) (by rw [hs]; exact hf)
  simp [execOp, hx, hb, Byt.row]
/-- 'append' of bytes to a slice of no length and no room. -/
theorem own_app (y : Byt) {A : Facts} (hA : Sub y.L A) (hn : y.n ≤ 1099511627776) {x s : Operand} {o : Option Addr} (hx : ρ x = .slice o 0 0 := by rfl) (hs : ρ s = y.v := by rfl) :
    OwnOp Try.prog (execOp ρ ⟨dst, .call ⟨.builtin .append, #[x, s], #[22, 22]⟩, type, pos, after, guard⟩) A Unit 5 1 (fun _ => bcs y.l) := by
  intro w hw
  obtain ⟨i, hi, h1, hby, hz⟩ := info_u8
  have hsrc := y.src hA w hw
  rw [← h1] at hsrc
  obtain ⟨y', w', m', g1, g2, g3, g4, g5, g6, g7, g8⟩ := append_buf (P := Try.prog) (ty := type) (m := 0) (c := []) (y := .slice o 0 0) Try.underlying22 hi hz (by rw [h1]; rfl) (by omega) (by omega) (.inl ⟨rfl, o, rfl⟩) hsrc (by rw [bcs_length, y.hl]; simpa using hn)
  unfold OpRun
  have hrun : (execOp ρ ⟨dst, .call ⟨.builtin .append, #[x, s], #[22, 22]⟩, type, pos, after, guard⟩).run Try.prog w = .ok (.value y') w' := by
    simp [execOp, resolve, invoke, builtin, hx, hs, g1]
  rw [hrun]
  refine ⟨(), ?_, ⟨g6, g7, g8, g3, fun k hk => g4 k hk (by omega)⟩⟩
  rw [List.nil_append, h1] at g2
  rcases g2 with ⟨e, o', e'⟩ | ⟨hm, sp, n, cap, k1, k2, k3, k4⟩
  · exact .inl ⟨e, o', e'⟩
  · refine .inr ⟨m' - 1, sp, n, cap, ?_, k1, k2, k3, k4⟩
    rcases g5 hm with e | e
    · exact absurd e hm
    · omega
/-- 'append' of n zeros to nothing, as 'slices.Grow' does it. -/
theorem give_zeros {n : Nat} (h0 : 0 < n) (hn : n ≤ 1099511627776) (A : Facts) {x s : Operand} (hx : ρ x = .slice none 0 0 := by rfl) (hs : ρ s = .int .i64 (n : Int) := by rfl) :
    GivesOp Try.prog (execOp ρ ⟨dst, .call ⟨.builtin .append, #[x, s], #[22, 3]⟩, type, pos, after, guard⟩) A (Nat × List Value) (fun q => .slice (some ⟨q.1, 0, none⟩) n q.2.length) (fun q => [(q.1, .cells q.2.toArray 5)]) := by
  obtain ⟨i, hi, h1, hby, hz⟩ := info_u8
  intro w hw
  have hfit : Builtin.nextslicecap n 0 * 1 ≤ 281474976710656 := by
    have := nextslicecap_le (need := n) (old := 0) (by omega)
    omega
  have hcap : n ≤ grownCap w n 0 5 := grownCap_ge w n 0 _
  have hwrap : IntKind.i64.wrap (n : Int) = (n : Int) := wrap_nat (by omega)
  have hrun : (Builtin.append_ #[22, 3] type #[.slice none 0 0, .int .i64 (n : Int)]).run Try.prog w = .ok (.slice (some ⟨w.heap.size, 0, none⟩) n (grownCap w n 0 5)) (w.drew.alloc (.cells (Builtin.zeroCells (Value.int .u8 0).cells n ++ Builtin.zeroCells (Value.int .u8 0).cells (grownCap w n 0 5 - n)) 5)) := by
    have hn0 : ¬ ((n : Int) < 0) := by omega
    have e2 : ¬ (n = 0) := by omega
    have e3 : ¬ (9223372036854775807 < (n : Int)) := by omega
    have e4 : ¬ (281474976710656 < Builtin.nextslicecap n 0) := by omega
    have e6 : ¬ (281474976710656 < (n : Int)) := by omega
    simp [Builtin.append_, run_underlying Try.underlying22, run_underlying Try.underlying3, sizeOf, typeInfo, zeroValue, hi, hz, h1, hby, hwrap, asInt, asIntOf, hn0, e2, e3, e4, e6, Question.forced, Builtin.firstCells, newRow, grownCap]
  have hop : (execOp ρ ⟨dst, .call ⟨.builtin .append, #[x, s], #[22, 3]⟩, type, pos, after, guard⟩).run Try.prog w = .ok (.value (.slice (some ⟨w.heap.size, 0, none⟩) n (grownCap w n 0 5))) (w.drew.alloc (.cells (Builtin.zeroCells (Value.int .u8 0).cells n ++ Builtin.zeroCells (Value.int .u8 0).cells (grownCap w n 0 5 - n)) 5)) := by
    simp [execOp, resolve, invoke, builtin, hx, hs, hrun]
  unfold OpRun
  rw [hop]
  generalize hz : Builtin.zeroCells (Value.int .u8 0).cells n ++ Builtin.zeroCells (Value.int .u8 0).cells (grownCap w n 0 5 - n) = cs
  have hcs : cs.size = grownCap w n 0 5 := by
    rw [← hz, Array.size_append, size_zeroCells, size_zeroCells]
    show n * 1 + (_ - n) * 1 = _
    omega
  have hh : (w.drew.alloc (.cells cs 5)).heap = w.heap.push (.cells cs 5) := rfl
  refine ⟨(w.heap.size, cs.toList), ?_, ?_, ?_, ⟨rfl, rfl, rfl, by rw [hh, Array.size_push]; omega, fun k hk => by rw [hh, Array.getElem?_push, if_neg (Nat.ne_of_lt hk)]⟩⟩
  · simp [hcs]
  · intro q hq
    rw [List.mem_singleton.1 hq, hh, Array.getElem?_push, if_pos rfl]
  · intro q hq
    rw [List.mem_singleton.1 hq]
    exact .inl (Nat.le_refl _)
theorem ld_cap (A : Facts) {x : Operand} (hx : ρ x = .slice none 0 0 := by rfl) :
    ∀ w, Sx.Holds w A → (execOp ρ ⟨dst, .call ⟨.builtin .cap, #[x], #[22]⟩, type, pos, after, guard⟩).run Try.prog w = .ok (.value (.int .i64 0)) w := by
  intro w _
  simp [execOp, resolve, invoke, builtin, hx, Builtin.cap_, run_underlying Try.underlying22]
  rfl
/-- A slice that nobody else holds, given away. -/
theorem Sx.GivesA.gives {P : Program} {f : FuncId} {args : List Value} {A : Facts} {e : Nat} {c : List Value} (h : GivesA P f args A Unit e 1 (fun _ => c)) : Gives P f args A (FrX c) (fun x => .slice (frO x) (lenB c 1) (frC 1 x)) (fun x => frL e x) := by
  intro w hw
  refine (h w hw).mono fun v w' ⟨_, hf, hb⟩ => ?_
  rcases hf with ⟨hc, o, rfl⟩ | ⟨m, sp, n, cap, h0, h1, rfl, h3, h4⟩
  · exact ⟨.inl (⟨hc⟩, o), by show Value.slice o 0 0 = .slice o c.length 0; rw [show c = [] from hc]; rfl, fun q hq => (by cases hq), fun q hq => (by cases hq), hb⟩
  · refine ⟨.inr (m, sp), ?_, fun q hq => ?_, fun q hq => ?_, hb⟩
    · show Value.slice (some ⟨m, 0, none⟩) n cap = .slice (some ⟨m, 0, none⟩) c.length ((c.length + sp.length) / 1)
      rw [Nat.div_one, h4, h3, Nat.mul_one, Nat.mul_one]
    · rw [List.mem_singleton.1 hq]; exact h1
    · rw [List.mem_singleton.1 hq]; exact .inl h0
theorem Sx.GivesA.sub {P : Program} {f : FuncId} {args : List Value} {A A' : Facts} {X : Type} {e sz : Nat} {c : X → List Value} (h : GivesA P f args A X e sz c) (hs : Sub A A') : GivesA P f args A' X e sz c := fun w hw => h w (hs.holds hw)
theorem givesA_of_vcF {P : Program} {f : FuncId} {fn : Func} {args : List (Value × Facts)} {B A : Facts} {X : Type} {e sz : Nat} {c : X → List Value} {O : List Orc} (hm : P.follows .mixedOrders = true) (hg : Good P f fn args.length) (hA : Sub (B ++ argFacts args) A) (h : VcA P fn B args X e sz c O) : GivesA P f (args.map (·.1)) A X e sz c :=
  (givesA_of_vc hg.1 hg.2.1 hm hg.2.2 h).sub hA
/-- An oracle: a slice that nobody else holds, given away. -/
abbrev frv (c : List Value) : Or := .call (FrX c) (.inr (0, [])) (fun x => .slice (frO x) (lenB c 1) (frC 1 x)) (fun x => frL 5 x)
end
end Go.Proofs.Yteepoeljihbpjaa

