/- A writer of conditions for calls of Go functions, its end: what a call gives back, contracts out of what was asked; Go's == of arrays and structs. No Go function in this text; no conditions. -/
import Derived.Test.YtijmefealelkfaaSxd
namespace Go.Proofs.Ytijmefealelkfaa.Sx
open Go.RowKit

section
variable {P : Program} {w0 : Start} {A B : Facts}

/-- Facts that hold, of what is new or came in. -/
def Came (σ : Pl) (w0 : Start) (A : Facts) (w : World) (L : Facts) : Prop := Holds w L ∧ (∀ q ∈ L, w0.heap.size ≤ q.1 ∨ ∃ q' ∈ A, q'.1 = q.1) ∧ ∀ q ∈ L, ∀ k, ∀ q' ∈ σ.th k, q'.1 ≠ q.1
theorem Came.app {σ : Pl} {w : World} {L M : Facts} (h : Came σ w0 A w L) (k : Came σ w0 A w M) : Came σ w0 A w (L ++ M) :=
  ⟨fun q hq => (List.mem_append.1 hq).elim (h.1 q) (k.1 q), fun q hq => (List.mem_append.1 hq).elim (h.2.1 q) (k.2.1 q), fun q hq => (List.mem_append.1 hq).elim (h.2.2 q) (k.2.2 q)⟩
theorem FOk.toCame {σ : Pl} {hp : Nat → Option Blk} {w : World} {L : Facts} (h : FOk σ hp w0 A w L) : Came σ w0 A w L := ⟨h.holds, h.came, h.free⟩

theorem buf_out {σ : Pl} {s : St} {a : Act} {w : World} (h : Rel σ w0 A s a w) {k : Nat} {b : Blk} (hb : s.hp k = some b) {sz : Nat} (hz : sz ≠ 0) {y : Value} (hbuf : BufOk (σ k) w b.ty b.c sz y) :
    ∃ x : FrX b.c, y = .slice (frO x) (lenB b.c sz) (frC sz x) ∧ Came σ w0 A w (frL b.ty x) := by
  rcases hbuf with ⟨q1, o', q2⟩ | ⟨q0, sp, n', cap, q1, q2, q3, q4⟩
  · have hl0 : lenB b.c sz = 0 := lenB_of hz (by rw [q1]; simp)
    exact ⟨.inl ⟨⟨q1⟩, o'⟩, by rw [q2, hl0]; rfl, fun _ h => (by cases h), fun _ h => (by cases h), fun _ h => (by cases h)⟩
  · refine ⟨.inr (σ k - 1, sp), ?_, ?_, ?_, ?_⟩
    · rw [q2, lenB_of hz q3]
      simp only [frO, frC, q4]
      rw [Nat.mul_div_cancel _ (by omega)]
    · intro q hq
      simp only [frL, List.mem_singleton] at hq
      subst hq
      exact q1
    · intro q hq
      simp only [frL, List.mem_singleton] at hq
      subst hq
      have := (h.place k b hb q0).1
      left
      simp only
      omega
    · intro q hq i q' hq'
      simp only [frL, List.mem_singleton] at hq
      subst hq
      intro e
      exact h.things.apart i q' hq' k b hb (by simp only at e; omega)

theorem res_sound {s : St} {σ : Pl} {a : Act} {w : World} (h : Rel σ w0 A s a w) (g : ResultVar → Sem Value) (g1 : ∀ t, g (.tmp t) = pure (a.tmps.getD t undef)) (g2 : ∀ x t, g (.cell x t) = (do loadVar t (← asAddr (a.tmps.getD x undef)))) :
    ∀ {l : List ResultVar} {K : List Value → Facts → Prop}, resK P s l K → ∃ vs L, (l.mapM g).run P w = .ok vs w ∧ Came σ w0 A w L ∧ K vs L
  | [], K, hl => ⟨[], [], rfl, ⟨fun _ h => (by cases h), fun _ h => (by cases h), fun _ h => (by cases h)⟩, hl⟩
  | .tmp t :: r, K, hl => by
    unfold resK at hl
    split at hl
    · rename_i x L1 ht
      obtain ⟨vs, M, h1, h2, h5⟩ := res_sound h g g1 g2 hl
      obtain ⟨h3, h4⟩ := h.tm t _ ht
      exact ⟨_, _, by simp only [List.mapM_cons, g1, Sem.run_bind, Sem.run_pure, Result.andThen_ok, h3, h1], h4.toCame.app h2, h5⟩
    · rename_i k off n c ht
      obtain ⟨h3, b', hb', hn⟩ := h.tm t _ ht
      rw [hb'] at hl
      obtain ⟨vs, M, h1, h2, h5⟩ := res_sound h g g1 g2 (hl (σ k - 1))
      obtain ⟨h6, h7⟩ := h.hp k b' hb'
      obtain ⟨h8, h9⟩ := h6 hn
      refine ⟨_, _, by simp only [List.mapM_cons, g1, Sem.run_bind, Sem.run_pure, Result.andThen_ok, h3, h1], ?_, h5⟩
      have hc : Came σ w0 A w [(σ k - 1, .cells b'.c.toArray b'.t)] := ⟨fun q hq => by simp only [List.mem_singleton] at hq; subst hq; exact h9, fun q hq => by
        simp only [List.mem_singleton] at hq
        subst hq
        have := (h.place k b' hb' h8).1
        left
        simp only
        omega, fun q hq i q' hq' => by
        simp only [List.mem_singleton] at hq
        subst hq
        intro e
        exact h.things.apart i q' hq' k b' hb' (by simp only at e; omega)⟩
      exact hc.app (h7.toCame.app h2)
    · rename_i k ver sz ht
      obtain ⟨b', hb', hn, hle, hbuf⟩ := h.tm t _ ht
      rw [hb'] at hl
      simp only at hl
      split at hl
      · rename_i hc
        simp only [Bool.and_eq_true, Bool.not_eq_true'] at hc
        have hz : sz ≠ 0 := fun e => by rw [e] at hc; simp at hc
        obtain ⟨x, hx1, hx2⟩ := buf_out h hb' hz (hbuf (Nat.eq_of_beq_eq_true hc.1.2))
        obtain ⟨vs, M, h1, h2, h5⟩ := res_sound h g g1 g2 (hl x)
        exact ⟨_, _, by simp only [List.mapM_cons, g1, Sem.run_bind, Sem.run_pure, Result.andThen_ok, hx1, h1], hx2.app ((h.hp k b' hb').2.toCame.app h2), h5⟩
      · exact hl.elim
    · exact hl.elim
  | .cell x t :: r, K, hl => by
    unfold resK at hl
    split at hl
    · rename_i kk off ht
      split at hl
      · rename_i b hb
        split at hl
        · rename_i y hno hy
          obtain ⟨vs, M, h1, h2, h7⟩ := res_sound h g g1 g2 hl
          obtain ⟨h3, h4⟩ := h.tm x _ ht
          have h5 := ldOwn_sound (w := w) hy (cell_own h hb hno)
          have h6 : (asAddr (a.tmps.getD x undef)).run P w = .ok ⟨σ kk - 1, off, none⟩ w := by rw [h3]; rfl
          exact ⟨_, _, by simp only [List.mapM_cons, g2, Sem.run_bind, Sem.run_pure, Result.andThen_ok, h6, h5, h1], (h.hp kk b hb).2.toCame.app h2, h7⟩
        · exact hl.elim
      · exact hl.elim
    · exact hl.elim

theorem results_run {fn : Func} {a : Act} {w : World} {vs : List Value} (key : ∀ g : ResultVar → Sem Value, (∀ t, g (.tmp t) = pure (a.tmps.getD t undef)) → (∀ x t, g (.cell x t) = (do loadVar t (← asAddr (a.tmps.getD x undef)))) → (fn.results.toList.mapM g).run P w = .ok vs w) :
    (results fn a.tmps).run P w = .ok (one vs) w := by
  unfold results
  rw [Array.mapM_eq_mapM_toList, Sem.run_bind, Sem.run_map, key]
  · simp only [Result.andThen_ok, Sem.run_pure]
    congr 1
    cases vs with
    | nil => simp [one]
    | cons x r =>
      cases r with
      | nil => simp [one]
      | cons y r => simp [one]
  · exact fun _ => rfl
  · exact fun _ _ => rfl

theorem results_sound {fn : Func} {s : St} {σ : Pl} {a : Act} {w : World} (h : Rel σ w0 A s a w) {K : List Value → Facts → Prop} (hr : resK P s fn.results.toList K) :
    ∃ vs L, (results fn a.tmps).run P w = .ok (one vs) w ∧ Came σ w0 A w L ∧ K vs L := by
  obtain ⟨vs, L, h1, h2, h3⟩ := res_sound h (fun r => match r with | .tmp t => pure (a.tmps.getD t undef) | .cell x t => do loadVar t (← asAddr (a.tmps.getD x undef))) (fun _ => rfl) (fun _ _ => rfl) hr
  refine ⟨vs, L, results_run fun g g1 g2 => ?_, h2, h3⟩
  have : g = (fun r => match r with | .tmp t => pure (a.tmps.getD t undef) | .cell x t => do loadVar t (← asAddr (a.tmps.getD x undef))) := by
    funext r
    cases r with
    | tmp t => exact g1 t
    | cell x t => exact g2 x t
  rw [this]
  exact h1

def okFn (fn : Func) (k : Nat) : Bool :=
  match fn.body with
  | none => false
  | some c => okCode fn.ntmps c && Nat.ble k fn.ntmps

theorem argTm_spec : ∀ {args : List (Value × Facts)} {i : Nat} {sv : SV}, argTm args i = some sv → ∃ q, args[i]? = some q ∧ sv = .v q.1 q.2
  | [], i, sv, h => by cases h
  | (x, L) :: r, i, sv, h => by
    unfold argTm at h
    cases i with
    | zero => simp at h; exact ⟨(x, L), rfl, h.symm⟩
    | succ i =>
      simp at h
      obtain ⟨q, h1, h2⟩ := argTm_spec h
      exact ⟨q, by simpa using h1, h2⟩

theorem argFacts_mem : ∀ {args : List (Value × Facts)} {q : Value × Facts}, q ∈ args → ∀ x ∈ q.2, x ∈ argFacts args
  | (y, L) :: r, q, hq, x, hx => by
    unfold argFacts
    rcases List.mem_cons.1 hq with rfl | hq
    · exact List.mem_append.2 (.inl hx)
    · exact List.mem_append.2 (.inr (argFacts_mem hq x hx))

/-- The contract, out of what was asked. -/
theorem gives_of_vc {f : FuncId} {fn : Func} {args : List (Value × Facts)} {X : Type} {ret : X → Value} {M : X → Facts} {O : List Orc} (hf : P.funcs[f]? = some fn) (hne : (fn.name == "runtime.NumGoroutine") = false)
    (hm : P.follows .mixedOrders = true) (hok : okFn fn args.length = true) (hvc : Vc P fn B args X ret M O) : Gives P f (args.map (·.1)) (B ++ argFacts args) X ret M := by
  intro w hA
  unfold okFn at hok
  unfold Vc at hvc
  cases hb : fn.body with
  | none => rw [hb] at hvc; exact hvc.elim
  | some c =>
    rw [hb] at hok hvc
    simp only [Bool.and_eq_true] at hok
    have hlen := Nat.le_of_ble_eq_true hok.2
    have hcall : (callFunc f (args.map (·.1)).toArray).run P w = .ok (.enter f (args.map (·.1)).toArray) w := by
      have hne' : ¬ fn.name = "runtime.NumGoroutine" := by simpa using hne
      simp [callFunc, hf, hne', hb]
    unfold CallRun
    rw [hcall]
    simp only
    refine calls_of_wp hf hb ?_
    have hA' : FOk ⟨fun _ => 0, fun _ => []⟩ (init fn.ntmps args).hp ⟨w, []⟩ (B ++ argFacts args) w (B ++ argFacts args) := ⟨hA, fun q _ k b hk => (by cases hk), fun q hq => .inr ⟨q, hq, rfl⟩, fun q _ k q' hq' => (by cases hq')⟩
    have hrel : Rel ⟨fun _ => 0, fun _ => []⟩ ⟨w, []⟩ (B ++ argFacts args) (init fn.ntmps args) { tmps := (args.map (·.1)).toArray ++ Array.replicate (fn.ntmps - (args.map (·.1)).toArray.size) undef, defers := [] } w := by
      refine ⟨?_, rfl, fun i sv hi => ?_, fun k b hk => (by cases hk), fun k b hk => (by cases hk), fun k k' b b' hk => (by cases hk), Still.refl _ _, hA', ⟨fun k T hk => (by cases hk), fun k q hq => (by cases hq), fun k q hq => (by cases hq), fun k q hq => (by cases hq), fun k j _ q hq => (by cases hq)⟩⟩
      · simp [init]; omega
      · obtain ⟨q, h1, rfl⟩ := argTm_spec hi
        have hilt : i < args.length := (List.getElem?_eq_some_iff.1 h1).1
        refine ⟨?_, hA'.sub fun x hx => List.mem_append.2 (.inr (argFacts_mem (List.mem_of_getElem? h1) x hx))⟩
        have h2 : args[i] = q := by simpa [List.getElem?_eq_getElem hilt] using h1
        simp [Array.getElem?_append, hilt, h2]
    refine run_sound hm (fun q hq => List.mem_append.2 (.inl hq)) fn.ntmps c O _ _ _ rfl hok.1 ?_ _ _ _ hrel hvc
    intro O' e σ' s' a' w' h1 h2 h3
    have fin : (resK P s' fn.results.toList fun vs L => ∃ x, one vs = ret x ∧ ∀ q ∈ M x, q ∈ L) →
        a'.defers = [] ∧ ∃ v, (results fn a'.tmps).run P w' = .ok v w' ∧ ∃ u, Ending.returned v = .returned u ∧ ∃ x, u = ret x ∧ Holds w' (M x) ∧ (∀ q ∈ M x, w.heap.size ≤ q.1 ∨ ∃ q' ∈ B ++ argFacts args, q'.1 = q.1) ∧ Below w.heap.size w w' := by
      intro h3
      obtain ⟨vs, L, h4, h5, x, hx, hM⟩ := results_sound h1 h3
      exact ⟨h1.defers, one vs, h4, one vs, rfl, x, hx, fun q hq => h5.1 q (hM q hq), fun q hq => h5.2.1 q (hM q hq), h1.below.below⟩
    cases e with
    | normal => exact fin h3
    | ret => exact fin h3
    | _ => exact h3.elim

/-- The same for a call that has a thing. -/
theorem givesT_of_vc {f : FuncId} {fn : Func} {args : List (Value × Facts)} {T : TP} {X : Type} {ret : X → Value} {M : X → Facts} {T' : X → TP} {O : List Orc} (hf : P.funcs[f]? = some fn) (hne : (fn.name == "runtime.NumGoroutine") = false)
    (hm : P.follows .mixedOrders = true) (hok : okFn fn args.length = true) (hvc : VcT P fn B args T X ret M T' O) : CallT P f (args.map (·.1)) (B ++ argFacts args) T X ret M T' := by
  intro w F hT hA hF hap
  unfold okFn at hok
  unfold VcT at hvc
  cases hb : fn.body with
  | none => rw [hb] at hvc; exact hvc.elim
  | some c =>
    rw [hb] at hok hvc
    simp only [Bool.and_eq_true] at hok
    have hlen := Nat.le_of_ble_eq_true hok.2
    have hcall : (callFunc f (args.map (·.1)).toArray).run P w = .ok (.enter f (args.map (·.1)).toArray) w := by
      have hne' : ¬ fn.name = "runtime.NumGoroutine" := by simpa using hne
      simp [callFunc, hf, hne', hb]
    unfold CallRun
    rw [hcall]
    simp only
    refine calls_of_wp hf hb ?_
    have hth : ∀ k, ∀ q ∈ (if k = 0 then F else []), q ∈ F := fun k q hq => by
      by_cases e : k = 0
      · simpa only [e, if_true] using hq
      · simp only [e, if_false] at hq; cases hq
    have hA' : FOk ⟨fun _ => 0, fun k => if k = 0 then F else []⟩ (init fn.ntmps args).hp ⟨w, F⟩ (B ++ argFacts args) w (B ++ argFacts args) := ⟨hA, fun q _ k b hk => (by cases hk), fun q hq => .inr ⟨q, hq, rfl⟩, fun q hq k q' hq' => hap q hq q' (hth k q' hq')⟩
    have hrel : Rel ⟨fun _ => 0, fun k => if k = 0 then F else []⟩ ⟨w, F⟩ (B ++ argFacts args) ((init fn.ntmps args).thr fun k => look k [(0, T)]) { tmps := (args.map (·.1)).toArray ++ Array.replicate (fn.ntmps - (args.map (·.1)).toArray.size) undef, defers := [] } w := by
      refine ⟨?_, rfl, fun i sv hi => ?_, fun k b hk => (by cases hk), fun k b hk => (by cases hk), fun k k' b b' hk => (by cases hk), Still.refl _ _, hA', ⟨fun k T1 hk => ?_, fun k q hq => hF q (hth k q hq), fun k q hq j b hj => (by cases hj), fun k q hq => .inr ⟨?_, q, hth k q hq, rfl⟩, fun k j hkj q hq q' hq' => ?_⟩⟩
      · simp [init, St.thr]; omega
      · obtain ⟨q, h1, rfl⟩ := argTm_spec hi
        have hilt : i < args.length := (List.getElem?_eq_some_iff.1 h1).1
        refine ⟨?_, hA'.sub fun x hx => List.mem_append.2 (.inr (argFacts_mem (List.mem_of_getElem? h1) x hx))⟩
        have h2 : args[i] = q := by simpa [List.getElem?_eq_getElem hilt] using h1
        simp [Array.getElem?_append, hilt, h2]
      · simp only [St.thr, look] at hk
        cases e : Nat.beq 0 k with
        | true =>
          rw [e] at hk
          simp only [cond_true, Option.some.injEq] at hk
          subst hk
          have := Nat.eq_of_beq_eq_true e
          subst this
          simpa only [if_true] using hT
        | false => rw [e] at hk; cases hk
      · by_cases e : k = 0
        · exact e
        · simp only [e, if_false] at hq; cases hq
      · exfalso
        by_cases e : k = 0
        · have e2 : ¬ j = 0 := fun e' => hkj (e.trans e'.symm)
          simp only [e2, if_false] at hq'
          cases hq'
        · simp only [e, if_false] at hq
          cases hq
    refine run_sound hm (fun q hq => List.mem_append.2 (.inl hq)) fn.ntmps c O _ _ _ rfl hok.1 ?_ _ _ _ hrel hvc
    intro O' e σ' s' a' w' h1 h2 h3
    have fin : (resK P s' fn.results.toList fun vs L => ∃ x, one vs = ret x ∧ (∀ q ∈ M x, q ∈ L) ∧ LeT s' [(0, T' x)]) →
        a'.defers = [] ∧ ∃ v, (results fn a'.tmps).run P w' = .ok v w' ∧ ∃ u, Ending.returned v = .returned u ∧ TPost (B ++ argFacts args) X ret M T' w F u w' := by
      intro h3
      obtain ⟨vs, L, h4, h5, x, hx, hM, hL⟩ := results_sound h1 h3
      have hT2 : T' x (σ'.th 0) := by
        have := hL.1
        simp only at this
        split at this
        · rename_i T0 h0; exact this _ (h1.things.is 0 T0 h0)
        · exact this.elim
      exact ⟨h1.defers, one vs, h4, one vs, rfl, x, σ'.th 0, hx, hT2, fun q hq => h5.1 q (hM q hq), h1.things.holds 0, fun q hq q' hq' => h5.2.2 q (hM q hq) 0 q' hq', fun q hq => h5.2.1 q (hM q hq), fun q hq => (h1.things.came 0 q hq).imp id And.right, h1.below⟩
    cases e with
    | normal => exact fin h3
    | ret => exact fin h3
    | _ => exact h3.elim

/-- It leaves the thing as it was: then it only reads. -/
theorem CallT.reads {f : FuncId} {l : List Value} {A F : Facts} {X : Type} {ret : X → Value} {L : X → Facts} (h : CallT P f l A (fun G => G = F) X ret L (fun _ G => G = F)) : CallR P f l A F X ret L := by
  intro w hA hF hap
  have h1 := h w F rfl hA hF hap
  have fin : ∀ v w', TPost A X ret L (fun _ G => G = F) w F v w' → RPost A X ret L w v w' := by
    rintro v w' ⟨x, F', h2, rfl, h3, h4, h5, h6, h7, h8⟩
    refine ⟨x, h2, h3, h6, h8.os, h8.tape, h8.output, h8.size, fun k hk => ?_⟩
    by_cases e : ∃ q ∈ F', q.1 = k
    · obtain ⟨q, hq, rfl⟩ := e
      rw [h4 q hq, hF q hq]
    · exact h8.block k hk fun q hq e' => e ⟨q, hq, e'⟩
  unfold CallRun at h1 ⊢
  split
  · rename_i v w' hv
    rw [hv] at h1
    exact fin _ _ h1
  · rename_i g as w' hv
    rw [hv] at h1
    refine Calls.mono h1 ?_
    rintro e w'' ⟨v, rfl, hv⟩
    exact ⟨v, rfl, fin _ _ hv⟩
  · rename_i hv1 hv2
    split at h1
    · rename_i v w' hv; exact absurd hv (hv1 v w')
    · rename_i g as w' hv; exact absurd hv (hv2 g as w')
    · exact h1

/-- Calls by such contracts. -/
theorem callT_op {f : FuncId} {l : List Value} {A : Facts} {T : TP} {X : Type} {ret : X → Value} {L : X → Facts} {T' : X → TP} (h : CallT P f l A T X ret L T') {ρ : Operand → Value} {dst : Option Tmp} {args : Array Operand} {tys : Array TypeId} {type : TypeId} {pos : String} {after : Array Edge} {guard : Option (Nat × Bool)} (hl : args.toList.map ρ = l) (hρ : ρ (.func f) = .func (.func f) #[] #[]) :
    GivesT P (execOp ρ ⟨dst, .call ⟨.value (.func f), args, tys⟩, type, pos, after, guard⟩) A T X ret L T' := by
  have hm : args.map ρ = l.toArray := by
    apply Array.ext'
    rw [Array.toList_map, hl]
  have he : execOp ρ ⟨dst, .call ⟨.value (.func f), args, tys⟩, type, pos, after, guard⟩ = callFunc f l.toArray := by
    simp [execOp, resolve, hρ, Deferred.ofValue, invoke, hm]
  intro w F hT hA hF hap
  rw [he]
  exact OpRun.t (show OpRun P (callFunc f l.toArray) w _ from h w F hT hA hF hap)
theorem callR_op {f : FuncId} {l : List Value} {A F : Facts} {X : Type} {ret : X → Value} {L : X → Facts} (h : CallR P f l A F X ret L) {ρ : Operand → Value} {dst : Option Tmp} {args : Array Operand} {tys : Array TypeId} {type : TypeId} {pos : String} {after : Array Edge} {guard : Option (Nat × Bool)} (hl : args.toList.map ρ = l) (hρ : ρ (.func f) = .func (.func f) #[] #[]) :
    ReadsOp P (execOp ρ ⟨dst, .call ⟨.value (.func f), args, tys⟩, type, pos, after, guard⟩) A F X ret L := by
  have hm : args.map ρ = l.toArray := by
    apply Array.ext'
    rw [Array.toList_map, hl]
  have he : execOp ρ ⟨dst, .call ⟨.value (.func f), args, tys⟩, type, pos, after, guard⟩ = callFunc f l.toArray := by
    simp [execOp, resolve, hρ, Deferred.ofValue, invoke, hm]
  intro w hA hF hap
  rw [he]
  exact h w hA hF hap

/-- A contract: the call returns a slice that nobody else holds, with one of the listed contents. -/
def GivesA (P : Program) (f : FuncId) (args : List Value) (A : Facts) (X : Type) (e sz : Nat) (c : X → List Value) : Prop :=
  ∀ w, Holds w A → CallRun P f args.toArray w fun v w' => ∃ x, Fresh w.heap.size w' e sz (c x) v ∧ Below w.heap.size w w'

theorem givesA_of_vc {f : FuncId} {fn : Func} {args : List (Value × Facts)} {X : Type} {e sz : Nat} {c : X → List Value} {O : List Orc} (hf : P.funcs[f]? = some fn) (hne : (fn.name == "runtime.NumGoroutine") = false)
    (hm : P.follows .mixedOrders = true) (hok : okFn fn args.length = true) (hvc : VcA P fn B args X e sz c O) : GivesA P f (args.map (·.1)) (B ++ argFacts args) X e sz c := by
  intro w hA
  unfold okFn at hok
  unfold VcA at hvc
  cases hb : fn.body with
  | none => rw [hb] at hvc; exact hvc.elim
  | some cd =>
    rw [hb] at hok hvc
    simp only [Bool.and_eq_true] at hok
    have hlen := Nat.le_of_ble_eq_true hok.2
    have hcall : (callFunc f (args.map (·.1)).toArray).run P w = .ok (.enter f (args.map (·.1)).toArray) w := by
      have hne' : ¬ fn.name = "runtime.NumGoroutine" := by simpa using hne
      simp [callFunc, hf, hne', hb]
    unfold CallRun
    rw [hcall]
    simp only
    refine calls_of_wp hf hb ?_
    have hA' : FOk ⟨fun _ => 0, fun _ => []⟩ (init fn.ntmps args).hp ⟨w, []⟩ (B ++ argFacts args) w (B ++ argFacts args) := ⟨hA, fun q _ k b hk => (by cases hk), fun q hq => .inr ⟨q, hq, rfl⟩, fun q _ k q' hq' => (by cases hq')⟩
    have hrel : Rel ⟨fun _ => 0, fun _ => []⟩ ⟨w, []⟩ (B ++ argFacts args) (init fn.ntmps args) { tmps := (args.map (·.1)).toArray ++ Array.replicate (fn.ntmps - (args.map (·.1)).toArray.size) undef, defers := [] } w := by
      refine ⟨?_, rfl, fun i sv hi => ?_, fun k b hk => (by cases hk), fun k b hk => (by cases hk), fun k k' b b' hk => (by cases hk), Still.refl _ _, hA', ⟨fun k T hk => (by cases hk), fun k q hq => (by cases hq), fun k q hq => (by cases hq), fun k q hq => (by cases hq), fun k j _ q hq => (by cases hq)⟩⟩
      · simp [init]; omega
      · obtain ⟨q, h1, rfl⟩ := argTm_spec hi
        have hilt : i < args.length := (List.getElem?_eq_some_iff.1 h1).1
        refine ⟨?_, hA'.sub fun x hx => List.mem_append.2 (.inr (argFacts_mem (List.mem_of_getElem? h1) x hx))⟩
        have h2 : args[i] = q := by simpa [List.getElem?_eq_getElem hilt] using h1
        simp [Array.getElem?_append, hilt, h2]
    refine run_sound hm (fun q hq => List.mem_append.2 (.inl hq)) fn.ntmps cd O _ _ _ rfl hok.1 ?_ _ _ _ hrel hvc
    intro O' ex σ' s' a' w' h1 h2 h3
    have fin : resA s' e sz (fun l => ∃ x, l = c x) fn.results.toList →
        a'.defers = [] ∧ ∃ v, (results fn a'.tmps).run P w' = .ok v w' ∧ ∃ u, Ending.returned v = .returned u ∧ ∃ x, Fresh w.heap.size w' e sz (c x) u ∧ Below w.heap.size w w' := by
      intro h3
      unfold resA at h3
      split at h3
      case h_2 => exact h3.elim
      rename_i t hres
      have hrun : (results fn a'.tmps).run P w' = .ok (one [a'.tmps.getD t undef]) w' := results_run fun g g1 g2 => by
        rw [hres]
        simp only [List.mapM_cons, List.mapM_nil, g1, Sem.run_bind, Sem.run_pure, Result.andThen_ok]
      split at h3
      · rename_i k ver sz' ht
        obtain ⟨b, hb, hno, hle, hbuf⟩ := h1.tm t _ ht
        rw [hb] at h3
        simp only at h3
        split at h3
        · rename_i hc
          simp only [Bool.and_eq_true, Bool.not_eq_true'] at hc
          obtain ⟨x, hx⟩ := h3
          refine ⟨h1.defers, _, hrun, _, rfl, x, ?_, h1.below.below⟩
          have hbo := hbuf (Nat.eq_of_beq_eq_true hc.1.2)
          rw [Nat.eq_of_beq_eq_true hc.2.2, Nat.eq_of_beq_eq_true hc.2.1, hx] at hbo
          rcases hbo with h5 | ⟨h5, sp, n, cap, h6⟩
          · exact .inl h5
          · exact .inr ⟨σ' k - 1, sp, n, cap, by have : w.heap.size < σ' k := (h1.place k b hb h5).1; omega, h6⟩
        · exact h3.elim
      · rename_i o L ht
        obtain ⟨x, hx⟩ := h3
        refine ⟨h1.defers, _, hrun, _, rfl, x, .inl ⟨hx.symm, o, ?_⟩, h1.below.below⟩
        exact (h1.tm t _ ht).1
      · exact h3.elim
    cases ex with
    | normal => exact fin h3
    | ret => exact fin h3
    | _ => exact h3.elim

/-- A call by such a contract. -/
theorem GivesA.op {f : FuncId} {l : List Value} {A : Facts} {X : Type} {e sz : Nat} {c : X → List Value} (h : GivesA P f l A X e sz c) {ρ : Operand → Value} {dst : Option Tmp} {args : Array Operand} {tys : Array TypeId} {type : TypeId} {pos : String} {after : Array Edge} {guard : Option (Nat × Bool)} (hl : args.toList.map ρ = l) (hρ : ρ (.func f) = .func (.func f) #[] #[]) :
    OwnOp P (execOp ρ ⟨dst, .call ⟨.value (.func f), args, tys⟩, type, pos, after, guard⟩) A X e sz c := by
  have hm : args.map ρ = l.toArray := by
    apply Array.ext'
    rw [Array.toList_map, hl]
  have he : execOp ρ ⟨dst, .call ⟨.value (.func f), args, tys⟩, type, pos, after, guard⟩ = callFunc f l.toArray := by
    simp [execOp, resolve, hρ, Deferred.ofValue, invoke, hm]
  intro w hw
  rw [he]
  exact h w hw
end

/-! Go's '==' of arrays and structs of bools, integers and strings. -/

inductive Leaf where
  | b
  | i (k : IntKind)
  | s

def fitL : List Leaf → List Value → Bool
  | [], [] => true
  | .b :: r, .bool _ :: q => fitL r q
  | .i k :: r, .int k' _ :: q => (k == k') && fitL r q
  | .s :: r, .string _ :: q => fitL r q
  | _, _ => false

def fieldLeaves (P : Program) (f : TypeId → Option (List Leaf)) : Nat → List Field → Option (List Leaf)
  | _, [] => some []
  | off, fd :: r =>
    bif (fd.name != "_") && Nat.beq fd.offset off then
      match f fd.type with
      | some l =>
        match fieldLeaves P f (off + l.length) r with
        | some m => some (l ++ m)
        | none => none
      | none => none
    else none

def leaves (P : Program) : Nat → TypeId → Option (List Leaf)
  | 0, _ => none
  | d + 1, t =>
    match P.underlying t, P.info? t with
    | some .bool, some i => bif Nat.beq i.size 1 then some [.b] else none
    | some (.int k), some i => bif Nat.beq i.size 1 then some [.i k] else none
    | some .string, some i => bif Nat.beq i.size 1 then some [.s] else none
    | some (.array n e), some i =>
      match leaves P d e with
      | some l => bif Nat.beq i.size (n * l.length) then some (List.replicate n l).flatten else none
      | none => none
    | some (.struct fs), some i =>
      bif P.stoodInHeld t then none else
      match fieldLeaves P (leaves P d) 0 fs.toList with
      | some l => bif Nat.beq i.size l.length then some l else none
      | none => none
    | _, _ => none

theorem fitL_len : ∀ {ls : List Leaf} {xs : List Value}, fitL ls xs = true → xs.length = ls.length
  | [], [], _ => rfl
  | [], _ :: _, h => by cases h
  | .b :: r, x :: q, h => by cases x <;> simp only [fitL, Bool.false_eq_true] at h; simp [fitL_len h]
  | .i k :: r, x :: q, h => by cases x <;> simp only [fitL, Bool.false_eq_true, Bool.and_eq_true] at h; simp [fitL_len h.2]
  | .s :: r, x :: q, h => by cases x <;> simp only [fitL, Bool.false_eq_true] at h; simp [fitL_len h]
  | .b :: _, [], h => by cases h
  | .i _ :: _, [], h => by cases h
  | .s :: _, [], h => by cases h

theorem fitL_append : ∀ {l m : List Leaf} {xs : List Value}, fitL (l ++ m) xs = true → fitL l (xs.take l.length) = true ∧ fitL m (xs.drop l.length) = true
  | [], m, xs, h => by simpa [fitL] using h
  | .b :: r, m, x :: q, h => by cases x <;> simp only [List.cons_append, fitL, Bool.false_eq_true] at h; have := fitL_append h; simpa [fitL] using this
  | .i k :: r, m, x :: q, h => by
    cases x <;> simp only [List.cons_append, fitL, Bool.false_eq_true, Bool.and_eq_true] at h
    have := fitL_append h.2
    simpa [fitL, h.1] using this
  | .s :: r, m, x :: q, h => by cases x <;> simp only [List.cons_append, fitL, Bool.false_eq_true] at h; have := fitL_append h; simpa [fitL] using this
  | .b :: _, _, [], h => by cases h
  | .i _ :: _, _, [], h => by cases h
  | .s :: _, _, [], h => by cases h

theorem cellsEq_append : ∀ {a b c d : List Value}, a.length = c.length → cellsEq (a ++ b) (c ++ d) = (cellsEq a c && cellsEq b d)
  | [], b, [], d, _ => by simp [cellsEq]
  | x :: a, b, y :: c, d, h => by
    simp only [List.cons_append, cellsEq]
    rw [cellsEq_append (by simpa using h), Bool.and_assoc]
  | [], _, _ :: _, _, h => by cases h
  | _ :: _, _, [], _, h => by cases h

theorem cellsEq_take_drop {xs ys : List Value} (n : Nat) (h : xs.length = ys.length) : cellsEq xs ys = (cellsEq (xs.take n) (ys.take n) && cellsEq (xs.drop n) (ys.drop n)) := by
  have := cellsEq_append (a := xs.take n) (b := xs.drop n) (c := ys.take n) (d := ys.drop n) (by simp [h])
  rwa [List.take_append_drop, List.take_append_drop] at this

/-- A value of the type, with these cells. -/
def Formed (P : Program) (t : TypeId) (x : Value) (cs : List Value) : Prop :=
  ((∃ fs, P.underlying t = some (.struct fs)) ∨ (∃ n e, P.underlying t = some (.array n e))) ∧ x = .agg cs.toArray ∨
  (∃ d, P.underlying t = some d ∧ (∀ fs, d ≠ .struct fs) ∧ ∀ n e, d ≠ .array n e) ∧ cs = [x]

theorem leaf_one {i : TypeInfo} {x : Leaf} {ls : List Leaf} (h : (bif Nat.beq i.size 1 then some [x] else none) = some ls) : i.size = 1 ∧ ls = [x] := by
  cases hb : Nat.beq i.size 1 with
  | false => rw [hb] at h; cases h
  | true =>
    rw [hb] at h
    simp only [cond_true, Option.some.injEq] at h
    exact ⟨Nat.eq_of_beq_eq_true hb, h.symm⟩

theorem leaves_info {P : Program} {m : Nat} {t : TypeId} {ls : List Leaf} (h : leaves P m t = some ls) : ∃ i, P.info? t = some i ∧ i.size = ls.length := by
  cases m with
  | zero => cases h
  | succ m =>
    unfold leaves at h
    split at h
    · rename_i i _ hi; obtain ⟨h1, rfl⟩ := leaf_one h; exact ⟨i, hi, h1⟩
    · rename_i i _ hi; obtain ⟨h1, rfl⟩ := leaf_one h; exact ⟨i, hi, h1⟩
    · rename_i i _ hi; obtain ⟨h1, rfl⟩ := leaf_one h; exact ⟨i, hi, h1⟩
    · rename_i n e i hu hi
      split at h
      · rename_i l _
        cases hb : Nat.beq i.size (n * l.length) with
        | false => rw [hb] at h; cases h
        | true =>
          rw [hb] at h
          simp only [cond_true, Option.some.injEq] at h
          subst h
          exact ⟨i, hi, by rw [Nat.eq_of_beq_eq_true hb]; simp⟩
      · cases h
    · rename_i fs i hu hi
      cases hs : P.stoodInHeld t with
      | true => rw [hs] at h; cases h
      | false =>
        rw [hs] at h
        simp only [cond_false] at h
        split at h
        · rename_i l _
          cases hb : Nat.beq i.size l.length with
          | false => rw [hb] at h; cases h
          | true =>
            rw [hb] at h
            simp only [cond_true, Option.some.injEq] at h
            subst h
            exact ⟨i, hi, Nat.eq_of_beq_eq_true hb⟩
        · cases h
    · cases h

/-- A part of an array or a struct. -/
theorem part_formed {P : Program} {m : Nat} {e : TypeId} {l : List Leaf} (hl : leaves P m e = some l) {xs : List Value} {off : Nat} (hx : fitL l ((xs.drop off).take l.length) = true) (w : World) :
    ∃ v, (part e xs.toArray off).run P w = .ok v w ∧ Formed P e v ((xs.drop off).take l.length) := by
  have hlen := fitL_len hx
  cases m with
  | zero => cases hl
  | succ m =>
    have hinf := leaves_info hl
    have plain : ∀ d, P.underlying e = some d → (∀ fs, d ≠ .struct fs) → (∀ n e, d ≠ .array n e) → l.length = 1 → ∃ v, (part e xs.toArray off).run P w = .ok v w ∧ Formed P e v ((xs.drop off).take l.length) := by
      intro d hd h1 h2 h3
      rw [h3] at hlen ⊢
      obtain ⟨v, hv⟩ := List.length_eq_one_iff.1 hlen
      have hg : xs[off]? = some v := by
        have := congrArg (fun q : List Value => q[0]?) hv
        simpa [List.getElem?_drop] using this
      refine ⟨v, ?_, .inr ⟨⟨d, hd, h1, h2⟩, hv⟩⟩
      have hg' : xs.toArray[off]? = some v := by simpa using hg
      simp only [part, Sem.run_bind, run_isAgg_false hd h1 h2, Result.andThen_ok, Bool.false_eq_true, if_false, hg', Sem.run_pure]
    have agg : ((∃ fs, P.underlying e = some (.struct fs)) ∨ ∃ n e', P.underlying e = some (.array n e')) → (∃ i, P.info? e = some i ∧ i.size = l.length) → ∃ v, (part e xs.toArray off).run P w = .ok v w ∧ Formed P e v ((xs.drop off).take l.length) := by
      intro hu ⟨i, hi, hs⟩
      refine ⟨.agg ((xs.drop off).take l.length).toArray, ?_, .inl ⟨hu, rfl⟩⟩
      simp only [part, Sem.run_bind, run_isAgg_true hu, Result.andThen_ok, if_true, run_size hi, Sem.run_pure, hs]
      congr 2
      apply Array.ext'
      simp
    unfold leaves at hl
    split at hl
    · rename_i i hu hi; obtain ⟨_, rfl⟩ := leaf_one hl; exact plain _ hu nofun nofun rfl
    · rename_i k i hu hi; obtain ⟨_, rfl⟩ := leaf_one hl; exact plain _ hu nofun nofun rfl
    · rename_i i hu hi; obtain ⟨_, rfl⟩ := leaf_one hl; exact plain _ hu nofun nofun rfl
    · rename_i n e' i hu hi; exact agg (.inr ⟨n, e', hu⟩) hinf
    · rename_i fs i hu hi; exact agg (.inl ⟨fs, hu⟩) hinf
    · cases hl

theorem eq_fields {P : Program} {d : Nat} (f : TypeId → Option (List Leaf)) (hf : ∀ e l, f e = some l → (∃ m, leaves P m e = some l) ∧ ∀ x y cs ds w, Formed P e x cs → Formed P e y ds → fitL l cs = true → fitL l ds = true → (Op.equalIn d e x y).run P w = .ok (cellsEq cs ds) w) (xs ys : List Value) (w : World) :
    ∀ (fs : List Field) (off : Nat) (ls : List Leaf), fieldLeaves P f off fs = some ls → fitL ls (xs.drop off) = true → fitL ls (ys.drop off) = true → (Op.eqFields d xs.toArray ys.toArray fs).run P w = .ok (cellsEq (xs.drop off) (ys.drop off)) w
  | [], off, ls, h, hx, hy => by
    simp only [fieldLeaves, Option.some.injEq] at h
    subst h
    have h1 := fitL_len hx
    have h2 := fitL_len hy
    simp only [List.length_nil] at h1 h2
    rw [List.length_eq_zero_iff.1 h1, List.length_eq_zero_iff.1 h2]
    rfl
  | fd :: r, off, ls, h, hx, hy => by
    unfold fieldLeaves at h
    cases hb : ((fd.name != "_") && Nat.beq fd.offset off) with
    | false => rw [hb] at h; cases h
    | true =>
      rw [hb] at h
      simp only [cond_true] at h
      simp only [Bool.and_eq_true, bne_iff_ne, ne_eq] at hb
      have hoff := Nat.eq_of_beq_eq_true hb.2
      split at h
      · rename_i l hl
        split at h
        · rename_i m hm
          simp only [Option.some.injEq] at h
          subst h
          obtain ⟨⟨mm, h1⟩, h2⟩ := hf _ _ hl
          obtain ⟨fx1, fx2⟩ := fitL_append hx
          obtain ⟨fy1, fy2⟩ := fitL_append hy
          rw [List.drop_drop] at fx2 fy2
          have ih := eq_fields f hf xs ys w r (off + l.length) m hm fx2 fy2
          obtain ⟨a, p1, q1⟩ := part_formed h1 fx1 w
          obtain ⟨b, p2, q2⟩ := part_formed h1 fy1 w
          have h3 := h2 a b _ _ w q1 q2 fx1 fy1
          have hlen : (xs.drop off).length = (ys.drop off).length := by rw [fitL_len hx, fitL_len hy]
          rw [cellsEq_take_drop l.length hlen, List.drop_drop, List.drop_drop]
          simp only [Op.eqFields, hb.1, ne_eq, not_false_eq_true, if_true, Sem.run_bind, hoff, p1, p2, h3, Result.andThen_ok]
          cases cellsEq ((xs.drop off).take l.length) ((ys.drop off).take l.length) with
          | false => simp
          | true => simpa using ih
        · cases h
      · cases h

theorem eq_items {P : Program} {d m : Nat} {e : TypeId} {l : List Leaf} (hl : leaves P m e = some l) (hf : ∀ x y cs ds w, Formed P e x cs → Formed P e y ds → fitL l cs = true → fitL l ds = true → (Op.equalIn d e x y).run P w = .ok (cellsEq cs ds) w) (xs ys : List Value) (w : World) :
    ∀ (k j : Nat), fitL (List.replicate k l).flatten (xs.drop (j * l.length)) = true → fitL (List.replicate k l).flatten (ys.drop (j * l.length)) = true →
      (Op.eqItems d e l.length xs.toArray ys.toArray (List.range' j k)).run P w = .ok (cellsEq (xs.drop (j * l.length)) (ys.drop (j * l.length))) w
  | 0, j, hx, hy => by
    have h1 := fitL_len hx
    have h2 := fitL_len hy
    simp only [List.replicate_zero, List.flatten_nil, List.length_nil] at h1 h2
    rw [List.length_eq_zero_iff.1 h1, List.length_eq_zero_iff.1 h2]
    rfl
  | k + 1, j, hx, hy => by
    rw [List.replicate_succ, List.flatten_cons] at hx hy
    obtain ⟨fx1, fx2⟩ := fitL_append hx
    obtain ⟨fy1, fy2⟩ := fitL_append hy
    rw [List.drop_drop, show j * l.length + l.length = (j + 1) * l.length by rw [Nat.add_mul, Nat.one_mul]] at fx2 fy2
    have ih := eq_items hl hf xs ys w k (j + 1) fx2 fy2
    obtain ⟨a, p1, q1⟩ := part_formed hl fx1 w
    obtain ⟨b, p2, q2⟩ := part_formed hl fy1 w
    have h3 := hf a b _ _ w q1 q2 fx1 fy1
    have hlen : (xs.drop (j * l.length)).length = (ys.drop (j * l.length)).length := by rw [fitL_len hx, fitL_len hy]
    rw [cellsEq_take_drop l.length hlen, List.drop_drop, List.drop_drop, show j * l.length + l.length = (j + 1) * l.length by rw [Nat.add_mul, Nat.one_mul], List.range'_succ]
    simp only [Op.eqItems, Sem.run_bind, p1, p2, h3, Result.andThen_ok]
    cases cellsEq ((xs.drop (j * l.length)).take l.length) ((ys.drop (j * l.length)).take l.length) with
    | false => simp
    | true => simpa using ih

theorem leaf_bool {P : Program} {t : TypeId} {x : Value} {cs : List Value} {d : TypeDesc} (hu : P.underlying t = some d) (h1 : ∀ fs, d ≠ .struct fs) (h2 : ∀ n e, d ≠ .array n e) (hf : Formed P t x cs) : cs = [x] := by
  rcases hf with ⟨h, _⟩ | ⟨_, h⟩
  · rcases h with ⟨fs, h⟩ | ⟨n, e, h⟩
    · exact absurd (Option.some.inj (hu.symm.trans h)) (h1 fs)
    · exact absurd (Option.some.inj (hu.symm.trans h)) (h2 n e)
  · exact h
theorem agg_formed {P : Program} {t : TypeId} {x : Value} {cs : List Value} (hu : (∃ fs, P.underlying t = some (.struct fs)) ∨ ∃ n e, P.underlying t = some (.array n e)) (hf : Formed P t x cs) : x = .agg cs.toArray := by
  rcases hf with ⟨_, h⟩ | ⟨⟨d, hd, h1, h2⟩, _⟩
  · exact h
  · rcases hu with ⟨fs, h⟩ | ⟨n, e, h⟩
    · exact absurd (Option.some.inj (hd.symm.trans h)) (h1 fs)
    · exact absurd (Option.some.inj (hd.symm.trans h)) (h2 n e)

theorem eq_leaves {P : Program} (k : Nat) : ∀ (m : Nat) (t : TypeId) (ls : List Leaf), leaves P m t = some ls → ∀ x y cs ds w, Formed P t x cs → Formed P t y ds → fitL ls cs = true → fitL ls ds = true → (Op.equalIn (k + m) t x y).run P w = .ok (cellsEq cs ds) w
  | 0, t, ls, h => by cases h
  | m + 1, t, ls, h => by
    intro x y cs ds w fx fy hx hy
    have ih := eq_leaves (P := P) k m
    unfold leaves at h
    split at h
    · rename_i i hu hi
      obtain ⟨_, rfl⟩ := leaf_one h
      obtain rfl := leaf_bool hu nofun nofun fx
      obtain rfl := leaf_bool hu nofun nofun fy
      cases x <;> simp only [fitL, Bool.false_eq_true] at hx
      cases y <;> simp only [fitL, Bool.false_eq_true] at hy
      simp [Op.equalIn, run_underlying hu, cellsEq, cellEq]
    · rename_i kd i hu hi
      obtain ⟨_, rfl⟩ := leaf_one h
      obtain rfl := leaf_bool hu nofun nofun fx
      obtain rfl := leaf_bool hu nofun nofun fy
      cases x <;> simp only [fitL, Bool.false_eq_true, Bool.and_eq_true, beq_iff_eq, and_true] at hx
      cases y <;> simp only [fitL, Bool.false_eq_true, Bool.and_eq_true, beq_iff_eq, and_true] at hy
      subst hx hy
      simp [Op.equalIn, run_underlying hu, cellsEq, cellEq]
    · rename_i i hu hi
      obtain ⟨_, rfl⟩ := leaf_one h
      obtain rfl := leaf_bool hu nofun nofun fx
      obtain rfl := leaf_bool hu nofun nofun fy
      cases x <;> simp only [fitL, Bool.false_eq_true] at hx
      cases y <;> simp only [fitL, Bool.false_eq_true] at hy
      simp [Op.equalIn, run_underlying hu, cellsEq, cellEq]
    · rename_i n e i hu hi
      split at h
      · rename_i l hl
        cases hb : Nat.beq i.size (n * l.length) with
        | false => rw [hb] at h; cases h
        | true =>
          rw [hb] at h
          simp only [cond_true, Option.some.injEq] at h
          subst h
          obtain rfl := agg_formed (.inr ⟨n, e, hu⟩) fx
          obtain rfl := agg_formed (.inr ⟨n, e, hu⟩) fy
          obtain ⟨ie, hie, hsz⟩ := leaves_info hl
          have hce : P.cellsOf e = l.length := by simp [Program.cellsOf, hie, hsz]
          rw [show k + (m + 1) = (k + m) + 1 from rfl, run_equalIn_array w (k + m) _ _ hu hie, hce, List.range_eq_range']
          have := eq_items (d := k + m) hl (ih e l hl) cs ds w n 0 (by simpa using hx) (by simpa using hy)
          simpa using this
      · cases h
    · rename_i fs i hu hi
      cases hs : P.stoodInHeld t with
      | true => rw [hs] at h; cases h
      | false =>
        rw [hs] at h
        simp only [cond_false] at h
        split at h
        · rename_i l hl
          cases hb : Nat.beq i.size l.length with
          | false => rw [hb] at h; cases h
          | true =>
            rw [hb] at h
            simp only [cond_true, Option.some.injEq] at h
            subst h
            obtain rfl := agg_formed (.inl ⟨fs, hu⟩) fx
            obtain rfl := agg_formed (.inl ⟨fs, hu⟩) fy
            have hfs : P.fieldsOf t = fs := by simp [Program.fieldsOf, hu]
            rw [show k + (m + 1) = (k + m) + 1 from rfl, run_equalIn_struct w (k + m) t _ _ (by rw [hfs]; exact hu) hs, hfs]
            have := eq_fields (d := k + m) (leaves P m) (fun e l hl => ⟨⟨m, hl⟩, ih e l hl⟩) cs ds w fs.toList 0 l hl (by simpa using hx) (by simpa using hy)
            simpa using this
        · cases h
    · cases h

theorem eqRun_of {P : Program} {m : Nat} {t : TypeId} {ls : List Leaf} (hl : leaves P m t = some ls) (hm : m ≤ 10000) (hu : (∃ fs, P.underlying t = some (.struct fs)) ∨ ∃ n e, P.underlying t = some (.array n e)) (hg : P.eqGuardType P.depth t = false) {xs ys : Array Value} (hx : fitL ls xs.toList = true) (hy : fitL ls ys.toList = true) :
    EqRun P t (.agg xs) (.agg ys) (cellsEq xs.toList ys.toList) := by
  refine ⟨fun w => ?_, hg⟩
  have := eq_leaves (P := P) (10000 - m) m t ls hl (.agg xs) (.agg ys) xs.toList ys.toList w (.inl ⟨hu, by simp⟩) (.inl ⟨hu, by simp⟩) hx hy
  rwa [show 10000 - m + m = 10000 by omega] at this
end Go.Proofs.Ytijmefealelkfaa.Sx

