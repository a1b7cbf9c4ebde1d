/- Contracts of calls that have a thing: how they are weakened, and 'append', stores and loads as such. No Go function in this text; no conditions. -/
import Derived.Test.YtkibbcomfjhgpaaDoorW6b
namespace Go.Proofs.YtkibbcomfjhgpaaDoor
open Go.RowKit Sx
set_option maxRecDepth 100000

section
variable {P : Program} {f : FuncId} {l : List Value} {A A' : Facts} {T : TP} {X : Type} {ret : X → Value} {L : X → Facts} {T' : X → TP}

/-- Whatever blocks the thing has. -/
theorem callT_of (h : ∀ F, T F → CallT P f l A (fun G => G = F) X ret L T') : CallT P f l A T X ret L T' :=
  fun w F hT hA hF hap => h F hT w F rfl hA hF hap
theorem _root_.Go.Proofs.YtkibbcomfjhgpaaDoor.Sx.CallT.mono (h : CallT P f l A T X ret L T') {T1 : TP} {T2 : X → TP} (h1 : ∀ F, T1 F → T F) (h2 : ∀ x F, T' x F → T2 x F) (hs : Sub A A') : CallT P f l A' T1 X ret L T2 := by
  intro w F hT hA hF hap
  refine (h w F (h1 F hT) (fun q hq => hA q (hs q hq)) hF (fun q hq => hap q (hs q hq))).mono ?_
  rintro v w' ⟨x, F', e, g1, g2, g3, g4, g5, g6, g7⟩
  exact ⟨x, F', e, h2 x F' g1, g2, g3, g4, fun q hq => (g5 q hq).imp id fun ⟨q', a, b⟩ => ⟨q', hs q' a, b⟩, g6, g7⟩
theorem _root_.Go.Proofs.YtkibbcomfjhgpaaDoor.Sx.CallR.mono {F : Facts} (h : CallR P f l A F X ret L) (hs : Sub A A') : CallR P f l A' F X ret L := by
  intro w hA hF hap
  refine (h w (fun q hq => hA q (hs q hq)) hF (fun q hq => hap q (hs q hq))).mono ?_
  rintro v w' ⟨x, e, g2, g5, g7⟩
  exact ⟨x, e, g2, fun q hq => (g5 q hq).imp id fun ⟨q', a, b⟩ => ⟨q', hs q' a, b⟩, g7⟩
/-- It makes a thing out of nothing, which is known: then it gives these facts. -/
theorem _root_.Go.Proofs.YtkibbcomfjhgpaaDoor.Sx.CallT.gives {F : X → Facts} (h : CallT P f l A (fun G => G = []) X ret L T') (hT : ∀ x G, T' x G → G = F x) : Gives P f l A X ret (fun x => F x ++ L x) := by
  intro w hA
  refine (h w [] rfl hA (fun _ h => by cases h) (fun _ _ _ h => by cases h)).mono ?_
  rintro v w' ⟨x, F', e, g1, g2, g3, g4, g5, g6, g7⟩
  obtain rfl := hT x F' g1
  exact ⟨x, e, fun q hq => (List.mem_append.1 hq).elim (g3 q) (g2 q), fun q hq => (List.mem_append.1 hq).elim (fun h => .inl ((g6 q h).resolve_right fun ⟨_, h, _⟩ => by cases h)) (g5 q), g7.below⟩
/-- A slice that nobody else holds, as a thing. -/
theorem _root_.Go.Proofs.YtkibbcomfjhgpaaDoor.Sx.GivesA.callT {e sz : Nat} {c : List Value} (hz : sz ≠ 0) (h : GivesA P f l A Unit e sz (fun _ => c)) :
    CallT P f l A (fun G => G = []) (FrX c) (fun x => .slice (frO x) (lenB c sz) (frC sz x)) (fun _ => []) (fun x G => G = frL e x ∧ FrOk sz x) := by
  intro w F hT hA hF hap
  subst hT
  refine (h w hA).mono ?_
  rintro v w' ⟨_, hf, hb⟩
  rcases hf with ⟨rfl, o, rfl⟩ | ⟨m, sp, n, cap, h1, h2, rfl, h3, h4⟩
  · exact ⟨.inl ⟨⟨rfl⟩, o⟩, [], by simp [frO, frC, lenB_of (n := 0) hz], ⟨rfl, trivial⟩, fun _ h => (by cases h), fun _ h => (by cases h), fun _ h => (by cases h), fun _ h => (by cases h), fun _ h => (by cases h), Sx.Below.still hb⟩
  · refine ⟨.inr (m, sp), [(m, .cells (c ++ sp).toArray e)], ?_, ⟨rfl, by show (c.length + sp.length) % sz = 0; rw [h4, Nat.mul_mod_left]⟩, fun _ h => (by cases h), fun q hq => ?_, fun _ h => (by cases h), fun _ h => (by cases h), fun q hq => ?_, Sx.Below.still hb⟩
    · simp only [frO, frC, h4, lenB_of hz h3]
      rw [Nat.mul_div_cancel _ (by omega)]
    · simp only [List.mem_singleton] at hq; subst hq; exact h2
    · simp only [List.mem_singleton] at hq; subst hq; exact .inl h1
theorem callT_gives_nil {F : X → Facts} (h : CallT P f l A (fun G => G = []) X ret (fun _ => []) T') (hT : ∀ x G, T' x G → G = F x) : Gives P f l A X ret F := by
  have := h.gives hT
  simpa using this
theorem givesT_of_vcF {fn : Func} {args : List (Value × Facts)} {B : Facts} {O : List Orc} (hm : P.follows .mixedOrders = true) (hg : Good P f fn args.length) (hA : Sub (B ++ argFacts args) A) (h : VcT P fn B args T X ret L T' O) : CallT P f (args.map (·.1)) A T X ret L T' :=
  (givesT_of_vc hg.1 hg.2.1 hm hg.2.2 h).mono (fun _ h => h) (fun _ _ h => h) hA
/-- A call that reads the thing F. -/
theorem reads_of_vcF {fn : Func} {args : List (Value × Facts)} {B F : Facts} {O : List Orc} (hm : P.follows .mixedOrders = true) (hg : Good P f fn args.length) (hA : Sub (B ++ argFacts args) A) (h : VcT P fn B args (fun G => G = F) X ret L (fun _ G => G = F) O) : CallR P f (args.map (·.1)) A F X ret L :=
  (givesT_of_vcF hm hg hA h).reads
end

theorem _root_.Go.Proofs.YtkibbcomfjhgpaaDoor.Sx.OpRunT.mono {P : Program} {m : Sem Next} {w : World} {R R' : Value → World → Prop} (h : OpRunT P m w R) (k : ∀ v w', R v w' → R' v w') : OpRunT P m w R' := by
  unfold OpRunT at h ⊢
  split at h
  · exact k _ _ h
  · refine Calls.mono h ?_
    rintro e w'' ⟨v, rfl, hv⟩
    exact ⟨v, rfl, k _ _ hv⟩
  · exact k _ _ h
  · exact h.elim
section
variable {P : Program} {ρ : Operand → Value} {dst : Option Tmp} {type : TypeId} {pos : String} {after : Array Edge} {guard : Option (Nat × Bool)}
theorem givesT_of {m : Sem Next} {A : Facts} {T : TP} {X : Type} {ret : X → Value} {L : X → Facts} {T' : X → TP} (h : ∀ F, T F → GivesT P m A (fun G => G = F) X ret L T') : GivesT P m A T X ret L T' :=
  fun w F hT hA hF hap => h F hT w F rfl hA hF hap
/-- 'append' to a slice that lies in the thing F0; G y: what the thing has then, where the slice lies at y. -/
theorem app_thing {t tx e : TypeId} {i : TypeInfo} {z : Value} {A F0 : Facts} {c xs : List Value} {x : FrX c} {n : Nat} {yv : Value} {G : FrX (c ++ xs) → Facts} {X Y : Operand} (ht : P.underlying t = some (.slice e)) (hi : P.info? e = some i) (hz : i.zero = some z) (hzs : z.cells.size = i.size) (hz0 : i.size ≠ 0) (hby : i.bytes ≤ 32)
    (hx : ρ X = .slice (frO x) (lenB c i.size) (frC i.size x)) (hy : ρ Y = yv) (hc : c.length = lenB c i.size * i.size) (hsp : FrOk i.size x)
    (hs : ∀ w, Holds w A → Src P i.size tx yv n xs w) (hlen : c.length + xs.length ≤ 1099511627776) (h0 : ∀ q ∈ frL e x, q ∈ F0) (h1 : ∀ y, ∀ q ∈ G y, q ∈ frL e y ∨ (q ∈ F0 ∧ ∀ q' ∈ frL e x, q'.1 ≠ q.1)) :
    GivesT P (execOp ρ ⟨dst, .call ⟨.builtin .append, #[X, Y], #[t, tx]⟩, type, pos, after, guard⟩) A (fun F => F = F0) (FrX (c ++ xs)) (fun y => .slice (frO y) (lenB (c ++ xs) i.size) (frC i.size y)) (fun _ => [])
      (fun y F => F = G y ∧ FrOk i.size y ∧ ∀ q ∈ frL e y, ∀ q' ∈ F0, (∀ q2 ∈ frL e x, q2.1 ≠ q'.1) → q'.1 ≠ q.1) := by
  intro w F hT hA hF hap
  subst hT
  have hpos : 0 < i.size := by omega
  obtain ⟨m, hb, hm0⟩ : ∃ m, BufOk m w e c i.size (.slice (frO x) (lenB c i.size) (frC i.size x)) ∧ (m ≠ 0 → ∃ q ∈ frL e x, m = q.1 + 1) := by
    cases x with
    | inl q => exact ⟨0, .inl ⟨q.1.down, q.2, by simp only [frO, frC, q.1.down]; rw [lenB_of (n := 0) hz0 (by simp)]⟩, fun h => absurd rfl h⟩
    | inr q =>
      refine ⟨q.1 + 1, .inr ⟨by omega, q.2, lenB c i.size, frC i.size (.inr q : FrX c), ?_, rfl, hc, (Nat.div_mul_cancel (Nat.dvd_of_mod_eq_zero hsp)).symm⟩, fun _ => ⟨_, List.mem_singleton.2 rfl, rfl⟩⟩
      exact hF _ (h0 _ (List.mem_singleton.2 rfl))
  obtain ⟨y', w', m', g1, g2, g3, g4, g5, g6, g7, g8⟩ := append_buf (ty := type) ht hi hz hzs hz0 hby hb (hs w hA) hlen
  have hrun : (execOp ρ ⟨dst, .call ⟨.builtin .append, #[X, Y], #[t, tx]⟩, type, pos, after, guard⟩).run P w = .ok (.value y') w' := by
    simp [execOp, resolve, invoke, builtin, hx, hy, g1]
  unfold OpRunT
  rw [hrun]
  simp only
  have other : ∀ q ∈ F, (∀ q2 ∈ frL e x, q2.1 ≠ q.1) → w'.heap[q.1]? = some q.2 := fun q hq hne => by
    rw [g4 q.1 (lt_of_some (hF q hq)) fun e' => ?_]
    · exact hF q hq
    · obtain ⟨q2, h2, h3⟩ := hm0 (by omega)
      exact hne q2 h2 (by omega)
  obtain ⟨y, hy', hyL, hyk, hok⟩ : ∃ y : FrX (c ++ xs), y' = .slice (frO y) (lenB (c ++ xs) i.size) (frC i.size y) ∧ Holds w' (frL e y) ∧ (∀ q ∈ frL e y, m' ≠ 0 ∧ q.1 + 1 = m') ∧ FrOk i.size y := by
    rcases g2 with ⟨q1, o', q2⟩ | ⟨q0, sp, n', cap, q1, q2, q3, q4⟩
    · exact ⟨.inl ⟨⟨q1⟩, o'⟩, by rw [q2]; simp only [frO, frC, q1]; rw [lenB_of (n := 0) hz0 (by simp)], fun _ h => (by cases h), fun _ h => (by cases h), trivial⟩
    · refine ⟨.inr (m' - 1, sp), ?_, fun q hq => ?_, fun q hq => ?_, by show ((c ++ xs).length + sp.length) % i.size = 0; rw [q4, Nat.mul_mod_left]⟩
      · rw [q2, lenB_of hz0 q3]
        simp only [frO, frC, q4]
        rw [Nat.mul_div_cancel _ hpos]
      · simp only [frL, List.mem_singleton] at hq; subst hq; exact q1
      · simp only [frL, List.mem_singleton] at hq; subst hq; exact ⟨q0, by simp only; omega⟩
  refine ⟨y, G y, hy', ⟨rfl, hok, fun q hq q' hq' hne => ?_⟩, fun _ h => (by cases h), fun q hq => ?_, fun _ h => (by cases h), fun _ h => (by cases h), fun q hq => ?_, ⟨g6, g7, g8, g3, fun k hk hq => ?_⟩⟩
  · obtain ⟨k0, k1⟩ := hyk q hq
    rcases g5 k0 with h | ⟨h, _⟩
    · obtain ⟨q2, h2, h3⟩ := hm0 (by omega)
      have := hne q2 h2; omega
    · have := lt_of_some (hF q' hq'); omega
  · rcases h1 y q hq with h | ⟨h, hne⟩
    · exact hyL q h
    · exact other q h hne
  · rcases h1 y q hq with h | ⟨h, hne⟩
    · obtain ⟨k0, k1⟩ := hyk q h
      rcases g5 k0 with h2 | ⟨h2, _⟩
      · obtain ⟨q2, h3, h4⟩ := hm0 (by omega)
        exact .inr ⟨q2, h0 q2 h3, by omega⟩
      · exact .inl (by omega)
    · exact .inr ⟨q, h, rfl⟩
  · refine g4 k hk fun e' => ?_
    obtain ⟨q2, h3, h4⟩ := hm0 (by omega)
    exact hq q2 (h0 q2 h3) (by omega)

/-- A store into a block of the thing. -/
theorem store_thing {t e : TypeId} {i : TypeInfo} {A F0 G : Facts} {m off : Nat} {c vs : List Value} {X Y : Operand} {yv : Value} (hi : P.info? t = some i) (hx : ρ X = .pointer (some ⟨m, off, none⟩)) (hy : ρ Y = yv) (hv : yv.cells.toList = vs) (hn : vs.length = i.size) (hone : ∀ u ∈ vs, u.oneCell' = true) (hin : off + i.size ≤ c.length)
    (h0 : (m, Obj.cells c.toArray e) ∈ F0) (h1 : ∀ q ∈ G, q = (m, Obj.cells (setRange c off vs).toArray e) ∨ (q ∈ F0 ∧ q.1 ≠ m)) :
    GivesT P (execOp ρ ⟨dst, .store t X Y, type, pos, after, guard⟩) A (fun F => F = F0) Unit (fun _ => undef) (fun _ => []) (fun _ F => F = G) := by
  intro w F hT hA hF hap
  subst hT
  have hg := hF _ h0
  simp only at hg
  have hst := run_storeCells_at P m off e vs 0 c.toArray w hg (by simp; omega) hone
  simp only [Nat.add_zero] at hst
  have e3 : ¬ (yv.cells.size ≠ i.size) := by rw [← Array.length_toList, hv, hn]; simp
  have hrun : (execOp ρ ⟨dst, .store t X Y, type, pos, after, guard⟩).run P w = .ok .skip (w.setRow m (setRange c off vs).toArray) := by
    simp only [execOp, Instr.storeAt, hx, hy, Instr.sureAddr, Sem.run_bind, Sem.run_pure, Result.andThen_ok, storeVar, run_size hi, if_neg e3, hv, hst]
    simp [setRange]
  unfold OpRunT
  rw [hrun]
  simp only
  have hnew : (w.setRow m (setRange c off vs).toArray).heap[m]? = some (.cells (setRange c off vs).toArray e) := setRow_heap w m _ _ e (0, 0) hg
  have hoth : ∀ j, j ≠ m → (w.setRow m (setRange c off vs).toArray).heap[j]? = w.heap[j]? := fun j hj => setRow_other w m j _ hj
  refine ⟨(), G, rfl, rfl, fun _ h => (by cases h), fun q hq => ?_, fun _ h => (by cases h), fun _ h => (by cases h), fun q hq => ?_, ⟨rfl, rfl, rfl, by rw [setRow_size]; exact Nat.le_refl _, fun k _ hk => hoth k fun e' => hk _ h0 e'.symm⟩⟩
  · rcases h1 q hq with rfl | ⟨h2, h3⟩
    · exact hnew
    · rw [hoth _ h3]; exact hF q h2
  · rcases h1 q hq with rfl | ⟨h2, h3⟩
    · exact .inr ⟨_, h0, rfl⟩
    · exact .inr ⟨q, h2, rfl⟩
end
end Go.Proofs.YtkibbcomfjhgpaaDoor

