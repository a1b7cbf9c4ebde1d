/- A writer of conditions for calls of Go functions, its end: what a call gives back, contracts out of what was asked; Go's == of arrays and structs. No Go function in this text; no conditions. -/
import Derived.Test.YtlaapbenpjopiaaSxd
namespace Go.Proofs.Ytlaapbenpjopiaa.Sx
open Go.RowKit

section
variable {P : Program} {w0 : Start} {A B : Facts}

theorem dst_spec {n : Nat} {ops : Array Oper} (h : dstOk n ops = true) : ∀ (i : Nat) (o : Oper), ops[i]? = some o → ∀ t, o.dst = some t → t < n := by
  intro i o hi t ht
  have := List.all_eq_true.1 h o (by simpa using Array.mem_of_getElem? hi)
  rw [ht] at this
  exact Nat.le_of_ble_eq_true this

theorem region_sound {ops : Array Oper} {draw : Bool} {id : Nat} {orcs : Ors} {s : St} {K : St → Prop} {Q : Exit → Act → World → Prop} (ho : draw = true → orcs.own = false) (hm : P.follows .mixedOrders = true) (hB : ∀ q ∈ B, q ∈ A) (hok : okCode s.n (.region id ops draw) = true)
    (hQ : ∀ σ' s' a' w', Rel σ' w0 A s' a' w' → s'.n = s.n → K s' → Q .normal a' w') {σ : Pl} {a : Act} {w : World} (h : Rel σ w0 A s a w) (hs0 : stepsD P B ops draw orcs s K) : (Code.region id ops draw).wp P Q a w := by
  obtain ⟨hs0, hdd⟩ := stepsD_T hs0
  have hs := stepsC_steps _ _ _ (stepsT_C hs0)
  simp only [okCode, Bool.and_eq_true, Bool.or_eq_true, Bool.not_eq_true'] at hok
  have hd := dst_spec hok.1
  cases draw with
  | false =>
    refine wp_region ?_
    have hp : (ops.toList.zipIdx.map (·.2)) = List.range ops.size := by rw [List.zipIdx_map_snd]; simp [List.range_eq_range']
    rw [← hp]
    exact steps_seq hB hQ _ σ s a w (fun q hq => ⟨mem_zip.1 hq, hd q.2 q.1 (mem_zip.1 hq)⟩) rfl h hs
  | true =>
    obtain ⟨far, hfa, hdr⟩ : ∃ far : Oper → Oper → Bool, (∀ x y, far x y = true → lsFar ops s x y = true) ∧ drawRows ops far (masks ops.toList []) [] ops.toList.zipIdx = true := by
      rcases hok.2.resolve_left (by simp) with hls | hdo
      · exact ⟨lsFar ops s, fun _ _ h => h, hdd (by rw [hls]; rfl)⟩
      · exact ⟨fun _ _ => false, fun _ _ h => (by cases h), hdo⟩
    refine wp_region_any hm ?_
    have hp : (ops.toList.zipIdx.map (·.2)) = List.range ops.size := by rw [List.zipIdx_map_snd]; simp [List.range_eq_range']
    have hpw : (ops.toList.zipIdx.map (·.2)).Pairwise (· < ·) := by rw [hp]; exact List.pairwise_lt_range
    refine steps_any (ho rfl) (pairs_spec rfl hs0) hfa hdr hB hd hQ ops.size ops.toList.zipIdx _ σ s a _ (by simp) (by simp) (fun q hq => ⟨mem_zip.1 hq, ?_⟩) (fun i hi => ?_) (List.pairwise_map.1 hpw) (fun j oj _ hl => ?_) rfl (h.grow (Below.refl _ _).drew) (fun a j _ hl => ?_) (Far.refl ops s) hs
    · have : q.2 < ops.size := (Array.getElem?_eq_some_iff.1 (mem_zip.1 hq)).1
      simp [this]
    · have hlt : i < ops.size := by
        rcases Nat.lt_or_ge i ops.size with h' | h'
        · exact h'
        · simp [h'] at hi
      exact ⟨ops[i], mem_zip.2 (by simp [hlt])⟩
    all_goals
      exfalso
      rcases Nat.lt_or_ge j ops.size with h' | h'
      · simp [h'] at hl
      · simp [h'] at hl

theorem Rel.next {σ : Pl} {s : St} {a : Act} {w : World} (h : Rel σ w0 A s a w) {n : Nat} : Rel σ w0 A (s.next n) a w := ⟨h.size, h.defers, h.tm, h.place, h.hp, h.inj, h.below, h.base, h.things⟩

theorem allP_mem {α : Type} {p : α → Prop} : ∀ {l : List α}, allP p l → ∀ x ∈ l, p x
  | [], _, x, hx => by cases hx
  | y :: r, h, x, hx => by
    rcases List.mem_cons.1 hx with rfl | hx
    · exact h.1
    · exact allP_mem h.2 x hx
theorem look_mem {α : Type} {i : Nat} : ∀ {l : List (Nat × α)} {x : α}, look i l = some x → (i, x) ∈ l
  | [], x, h => by cases h
  | (j, y) :: r, x, h => by
    unfold look at h
    cases hb : Nat.beq j i with
    | true =>
      rw [hb] at h
      simp only [cond_true, Option.some.injEq] at h
      rw [Nat.eq_of_beq_eq_true hb, h]
      exact List.mem_cons_self
    | false => rw [hb] at h; exact List.mem_cons_of_mem _ (look_mem h)

/-- What holds of a state holds of what a list tells of it. -/
theorem Rel.leT {σ : Pl} {s : St} {a : Act} {w : World} (h : Rel σ w0 A s a w) {l : Ls} (hl : Le s l) {lt : List (Nat × TP)} (ht : LeT s lt) : Rel σ w0 A (l.st.thr fun k => look k lt) a w := by
  have old : ∀ {k b}, l.st.hp k = some b → ∃ b', s.hp k = some b' ∧ (match b.norm with | true => b'.t = b.t | false => b'.ty = b.ty ∧ b'.norm = false) ∧ b'.c = b.c ∧ ∀ z ∈ b.L, z ∈ b'.L := fun {k b} hk => by
    have := allP_mem hl.2.2 _ (look_mem hk)
    unfold blkLe at this
    split at this
    · rename_i b' hb'; exact ⟨b', hb', this⟩
    · exact this.elim
  have f : ∀ {M : Facts}, FOk σ s.hp w0 A w M → FOk σ l.st.hp w0 A w M := fun hM => ⟨hM.holds, fun q hq k b hk => by obtain ⟨b', hb', _⟩ := old hk; exact hM.apart q hq k b' hb', hM.came, hM.free⟩
  have nrm : ∀ {k b}, s.hp k = some b → b.norm = true → (look k l.hp).isSome = true → ∃ b', l.st.hp k = some b' ∧ b'.norm = true := fun {k b} hk hn hs => by
    obtain ⟨b', hb'⟩ := Option.isSome_iff_exists.1 hs
    refine ⟨b', hb', ?_⟩
    obtain ⟨b2, h2, h3, _⟩ := old hb'
    rw [hk] at h2
    cases h2
    cases e : b'.norm with
    | true => rfl
    | false => rw [e] at h3; rw [hn] at h3; cases h3.2
  refine ⟨h.size.trans hl.1, h.defers, fun i sv hi => ?_, fun k b hk h0 => ?_, fun k b hk => ?_, fun k k' b b' hk hk' e h0 => ?_, h.below, f h.base, ⟨fun k T hk => ?_, h.things.holds, fun k q hq j b hj => ?_, h.things.came, h.things.two⟩⟩
  · have := allP_mem hl.2.1 _ (look_mem hi)
    unfold slotLe at this
    split at this
    · rename_i x L y M hq hs
      simp only at hq
      subst hq
      obtain ⟨h1, h2⟩ := h.tm i _ hs
      obtain ⟨rfl, h3⟩ := this
      exact ⟨h1, f (h2.sub h3)⟩
    · rename_i k off k' off' hq hs
      simp only at hq
      subst hq
      obtain ⟨h1, b, h2, hn⟩ := h.tm i _ hs
      obtain ⟨rfl, rfl, h3⟩ := this
      exact ⟨h1, nrm h2 hn h3⟩
    · rename_i k off n c k' off' n' c' hq hs
      simp only at hq
      subst hq
      obtain ⟨h1, b, h2, hn⟩ := h.tm i _ hs
      obtain ⟨rfl, rfl, rfl, rfl, h3⟩ := this
      exact ⟨h1, nrm h2 hn h3⟩
    · rename_i k ver sz k' ver' sz' hq hs
      simp only at hq
      subst hq
      obtain ⟨b, h2, hn, hle, hbuf⟩ := h.tm i _ hs
      obtain ⟨rfl, rfl, h3⟩ := this
      rw [h2] at h3
      cases hlk : look k' l.hp with
      | none => rw [hlk] at h3; cases h3
      | some b' =>
        rw [hlk] at h3
        simp only [Bool.and_eq_true, Bool.not_eq_true'] at h3
        have v1 := Nat.eq_of_beq_eq_true h3.1.1
        have v2 := Nat.eq_of_beq_eq_true h3.1.2
        obtain ⟨b2, g1, g2, g3, _⟩ := old (k := k') (b := b') hlk
        rw [h2] at g1
        cases g1
        rw [h3.2] at g2
        refine ⟨b', hlk, h3.2, by omega, fun _ => ?_⟩
        rw [← g2.1, ← g3]
        exact hbuf v1
    · exact this.elim
  · obtain ⟨b', hb', _⟩ := old hk
    exact h.place k b' hb' h0
  · obtain ⟨b', hb', e1, e2, e3⟩ := old hk
    obtain ⟨h2, h3⟩ := h.hp k b' hb'
    refine ⟨fun hn => ?_, f (h3.sub e3)⟩
    rw [hn] at e1
    simp only at e1
    have hn' : b'.norm = true := by
      have e : ∀ c : Blk, c.norm = Nat.blt c.t 1048576 := fun _ => rfl
      rw [e] at hn ⊢; rw [e1]; exact hn
    exact ⟨(h2 hn').1, by rw [← e1, ← e2]; exact (h2 hn').2⟩
  · obtain ⟨c1, h1, _⟩ := old hk
    obtain ⟨c2, h2, _⟩ := old hk'
    exact h.inj k k' c1 c2 h1 h2 e h0
  · have := allP_mem ht _ (look_mem hk)
    simp only at this
    split at this
    · rename_i T0 h0; exact this _ (h.things.is k T0 h0)
    · exact this.elim
  · obtain ⟨c1, h1, _⟩ := old hj
    exact h.things.apart k q hq j c1 h1
theorem Rel.le {σ : Pl} {s : St} {a : Act} {w : World} (h : Rel σ w0 A s a w) {l : Ls} (hl : Le s l) : Rel σ w0 A l.st a w := h.leT (lt := []) hl trivial

theorem Rel.minus {σ : Pl} {s : St} {a : Act} {w : World} (h : Rel σ w0 A s a w) {k : Nat} {tm : Nat → Option SV} (ht : ∀ i sv, tm i = some sv → SvOk σ (fun j => bif Nat.beq k j then none else s.hp j) w0 A w sv (a.tmps.getD i undef)) :
    Rel σ w0 A ⟨s.n, tm, fun j => bif Nat.beq k j then none else s.hp j, s.nx, s.th⟩ a w := by
  have old : ∀ {j b}, (bif Nat.beq k j then none else s.hp j) = some b → s.hp j = some b := fun {j b} e => by
    cases hk : Nat.beq k j with
    | true => rw [hk] at e; cases e
    | false => rw [hk] at e; exact e
  have f : ∀ {M : Facts}, FOk σ s.hp w0 A w M → FOk σ (fun j => bif Nat.beq k j then none else s.hp j) w0 A w M := fun hM => ⟨hM.holds, fun q hq j b hj => hM.apart q hq j b (old hj), hM.came, hM.free⟩
  exact ⟨h.size, h.defers, ht, fun j b hj h0 => h.place j b (old hj) h0, fun j b hj => ⟨(h.hp j b (old hj)).1, f (h.hp j b (old hj)).2⟩, fun j j' b b' hj hj' => h.inj j j' b b' (old hj) (old hj'), h.below, f h.base, ⟨h.things.is, h.things.holds, fun k q hq j b hj => h.things.apart k q hq j b (old hj), h.things.came, h.things.two⟩⟩
theorem minus_fok {σ : Pl} {s : St} {w : World} {k : Nat} {M : Facts} (h : FOk σ s.hp w0 A w M) : FOk σ (fun j => bif Nat.beq k j then none else s.hp j) w0 A w M :=
  ⟨h.holds, fun q hq j b hj => h.apart q hq j b (by
    cases hk : Nat.beq k j with
    | true => rw [hk] at hj; cases hj
    | false => rw [hk] at hj; exact hj), h.came, h.free⟩
theorem minus_some {hp : Nat → Option Blk} {k j : Nat} {b : Blk} (hk : Nat.beq k j = false) (h : hp j = some b) : (bif Nat.beq k j then none else hp j) = some b := by rw [hk]; exact h
/-- What a slot that does not lead to block k is worth, once that is given away. -/
theorem SvOk.minus {σ : Pl} {s : St} {w : World} {k : Nat} {sv : SV} {y : Value} (h : SvOk σ s.hp w0 A w sv y) (hk : ∀ k', sv.key = some k' → Nat.beq k k' = false) : SvOk σ (fun j => bif Nat.beq k j then none else s.hp j) w0 A w sv y := by
  cases sv with
  | v x L => exact ⟨h.1, minus_fok h.2⟩
  | p k' off => obtain ⟨h1, b, h2, h3⟩ := h; exact ⟨h1, b, minus_some (hk k' rfl) h2, h3⟩
  | s k' off n c => obtain ⟨h1, b, h2, h3⟩ := h; exact ⟨h1, b, minus_some (hk k' rfl) h2, h3⟩
  | a k' ver sz => obtain ⟨b, h2, h3⟩ := h; exact ⟨b, minus_some (hk k' rfl) h2, h3⟩
theorem new_apart {σ : Pl} {s : St} {a : Act} {w : World} (h : Rel σ w0 A s a w) {k : Nat} {b : Blk} (hb : s.hp k = some b) (h0 : σ k ≠ 0) (j : Nat) (b' : Blk) (hj : (bif Nat.beq k j then none else s.hp j) = some b') : σ j ≠ σ k - 1 + 1 := by
  cases hk : Nat.beq k j with
  | true => rw [hk] at hj; cases hj
  | false =>
    rw [hk] at hj
    intro e
    have := h.inj j k b' b hj hb (by omega) (by omega)
    subst this
    rw [Nat.beq_refl] at hk
    cases hk
theorem Rel.pub {σ : Pl} {s : St} {a : Act} {w : World} (h : Rel σ w0 A s a w) {k : Nat} {b : Blk} (hb : s.hp k = some b) (hno : b.norm = true) : Rel σ w0 A (s.pub k (σ k - 1) b) a w := by
  obtain ⟨⟨h0, hg⟩, hL⟩ := And.intro ((h.hp k b hb).1 hno) (h.hp k b hb).2
  have hF : FOk σ (fun j => bif Nat.beq k j then none else s.hp j) w0 A w ((σ k - 1, .cells b.c.toArray b.t) :: b.L) := by
    refine ⟨fun q hq => ?_, fun q hq j b' hj => ?_, fun q hq => ?_, fun q hq i q' hq' => ?_⟩
    · rcases List.mem_cons.1 hq with rfl | hq
      · exact hg
      · exact hL.holds q hq
    · rcases List.mem_cons.1 hq with rfl | hq
      · exact new_apart h hb h0 j b' hj
      · exact (minus_fok hL).apart q hq j b' hj
    · rcases List.mem_cons.1 hq with rfl | hq
      · left; have := (h.place k b hb h0).1; simp only; omega
      · exact hL.came q hq
    · rcases List.mem_cons.1 hq with rfl | hq
      · intro e; exact h.things.apart i q' hq' k b hb (by simp only at e; omega)
      · exact hL.free q hq i q' hq'
  refine h.minus fun i sv hi => ?_
  cases hs : s.tm i with
  | none => simp only [hs] at hi; cases hi
  | some sv0 =>
    have h1 := h.tm i sv0 hs
    simp only [hs] at hi
    cases sv0 with
    | v x L => simp only [Option.some.injEq] at hi; subst hi; exact h1.minus fun _ e => by cases e
    | p k' off =>
      simp only at hi
      cases hk : Nat.beq k k' with
      | true =>
        rw [hk] at hi
        simp only [cond_true, Option.some.injEq] at hi
        subst hi
        have := Nat.eq_of_beq_eq_true hk
        subst this
        exact ⟨h1.1, hF⟩
      | false =>
        rw [hk] at hi
        simp only [cond_false, Option.some.injEq] at hi
        subst hi
        exact h1.minus fun k2 e => by cases e; exact hk
    | s k' off n c =>
      simp only at hi
      cases hk : Nat.beq k k' with
      | true =>
        rw [hk] at hi
        simp only [cond_true, Option.some.injEq] at hi
        subst hi
        have := Nat.eq_of_beq_eq_true hk
        subst this
        exact ⟨h1.1, hF⟩
      | false =>
        rw [hk] at hi
        simp only [cond_false, Option.some.injEq] at hi
        subst hi
        exact h1.minus fun k2 e => by cases e; exact hk
    | a k' ver sz =>
      simp only at hi
      cases hk : Nat.beq k k' with
      | true => rw [hk] at hi; cases hi
      | false =>
        rw [hk] at hi
        simp only [cond_false, Option.some.injEq] at hi
        subst hi
        exact h1.minus fun k2 e => by cases e; exact hk
theorem Rel.puba {σ : Pl} {s : St} {a : Act} {w : World} (h : Rel σ w0 A s a w) {t k ver sz : Nat} {b : Blk} (ht : s.tm t = some (.a k ver sz)) (hb : s.hp k = some b) (hv : b.ver = ver) (hz : sz ≠ 0) :
    ∃ x : FrX b.c, Rel σ w0 A (s.puba t k (.slice (frO x) (lenB b.c sz) (frC sz x)) (frL b.ty x ++ b.L)) a w := by
  obtain ⟨b', hb', _, _, hbuf⟩ := h.tm t _ ht
  rw [hb] at hb'
  cases hb'
  have hbo := hbuf hv
  have hL := (h.hp k b hb).2
  obtain ⟨x, hy, hF⟩ : ∃ x : FrX b.c, a.tmps.getD t undef = .slice (frO x) (lenB b.c sz) (frC sz x) ∧ FOk σ (fun j => bif Nat.beq k j then none else s.hp j) w0 A w (frL b.ty x) := by
    rcases hbo with ⟨q1, o', q2⟩ | ⟨q0, sp, n', cap, q1, q2, q3, q4⟩
    · have hl0 : lenB b.c sz = 0 := lenB_of hz (by rw [q1]; simp)
      exact ⟨.inl ⟨⟨q1⟩, o'⟩, by rw [q2, hl0]; rfl, .nil⟩
    · refine ⟨.inr (σ k - 1, sp), ?_, fun q hq => ?_, fun q hq j b' hj => ?_, fun q hq => ?_, fun q hq i q' hq' => ?_⟩
      · rw [q2, lenB_of hz q3]
        simp only [frO, frC, q4]
        rw [Nat.mul_div_cancel _ (by omega)]
      · simp only [frL, List.mem_singleton] at hq; subst hq; exact q1
      · simp only [frL, List.mem_singleton] at hq; subst hq; exact new_apart h hb q0 j b' hj
      · simp only [frL, List.mem_singleton] at hq; subst hq; left; have := (h.place k b hb q0).1; simp only; omega
      · simp only [frL, List.mem_singleton] at hq; subst hq; intro e; exact h.things.apart i q' hq' k b hb (by simp only at e; omega)
  refine ⟨x, h.minus fun i sv hi => ?_⟩
  cases hti : Nat.beq t i with
  | true =>
    simp only [hti, cond_true, Option.some.injEq] at hi
    subst hi
    have := Nat.eq_of_beq_eq_true hti
    subst this
    exact ⟨hy, hF.app (minus_fok hL)⟩
  | false =>
    simp only [hti, cond_false] at hi
    cases hs : s.tm i with
    | none => simp only [hs] at hi; cases hi
    | some sv0 =>
      have h1 := h.tm i sv0 hs
      simp only [hs] at hi
      cases sv0 with
      | v x L => simp only [Option.some.injEq] at hi; subst hi; exact h1.minus fun _ e => by cases e
      | p k' off =>
        simp only at hi
        cases hk : Nat.beq k k' with
        | true => rw [hk] at hi; cases hi
        | false => rw [hk] at hi; simp only [cond_false, Option.some.injEq] at hi; subst hi; exact h1.minus fun k2 e => by cases e; exact hk
      | s k' off n c =>
        simp only at hi
        cases hk : Nat.beq k k' with
        | true => rw [hk] at hi; cases hi
        | false => rw [hk] at hi; simp only [cond_false, Option.some.injEq] at hi; subst hi; exact h1.minus fun k2 e => by cases e; exact hk
      | a k' ver' sz' =>
        simp only at hi
        cases hk : Nat.beq k k' with
        | true => rw [hk] at hi; cases hi
        | false => rw [hk] at hi; simp only [cond_false, Option.some.injEq] at hi; subst hi; exact h1.minus fun k2 e => by cases e; exact hk
/-- A plain block becomes a thing. -/
theorem Rel.pubt {σ : Pl} {s : St} {a : Act} {w : World} (h : Rel σ w0 A s a w) {k : Nat} {b : Blk} (hb : s.hp k = some b) (hno : b.norm = true) (j : Nat) :
    Rel ⟨σ.f, fun i => if i = j then [(σ k - 1, .cells b.c.toArray b.t)] else σ.th i⟩ w0 A (s.pubt k (σ k - 1) b j) a w := by
  obtain ⟨⟨h0, hg⟩, hL⟩ := And.intro ((h.hp k b hb).1 hno) (h.hp k b hb).2
  have old : ∀ {j b}, (bif Nat.beq k j then none else s.hp j) = some b → s.hp j = some b := fun {j b} e => by
    cases hk : Nat.beq k j with
    | true => rw [hk] at e; cases e
    | false => rw [hk] at e; exact e
  have f : ∀ {M : Facts}, FOk σ s.hp w0 A w M → FOk ⟨σ.f, fun i => if i = j then [(σ k - 1, .cells b.c.toArray b.t)] else σ.th i⟩ (fun j => bif Nat.beq k j then none else s.hp j) w0 A w M := fun hM =>
    ⟨hM.holds, fun q hq j b hj => hM.apart q hq j b (old hj), hM.came, fun q hq i q' hq' => by
      by_cases e : i = j
      · simp only [e, if_true, List.mem_singleton] at hq'
        subst hq'
        have := hM.apart q hq k b hb
        simp only
        omega
      · simp only [e, if_false] at hq'; exact hM.free q hq i q' hq'⟩
  have g : ∀ {sv : SV} {y : Value}, SvOk σ s.hp w0 A w sv y → (∀ k', sv.key = some k' → Nat.beq k k' = false) → SvOk ⟨σ.f, fun i => if i = j then [(σ k - 1, .cells b.c.toArray b.t)] else σ.th i⟩ (fun j => bif Nat.beq k j then none else s.hp j) w0 A w sv y := fun {sv y} hv hk => by
    cases sv with
    | v x L => exact ⟨hv.1, f hv.2⟩
    | p k' off => obtain ⟨h1, b, h2, h3⟩ := hv; exact ⟨h1, b, minus_some (hk k' rfl) h2, h3⟩
    | s k' off n c => obtain ⟨h1, b, h2, h3⟩ := hv; exact ⟨h1, b, minus_some (hk k' rfl) h2, h3⟩
    | a k' ver sz => obtain ⟨b, h2, h3⟩ := hv; exact ⟨b, minus_some (hk k' rfl) h2, h3⟩
  refine ⟨h.size, h.defers, fun i sv hi => ?_, fun j b hj h0 => h.place j b (old hj) h0, fun j b hj => ⟨(h.hp j b (old hj)).1, f (h.hp j b (old hj)).2⟩, fun j j' b b' hj hj' => h.inj j j' b b' (old hj) (old hj'), h.below, f h.base, ⟨fun i T hi => ?_, fun i q hq => ?_, fun i q hq j' b' hj' => ?_, fun i q hq => ?_, fun i i' hne q hq q' hq' => ?_⟩⟩
  · simp only [St.pubt] at hi
    cases hs : s.tm i with
    | none => simp only [hs] at hi; cases hi
    | some sv0 =>
      have h1 := h.tm i sv0 hs
      simp only [hs] at hi
      cases sv0 with
      | v x L => simp only [Option.some.injEq] at hi; subst hi; exact g h1 fun _ e => by cases e
      | p k' off =>
        simp only at hi
        cases hk : Nat.beq k k' with
        | true =>
          rw [hk] at hi
          simp only [cond_true, Option.some.injEq] at hi
          subst hi
          have := Nat.eq_of_beq_eq_true hk
          subst this
          exact ⟨h1.1, f hL⟩
        | false =>
          rw [hk] at hi
          simp only [cond_false, Option.some.injEq] at hi
          subst hi
          exact g h1 fun k2 e => by cases e; exact hk
      | s k' off n c =>
        simp only at hi
        cases hk : Nat.beq k k' with
        | true =>
          rw [hk] at hi
          simp only [cond_true, Option.some.injEq] at hi
          subst hi
          have := Nat.eq_of_beq_eq_true hk
          subst this
          exact ⟨h1.1, f hL⟩
        | false =>
          rw [hk] at hi
          simp only [cond_false, Option.some.injEq] at hi
          subst hi
          exact g h1 fun k2 e => by cases e; exact hk
      | a k' ver sz =>
        simp only at hi
        cases hk : Nat.beq k k' with
        | true => rw [hk] at hi; cases hi
        | false =>
          rw [hk] at hi
          simp only [cond_false, Option.some.injEq] at hi
          subst hi
          exact g h1 fun k2 e => by cases e; exact hk
  · by_cases e : i = j
    · subst e
      simp only [St.pubt, set_self, Option.some.injEq] at hi
      subst hi
      simp only [if_true]
    · simp only [St.pubt, set_ne _ _ (Ne.symm e)] at hi
      simpa only [e, if_false] using h.things.is i T hi
  · by_cases e : i = j
    · simp only [e, if_true, List.mem_singleton] at hq; subst hq; exact hg
    · simp only [e, if_false] at hq; exact h.things.holds i q hq
  · by_cases e : i = j
    · simp only [e, if_true, List.mem_singleton] at hq; subst hq; exact new_apart h hb h0 j' b' hj'
    · simp only [e, if_false] at hq; exact h.things.apart i q hq j' b' (old hj')
  · by_cases e : i = j
    · simp only [e, if_true, List.mem_singleton] at hq; subst hq; left; have := (h.place k b hb h0).1; simp only; omega
    · simp only [e, if_false] at hq; exact h.things.came i q hq
  · by_cases c1 : i = j <;> by_cases c2 : i' = j
    · exact absurd (c1.trans c2.symm) hne
    · simp only [c1, if_true, List.mem_singleton] at hq; simp only [c2, if_false] at hq'; subst hq; intro e; exact h.things.apart i' q' hq' k b hb (by simp only at e; omega)
    · simp only [c1, if_false] at hq; simp only [c2, if_true, List.mem_singleton] at hq'; subst hq'; intro e; exact h.things.apart i q hq k b hb (by simp only at e; omega)
    · simp only [c1, if_false] at hq; simp only [c2, if_false] at hq'; exact h.things.two i i' hne q hq q' hq'
theorem SvOk.give {σ : Pl} {hp : Nat → Option Blk} {w : World} {F : Facts} {j : Nat} {sv : SV} {y : Value} (h : SvOk σ hp w0 A w sv y) (hf : ∀ {M : Facts}, FOk σ hp w0 A w M → FOk ⟨σ.f, fun i => if i = j then F else σ.th i⟩ hp w0 A w M) : SvOk ⟨σ.f, fun i => if i = j then F else σ.th i⟩ hp w0 A w sv y := by
  cases sv with
  | v x L => exact ⟨h.1, hf h.2⟩
  | p k off => exact h
  | s k off n c => exact h
  | a k ver sz => exact h
/-- A buffer becomes a thing. -/
theorem Rel.pubat {σ : Pl} {s : St} {a : Act} {w : World} (h : Rel σ w0 A s a w) {t k ver sz : Nat} {b : Blk} (ht : s.tm t = some (.a k ver sz)) (hb : s.hp k = some b) (hv : b.ver = ver) (hz : sz ≠ 0) (j : Nat) :
    ∃ x : FrX b.c, Rel ⟨σ.f, fun i => if i = j then frL b.ty x else σ.th i⟩ w0 A (s.pubat t k (.slice (frO x) (lenB b.c sz) (frC sz x)) b.L (frL b.ty x) j (FrOk sz x)) a w := by
  obtain ⟨b', hb', _, _, hbuf⟩ := h.tm t _ ht
  rw [hb] at hb'
  cases hb'
  have hbo := hbuf hv
  have hL := (h.hp k b hb).2
  obtain ⟨x, hy, hF, hkey, hok⟩ : ∃ x : FrX b.c, a.tmps.getD t undef = .slice (frO x) (lenB b.c sz) (frC sz x) ∧ Holds w (frL b.ty x) ∧ (∀ q ∈ frL b.ty x, σ k ≠ 0 ∧ q.1 = σ k - 1) ∧ FrOk sz x := by
    rcases hbo with ⟨q1, o', q2⟩ | ⟨q0, sp, n', cap, q1, q2, q3, q4⟩
    · have hl0 : lenB b.c sz = 0 := lenB_of hz (by rw [q1]; simp)
      exact ⟨.inl ⟨⟨q1⟩, o'⟩, by rw [q2, hl0]; rfl, fun _ h => (by cases h), fun _ h => (by cases h), trivial⟩
    · refine ⟨.inr (σ k - 1, sp), ?_, fun q hq => ?_, fun q hq => ?_, by show (b.c.length + sp.length) % sz = 0; rw [q4, Nat.mul_mod_left]⟩
      · rw [q2, lenB_of hz q3]
        simp only [frO, frC, q4]
        rw [Nat.mul_div_cancel _ (by omega)]
      · simp only [frL, List.mem_singleton] at hq; subst hq; exact q1
      · simp only [frL, List.mem_singleton] at hq; subst hq; exact ⟨q0, rfl⟩
  have old : ∀ {j b}, (bif Nat.beq k j then none else s.hp j) = some b → s.hp j = some b := fun {j b} e => by
    cases hk : Nat.beq k j with
    | true => rw [hk] at e; cases e
    | false => rw [hk] at e; exact e
  have f0 : ∀ {M : Facts}, FOk σ s.hp w0 A w M → FOk ⟨σ.f, fun i => if i = j then frL b.ty x else σ.th i⟩ (fun j => bif Nat.beq k j then none else s.hp j) w0 A w M := fun hM =>
    ⟨hM.holds, fun q hq j b hj => hM.apart q hq j b (old hj), hM.came, fun q hq i q' hq' => by
      by_cases e : i = j
      · simp only [e, if_true] at hq'
        obtain ⟨h1, h2⟩ := hkey q' hq'
        have := hM.apart q hq k b hb
        omega
      · simp only [e, if_false] at hq'; exact hM.free q hq i q' hq'⟩
  have g : ∀ {sv : SV} {y : Value}, SvOk σ s.hp w0 A w sv y → (∀ k', sv.key = some k' → Nat.beq k k' = false) → SvOk ⟨σ.f, fun i => if i = j then frL b.ty x else σ.th i⟩ (fun j => bif Nat.beq k j then none else s.hp j) w0 A w sv y := fun {sv y} hv hk => by
    cases sv with
    | v x L => exact ⟨hv.1, f0 hv.2⟩
    | p k' off => obtain ⟨h1, b, h2, h3⟩ := hv; exact ⟨h1, b, minus_some (hk k' rfl) h2, h3⟩
    | s k' off n c => obtain ⟨h1, b, h2, h3⟩ := hv; exact ⟨h1, b, minus_some (hk k' rfl) h2, h3⟩
    | a k' ver sz => obtain ⟨b, h2, h3⟩ := hv; exact ⟨b, minus_some (hk k' rfl) h2, h3⟩
  refine ⟨x, ⟨h.size, h.defers, fun i sv hi => ?_, fun j b hj h0 => h.place j b (old hj) h0, fun j b hj => ⟨(h.hp j b (old hj)).1, f0 (h.hp j b (old hj)).2⟩, fun j j' b b' hj hj' => h.inj j j' b b' (old hj) (old hj'), h.below, f0 h.base, ⟨fun i T hi => ?_, fun i q hq => ?_, fun i q hq j' b' hj' => ?_, fun i q hq => ?_, fun i i' hne q hq q' hq' => ?_⟩⟩⟩
  · simp only [St.pubat, St.puba] at hi
    cases hti : Nat.beq t i with
    | true =>
      simp only [hti, cond_true, Option.some.injEq] at hi
      subst hi
      have := Nat.eq_of_beq_eq_true hti
      subst this
      exact ⟨hy, f0 hL⟩
    | false =>
      simp only [hti, cond_false] at hi
      cases hs : s.tm i with
      | none => simp only [hs] at hi; cases hi
      | some sv0 =>
        have h1 := h.tm i sv0 hs
        simp only [hs] at hi
        cases sv0 with
        | v x L => simp only [Option.some.injEq] at hi; subst hi; exact g h1 fun _ e => by cases e
        | p k' off =>
          simp only at hi
          cases hk : Nat.beq k k' with
          | true => rw [hk] at hi; cases hi
          | false => rw [hk] at hi; simp only [cond_false, Option.some.injEq] at hi; subst hi; exact g h1 fun k2 e => by cases e; exact hk
        | s k' off n c =>
          simp only at hi
          cases hk : Nat.beq k k' with
          | true => rw [hk] at hi; cases hi
          | false => rw [hk] at hi; simp only [cond_false, Option.some.injEq] at hi; subst hi; exact g h1 fun k2 e => by cases e; exact hk
        | a k' ver' sz' =>
          simp only at hi
          cases hk : Nat.beq k k' with
          | true => rw [hk] at hi; cases hi
          | false => rw [hk] at hi; simp only [cond_false, Option.some.injEq] at hi; subst hi; exact g h1 fun k2 e => by cases e; exact hk
  · by_cases e : i = j
    · subst e
      simp only [St.pubat, set_self, Option.some.injEq] at hi
      subst hi
      simp only [if_true]
      exact ⟨trivial, hok⟩
    · simp only [St.pubat, St.puba, set_ne _ _ (Ne.symm e)] at hi
      simpa only [e, if_false] using h.things.is i T hi
  · by_cases e : i = j
    · simp only [e, if_true] at hq; exact hF q hq
    · simp only [e, if_false] at hq; exact h.things.holds i q hq
  · by_cases e : i = j
    · simp only [e, if_true] at hq
      obtain ⟨h1, h2⟩ := hkey q hq
      rw [h2]
      exact new_apart h hb h1 j' b' hj'
    · simp only [e, if_false] at hq; exact h.things.apart i q hq j' b' (old hj')
  · by_cases e : i = j
    · simp only [e, if_true] at hq
      obtain ⟨h1, h2⟩ := hkey q hq
      left; have := (h.place k b hb h1).1; omega
    · simp only [e, if_false] at hq; exact h.things.came i q hq
  · by_cases c1 : i = j <;> by_cases c2 : i' = j
    · exact absurd (c1.trans c2.symm) hne
    · simp only [c1, if_true] at hq; simp only [c2, if_false] at hq'
      obtain ⟨h1, h2⟩ := hkey q hq
      intro e; exact h.things.apart i' q' hq' k b hb (by omega)
    · simp only [c1, if_false] at hq; simp only [c2, if_true] at hq'
      obtain ⟨h1, h2⟩ := hkey q' hq'
      intro e; exact h.things.apart i q hq k b hb (by omega)
    · simp only [c1, if_false] at hq; simp only [c2, if_false] at hq'; exact h.things.two i i' hne q hq q' hq'
/-- A thing changes no more. -/
theorem Rel.frz {σ : Pl} {s : St} {a : Act} {w : World} (h : Rel σ w0 A s a w) {t j : Nat} {y : Value} {L F : Facts} {T : TP} (ht : s.tm t = some (.v y L)) (hj : s.th j = some T) (h0 : j ≠ 0) (hT : ∀ G, T G → G = F) :
    Rel ⟨σ.f, fun i => if i = j then [] else σ.th i⟩ w0 A (s.frz t y (F ++ L) j) a w := by
  have hF : σ.th j = F := hT _ (h.things.is j T hj)
  have f0 : ∀ {M : Facts}, FOk σ s.hp w0 A w M → FOk ⟨σ.f, fun i => if i = j then [] else σ.th i⟩ s.hp w0 A w M := fun hM =>
    ⟨hM.holds, hM.apart, hM.came, fun q hq i q' hq' => by
      by_cases e : i = j
      · simp only [e, if_true] at hq'; cases hq'
      · simp only [e, if_false] at hq'; exact hM.free q hq i q' hq'⟩
  have fF : FOk ⟨σ.f, fun i => if i = j then [] else σ.th i⟩ s.hp w0 A w F := by
    subst hF
    refine ⟨h.things.holds j, h.things.apart j, fun q hq => .inl ((h.things.came j q hq).resolve_right fun e => h0 e.1), fun q hq i q' hq' => ?_⟩
    by_cases e : i = j
    · simp only [e, if_true] at hq'; cases hq'
    · simp only [e, if_false] at hq'; exact h.things.two j i (Ne.symm e) q hq q' hq'
  have g : ∀ {sv : SV} {y : Value}, SvOk σ s.hp w0 A w sv y → SvOk ⟨σ.f, fun i => if i = j then [] else σ.th i⟩ s.hp w0 A w sv y := fun {sv y} hv => by
    cases sv with
    | v x L => exact ⟨hv.1, f0 hv.2⟩
    | p k' off => exact hv
    | s k' off n c => exact hv
    | a k' ver sz => exact hv
  refine ⟨h.size, h.defers, fun i sv hi => ?_, h.place, fun k b hk => ⟨(h.hp k b hk).1, f0 (h.hp k b hk).2⟩, h.inj, h.below, f0 h.base, ⟨fun i T' hi => ?_, fun i q hq => ?_, fun i q hq => ?_, fun i q hq => ?_, fun i i' hne q hq q' hq' => ?_⟩⟩
  · simp only [St.frz] at hi
    by_cases e : t = i
    · subst e
      rw [set_self] at hi
      simp only [Option.some.injEq] at hi
      subst hi
      have h1 := h.tm t _ ht
      exact ⟨h1.1, fF.app (f0 h1.2)⟩
    · rw [set_ne _ _ e] at hi
      exact g (h.tm i sv hi)
  · simp only [St.frz] at hi
    by_cases e : i = j
    · subst e; rw [Nat.beq_refl] at hi; cases hi
    · have hb : Nat.beq j i = false := by
        cases e2 : Nat.beq j i with
        | false => rfl
        | true => exact absurd (Nat.eq_of_beq_eq_true e2).symm e
      rw [hb] at hi
      simpa only [e, if_false] using h.things.is i T' hi
  · by_cases e : i = j
    · simp only [e, if_true] at hq; cases hq
    · simp only [e, if_false] at hq; exact h.things.holds i q hq
  · by_cases e : i = j
    · simp only [e, if_true] at hq; cases hq
    · simp only [e, if_false] at hq; exact h.things.apart i q hq
  · by_cases e : i = j
    · simp only [e, if_true] at hq; cases hq
    · simp only [e, if_false] at hq; exact h.things.came i q hq
  · by_cases c1 : i = j
    · simp only [c1, if_true] at hq; cases hq
    · by_cases c2 : i' = j
      · simp only [c2, if_true] at hq'; cases hq'
      · simp only [c1, if_false] at hq; simp only [c2, if_false] at hq'; exact h.things.two i i' hne q hq q' hq'
/-- Two things become one. -/
theorem Rel.mrg {σ : Pl} {s : St} {a : Act} {w : World} (h : Rel σ w0 A s a w) {k j : Nat} {T1 T2 T : TP} (hk : s.th k = some T1) (hj : s.th j = some T2) (h0 : j ≠ 0) (hne : k ≠ j) (hT : ∀ F1 F2, T1 F1 → T2 F2 → Apart F1 F2 → T (F1 ++ F2)) :
    Rel ⟨σ.f, fun i => if i = j then [] else if i = k then σ.th k ++ σ.th j else σ.th i⟩ w0 A (s.mrg k j T) a w := by
  have inn : ∀ {i : Nat} {q : Nat × Obj}, q ∈ (if i = j then [] else if i = k then σ.th k ++ σ.th j else σ.th i) → i ≠ j ∧ ((i = k ∧ (q ∈ σ.th k ∨ q ∈ σ.th j)) ∨ (i ≠ k ∧ q ∈ σ.th i)) := fun {i q} hq => by
    by_cases e : i = j
    · rw [if_pos e] at hq; cases hq
    · rw [if_neg e] at hq
      by_cases e2 : i = k
      · rw [if_pos e2] at hq; exact ⟨e, .inl ⟨e2, List.mem_append.1 hq⟩⟩
      · rw [if_neg e2] at hq; exact ⟨e, .inr ⟨e2, hq⟩⟩
  have old : ∀ {i : Nat} {q : Nat × Obj}, q ∈ (if i = j then [] else if i = k then σ.th k ++ σ.th j else σ.th i) → ∃ i', q ∈ σ.th i' ∧ (i' = i ∨ (i = k ∧ i' = j)) := fun {i q} hq => by
    obtain ⟨_, ⟨rfl, hq | hq⟩ | ⟨_, hq⟩⟩ := inn hq
    · exact ⟨_, hq, .inl rfl⟩
    · exact ⟨_, hq, .inr ⟨rfl, rfl⟩⟩
    · exact ⟨_, hq, .inl rfl⟩
  have f0 : ∀ {M : Facts}, FOk σ s.hp w0 A w M → FOk ⟨σ.f, fun i => if i = j then [] else if i = k then σ.th k ++ σ.th j else σ.th i⟩ s.hp w0 A w M := fun hM =>
    ⟨hM.holds, hM.apart, hM.came, fun q hq i q' hq' => by
      obtain ⟨i', h1, _⟩ := old hq'
      exact hM.free q hq i' q' h1⟩
  have g : ∀ {sv : SV} {y : Value}, SvOk σ s.hp w0 A w sv y → SvOk ⟨σ.f, fun i => if i = j then [] else if i = k then σ.th k ++ σ.th j else σ.th i⟩ s.hp w0 A w sv y := fun {sv y} hv => by
    cases sv with
    | v x L => exact ⟨hv.1, f0 hv.2⟩
    | p k' off => exact hv
    | s k' off n c => exact hv
    | a k' ver sz => exact hv
  refine ⟨h.size, h.defers, fun i sv hi => g (h.tm i sv hi), h.place, fun b b' hb => ⟨(h.hp b b' hb).1, f0 (h.hp b b' hb).2⟩, h.inj, h.below, f0 h.base, ⟨fun i T' hi => ?_, fun i q hq => ?_, fun i q hq => ?_, fun i q hq => ?_, fun i i' hii q hq q' hq' => ?_⟩⟩
  · simp only [St.mrg] at hi
    by_cases e : i = j
    · subst e; rw [Nat.beq_refl] at hi; cases hi
    · have hb : Nat.beq j i = false := by
        cases e2 : Nat.beq j i with
        | false => rfl
        | true => exact absurd (Nat.eq_of_beq_eq_true e2).symm e
      rw [hb] at hi
      by_cases e2 : i = k
      · subst e2
        rw [Nat.beq_refl] at hi
        simp only [cond_false, cond_true, Option.some.injEq] at hi
        subst hi
        simp only [e, if_false, if_true]
        exact hT _ _ (h.things.is i T1 hk) (h.things.is j T2 hj) (fun q hq q' hq' => fun e' => h.things.two i j hne q hq q' hq' e')
      · have hb2 : Nat.beq k i = false := by
          cases e3 : Nat.beq k i with
          | false => rfl
          | true => exact absurd (Nat.eq_of_beq_eq_true e3).symm e2
        rw [hb2] at hi
        simp only [e, e2, if_false]
        exact h.things.is i T' hi
  · obtain ⟨i', h1, _⟩ := old hq
    exact h.things.holds i' q h1
  · obtain ⟨i', h1, _⟩ := old hq
    exact h.things.apart i' q h1
  · obtain ⟨i', h1, h2⟩ := old hq
    rcases h.things.came i' q h1 with h3 | ⟨h3, h4⟩
    · exact .inl h3
    · rcases h2 with h2 | ⟨_, h2⟩
      · exact .inr ⟨by omega, h4⟩
      · exact absurd (h2.symm.trans h3) h0
  · obtain ⟨n1, m1⟩ := inn hq
    obtain ⟨n2, m2⟩ := inn hq'
    rcases m1 with ⟨rfl, m1⟩ | ⟨e1, m1⟩
    · rcases m2 with ⟨e2, _⟩ | ⟨e2, m2⟩
      · exact absurd e2.symm hii
      · rcases m1 with m1 | m1
        · exact h.things.two i i' hii q m1 q' m2
        · exact h.things.two j i' (Ne.symm n2) q m1 q' m2
    · rcases m2 with ⟨rfl, m2⟩ | ⟨e2, m2⟩
      · rcases m2 with m2 | m2
        · exact h.things.two i i' hii q m1 q' m2
        · exact h.things.two i j n1 q m1 q' m2
      · exact h.things.two i i' hii q m1 q' m2
/-- What a thing is gets a name. -/
theorem Rel.opn {σ : Pl} {s : St} {a : Act} {w : World} (h : Rel σ w0 A s a w) {j : Nat} {T : TP} (hT : T (σ.th j)) : Rel σ w0 A (s.opn j T) a w := by
  refine ⟨h.size, h.defers, h.tm, h.place, h.hp, h.inj, h.below, h.base, ⟨fun i T' hi => ?_, h.things.holds, h.things.apart, h.things.came, h.things.two⟩⟩
  simp only [St.opn] at hi
  by_cases e : j = i
  · subst e
    rw [set_self] at hi
    simp only [Option.some.injEq] at hi
    subst hi
    exact hT
  · rw [set_ne _ _ e] at hi
    exact h.things.is i T' hi
theorem pubs_sound {σ : Pl} {a : Act} {w : World} {G : Prop} : ∀ (ks : List Nat) (s : St) (K : List Nat → St → Prop), Rel σ w0 A s a w → pubs s ks K → (∀ ms s', Rel σ w0 A s' a w → s'.n = s.n → K ms s' → G) → G
  | [], s, K, h, hp, hG => hG [] s h rfl hp
  | k :: r, s, K, h, hp, hG => by
    unfold pubs at hp
    split at hp
    · rename_i b hb
      split at hp
      · rename_i hno
        exact pubs_sound r _ _ (h.pub hb hno) (hp (σ k - 1)) fun ms s' h1 h2 h3 => hG _ s' h1 h2 h3
      · exact hp.elim
    · exact hp.elim
theorem pre_sound {σ : Pl} {a : Act} {w : World} {G : Prop} {id : Nat} {k : List Orc → St → Prop} (O : List Orc) (s : St) (h : Rel σ w0 A s a w) (hp : preRun id O s k) (hG : ∀ σ' O' s', Rel σ' w0 A s' a w → s'.n = s.n → k O' s' → G) : G := by
  unfold preRun at hp
  split at hp
  · rename_i i ks Ob O'
    cases hi : Nat.beq i id with
    | true => rw [hi] at hp; exact pubs_sound ks s _ h hp fun ms s1 h1 h2 h3 => hG _ _ s1 h1 h2 h3
    | false => rw [hi] at hp; exact hG _ _ s h rfl hp
  · rename_i i t c Ob O'
    cases hi : Nat.beq i id with
    | true =>
      rw [hi] at hp
      simp only [cond_true, pubA] at hp
      split at hp
      · rename_i kk ver sz ht
        split at hp
        · rename_i b hb
          split at hp
          · rename_i hc
            simp only [Bool.and_eq_true, Bool.not_eq_true'] at hc
            obtain ⟨rfl, hp⟩ := hp
            obtain ⟨x, hR⟩ := h.puba ht hb (Nat.eq_of_beq_eq_true hc.1.2) (fun e0 => by rw [e0] at hc; simp at hc)
            exact hG _ _ _ hR rfl (hp x)
          · exact hp.elim
        · exact hp.elim
      · exact hp.elim
    | false => rw [hi] at hp; exact hG _ _ s h rfl hp
  · rename_i i t c j Ob O'
    cases hi : Nat.beq i id with
    | true =>
      rw [hi] at hp
      simp only [cond_true, pubAT] at hp
      split at hp
      · rename_i kk ver sz ht
        split at hp
        · rename_i b hb
          split at hp
          · rename_i hc
            simp only [Bool.and_eq_true, Bool.not_eq_true'] at hc
            obtain ⟨rfl, hp⟩ := hp
            obtain ⟨x, hR⟩ := h.pubat ht hb (Nat.eq_of_beq_eq_true hc.1.2) (fun e0 => by rw [e0] at hc; simp at hc) j
            exact hG _ _ _ hR rfl (hp x)
          · exact hp.elim
        · exact hp.elim
      · exact hp.elim
    | false => rw [hi] at hp; exact hG _ _ s h rfl hp
  · rename_i i t j F O'
    cases hi : Nat.beq i id with
    | true =>
      rw [hi] at hp
      simp only [cond_true, frzK] at hp
      split at hp
      · rename_i y L T j' ht hj
        exact hG _ _ _ (h.frz ht hj (Nat.succ_ne_zero _) hp.1) rfl hp.2
      · exact hp.elim
    | false => rw [hi] at hp; exact hG _ _ s h rfl hp
  · rename_i i X S Th Ob O'
    cases hi : Nat.beq i id with
    | true =>
      rw [hi] at hp
      obtain ⟨⟨x0, h1, h2⟩, hp⟩ := hp
      exact hG _ _ _ (h.leT h1 h2) h1.1.symm (hp x0)
    | false => rw [hi] at hp; exact hG _ _ s h rfl hp
  · rename_i i kk j T O'
    cases hi : Nat.beq i id with
    | true =>
      rw [hi] at hp
      simp only [cond_true, mrgK] at hp
      split at hp
      · rename_i T1 T2 j' hk hj hb
        exact hG _ _ _ (h.mrg hk hj (Nat.succ_ne_zero _) (fun e => by rw [e, Nat.beq_refl] at hb; cases hb) hp.1) rfl hp.2
      · exact hp.elim
    | false => rw [hi] at hp; exact hG _ _ s h rfl hp
  · rename_i i j Y T Ob O'
    cases hi : Nat.beq i id with
    | true =>
      rw [hi] at hp
      simp only [cond_true, opnK] at hp
      split at hp
      · rename_i T0 hj
        obtain ⟨y, hy⟩ := hp.1 _ (h.things.is j T0 hj)
        exact hG _ _ _ (h.opn hy) rfl (hp.2 y)
      · exact hp.elim
    | false => rw [hi] at hp; exact hG _ _ s h rfl hp
  · rename_i i kk j Ob O'
    cases hi : Nat.beq i id with
    | true =>
      rw [hi] at hp
      simp only [cond_true, pubT] at hp
      split at hp
      · rename_i b hb
        split at hp
        · rename_i hno
          exact hG _ _ _ (h.pubt hb hno j) rfl (hp (σ kk - 1))
        · exact hp.elim
      · exact hp.elim
    | false => rw [hi] at hp; exact hG _ _ s h rfl hp
  · exact hG _ _ s h rfl hp

theorem run_sound (hm : P.follows .mixedOrders = true) (hB : ∀ q ∈ B, q ∈ A) (n : Nat) : ∀ (c : Code) (O : List Orc) (s : St) (K : List Orc → Exit → St → Prop) (Q : Exit → Act → World → Prop), s.n = n → okCode n c = true →
    (∀ O' e σ' s' a' w', Rel σ' w0 A s' a' w' → s'.n = n → K O' e s' → Q e a' w') → ∀ (σ : Pl) (a : Act) (w : World), Rel σ w0 A s a w → run P B c O s K → c.wp P Q a w := by
  intro c
  induction c with
  | skip => intro O s K Q hn _ hQ σ a w h hr; exact wp_skip (hQ _ _ _ _ _ _ h hn hr)
  | label l => intro O s K Q hn _ hQ σ a w h hr; exact wp_label (hQ _ _ _ _ _ _ h hn hr)
  | exit id => intro O s K Q hn _ hQ σ a w h hr; exact wp_exit (hQ _ _ _ _ _ _ h hn hr)
  | ret => intro O s K Q hn _ hQ σ a w h hr; exact pre_sound O s h hr fun σ' O' s' h' hn' hr' => wp_ret (hQ _ _ _ _ _ _ h' (hn'.trans hn) hr')
  | region id ops draw =>
    intro O0 s0 K Q hn hok hQ σ a w h0 hr0
    subst hn
    simp only [run] at hr0
    refine pre_sound O0 s0 h0 hr0 fun σ O s h hn1 hr => ?_
    rw [← hn1] at hok hQ
    clear hr0 h0 hn1
    refine pre_sound O s h hr fun σ O s h hn1 hr => ?_
    rw [← hn1] at hok hQ
    refine pre_sound O s h hr fun σ O s h hn1 hr => ?_
    rw [← hn1] at hok hQ
    unfold regRun at hr
    split at hr
    · obtain ⟨x, O', hr⟩ := altRun_some hr
      exact region_sound (fun e => by rw [e]; rfl) hm hB hok (fun σ' s' a' w' h1 h2 h3 => hQ _ _ σ' (s'.next _) a' w' h1.next h2 h3) h hr
    · exact region_sound (fun e => by rw [e]; rfl) hm hB hok (fun σ' s' a' w' h1 h2 h3 => hQ _ _ σ' (s'.next _) a' w' h1.next h2 h3) h hr
    · exact region_sound (fun e => by rw [e]; rfl) hm hB hok (fun σ' s' a' w' h1 h2 h3 => hQ _ _ σ' (s'.next _) a' w' h1.next h2 h3) h hr
    · split at hr
      · exact region_sound (fun e => by rw [e]; rfl) hm hB hok (fun σ' s' a' w' h1 h2 h3 => hQ _ _ σ' (s'.next _) a' w' h1.next h2 h3) h hr
      · exact region_sound (fun e => by rw [e]; rfl) hm hB hok (fun σ' s' a' w' h1 h2 h3 => hQ _ _ σ' (s'.next _) a' w' h1.next h2 h3) h hr
    · exact region_sound (fun e => by rw [e]; rfl) hm hB hok (fun σ' s' a' w' h1 h2 h3 => hQ _ _ σ' (s'.next _) a' w' h1.next h2 h3) h hr
    · exact hr.elim
  | seq x y ihx ihy =>
    intro O s K Q hn hok hQ σ a w h hr
    simp only [okCode, Bool.and_eq_true] at hok
    refine wp_seq (ihx O s _ _ hn hok.1 (fun O' e σ' s' a' w' h1 h2 h3 => ?_) σ a w h hr)
    cases e with
    | normal => exact ihy O' s' K Q h2 hok.2 hQ σ' a' w' h1 h3
    | _ => exact hQ _ _ _ _ _ _ h1 h2 h3
  | cond c x y ihx ihy =>
    intro O s K Q hn hok hQ σ a w h hr
    simp only [okCode, Bool.and_eq_true] at hok
    simp only [run] at hr
    split at hr
    · rename_i t L hc
      have h1 := (h.ev hc).1
      split at hr
      · obtain ⟨rfl, hr⟩ := hr; exact wp_cond_true h1 (ihx _ s K Q hn hok.1 hQ σ a w h hr)
      · obtain ⟨rfl, hr⟩ := hr; exact wp_cond_false h1 (ihy _ s K Q hn hok.2 hQ σ a w h hr)
      · cases t with
        | true => exact wp_cond_true h1 (ihx _ s K Q hn hok.1 hQ σ a w h (hr.1 rfl))
        | false => exact wp_cond_false h1 (ihy _ s K Q hn hok.2 hQ σ a w h (hr.2 rfl))
      · exact hr.elim
    · exact hr.elim
  | block id c ih =>
    intro O s K Q hn hok hQ σ a w h hr
    refine wp_block (ih O s _ _ hn hok (fun O' e σ' s' a' w' h1 h2 h3 => ?_) σ a w h hr)
    cases e with
    | exit j =>
      simp only [Exit.inBlock] at h3 ⊢
      cases hj : Nat.beq j id with
      | true => rw [hj] at h3; rw [if_pos (Nat.eq_of_beq_eq_true hj)]; exact hQ _ _ _ _ _ _ h1 h2 h3
      | false =>
        rw [hj] at h3
        rw [if_neg (fun e => by subst e; rw [Nat.beq_refl] at hj; cases hj)]
        exact hQ _ _ _ _ _ _ h1 h2 h3
    | _ => exact hQ _ _ _ _ _ _ h1 h2 h3
  | loop c ih =>
    intro O s K Q hn hok hQ σ a w h hr
    simp only [run] at hr
    split at hr
    · rename_i X S μ Ob O'
      obtain ⟨⟨x0, hle⟩, hr⟩ := hr
      have hn0 : ∀ (s1 : St) (l : Ls), Le s1 l → s1.n = n → l.st.n = n := fun s1 l hl e => hl.1.symm.trans e
      have key : ∀ (m : Nat) (x : X), μ x ≤ m → (S x).st.n = n → ∀ σ a w, Rel σ w0 A (S x).st a w → Code.rounds P c Q (m + 1) a w := by
        intro m
        induction m with
        | zero =>
          intro x hx hnx σ a w h
          rw [rounds_succ]
          refine ih (Ob x) (S x).st _ _ hnx hok (fun O2 e σ' s' a' w' h1 h2 h3 => ?_) σ a w h (hr x)
          cases e with
          | normal => obtain ⟨x', hlt, _⟩ := h3; omega
          | _ => exact hQ _ _ _ _ _ _ h1 h2 h3
        | succ m ihm =>
          intro x hx hnx σ a w h
          rw [rounds_succ]
          refine ih (Ob x) (S x).st _ _ hnx hok (fun O2 e σ' s' a' w' h1 h2 h3 => ?_) σ a w h (hr x)
          cases e with
          | normal =>
            obtain ⟨x', hlt, hl⟩ := h3
            exact ihm x' (by omega) (hn0 _ _ hl h2) σ' a' w' (h1.le hl)
          | _ => exact hQ _ _ _ _ _ _ h1 h2 h3
      exact wp_loop_rounds (μ x0 + 1) (key (μ x0) x0 (Nat.le_refl _) (hn0 _ _ hle hn) σ a w (h.le hle))
    · rename_i X S Th μ Ob O'
      obtain ⟨⟨x0, hle, hlt⟩, hr⟩ := hr
      have hn0 : ∀ (s1 : St) (l : Ls), Le s1 l → s1.n = n → l.st.n = n := fun s1 l hl e => hl.1.symm.trans e
      have key : ∀ (m : Nat) (x : X), μ x ≤ m → (S x).st.n = n → ∀ σ a w, Rel σ w0 A ((S x).st.thr fun k => look k (Th x)) a w → Code.rounds P c Q (m + 1) a w := by
        intro m
        induction m with
        | zero =>
          intro x hx hnx σ a w h
          rw [rounds_succ]
          refine ih (Ob x) ((S x).st.thr fun k => look k (Th x)) _ _ hnx hok (fun O2 e σ' s' a' w' h1 h2 h3 => ?_) σ a w h (hr x)
          cases e with
          | normal => obtain ⟨x', hlt, _⟩ := h3; omega
          | _ => exact hQ _ _ _ _ _ _ h1 h2 h3
        | succ m ihm =>
          intro x hx hnx σ a w h
          rw [rounds_succ]
          refine ih (Ob x) ((S x).st.thr fun k => look k (Th x)) _ _ hnx hok (fun O2 e σ' s' a' w' h1 h2 h3 => ?_) σ a w h (hr x)
          cases e with
          | normal =>
            obtain ⟨x', hlt, hl, hl2⟩ := h3
            exact ihm x' (by omega) (hn0 _ _ hl h2) σ' a' w' (h1.leT hl hl2)
          | _ => exact hQ _ _ _ _ _ _ h1 h2 h3
      exact wp_loop_rounds (μ x0 + 1) (key (μ x0) x0 (Nat.le_refl _) (hn0 _ _ hle hn) σ a w (h.leT hle hlt))
    have key : ∀ m O s σ a w, s.n = n → Rel σ w0 A s a w → iter (run P B c) K m O s → Code.rounds P c Q m a w := by
      intro m
      induction m with
      | zero => intro O s σ a w _ _ hi; exact hi.elim
      | succ m ihm =>
        intro O s σ a w hn h hi
        rw [rounds_succ]
        refine ih O s _ _ hn hok (fun O' e σ' s' a' w' h1 h2 h3 => ?_) σ a w h hi
        cases e with
        | normal => exact ihm O' s' σ' a' w' h2 h1 h3
        | _ => exact hQ _ _ _ _ _ _ h1 h2 h3
    · exact wp_loop_rounds 300 (key 300 _ s σ a w hn h hr)
  | rangeFunc => intro O s K Q _ _ _ σ a w _ hr; exact hr.elim
  | scope => intro O s K Q _ _ _ σ a w _ hr; exact hr.elim
  | goto => intro O s K Q _ _ _ σ a w _ hr; exact hr.elim
  | refuse => intro O s K Q _ _ _ σ a w _ hr; exact hr.elim
end

section
variable {P : Program} {w0 : Start} {A B : Facts}

/-- Facts that hold, of what is new or came in. -/
def Came (σ : Pl) (w0 : Start) (A : Facts) (w : World) (L : Facts) : Prop := Holds w L ∧ (∀ q ∈ L, w0.heap.size ≤ q.1 ∨ ∃ q' ∈ A, q'.1 = q.1) ∧ ∀ q ∈ L, ∀ k, ∀ q' ∈ σ.th k, q'.1 ≠ q.1
theorem Came.app {σ : Pl} {w : World} {L M : Facts} (h : Came σ w0 A w L) (k : Came σ w0 A w M) : Came σ w0 A w (L ++ M) :=
  ⟨fun q hq => (List.mem_append.1 hq).elim (h.1 q) (k.1 q), fun q hq => (List.mem_append.1 hq).elim (h.2.1 q) (k.2.1 q), fun q hq => (List.mem_append.1 hq).elim (h.2.2 q) (k.2.2 q)⟩
theorem FOk.toCame {σ : Pl} {hp : Nat → Option Blk} {w : World} {L : Facts} (h : FOk σ hp w0 A w L) : Came σ w0 A w L := ⟨h.holds, h.came, h.free⟩

theorem buf_out {σ : Pl} {s : St} {a : Act} {w : World} (h : Rel σ w0 A s a w) {k : Nat} {b : Blk} (hb : s.hp k = some b) {sz : Nat} (hz : sz ≠ 0) {y : Value} (hbuf : BufOk (σ k) w b.ty b.c sz y) :
    ∃ x : FrX b.c, y = .slice (frO x) (lenB b.c sz) (frC sz x) ∧ Came σ w0 A w (frL b.ty x) := by
  rcases hbuf with ⟨q1, o', q2⟩ | ⟨q0, sp, n', cap, q1, q2, q3, q4⟩
  · have hl0 : lenB b.c sz = 0 := lenB_of hz (by rw [q1]; simp)
    exact ⟨.inl ⟨⟨q1⟩, o'⟩, by rw [q2, hl0]; rfl, fun _ h => (by cases h), fun _ h => (by cases h), fun _ h => (by cases h)⟩
  · refine ⟨.inr (σ k - 1, sp), ?_, ?_, ?_, ?_⟩
    · rw [q2, lenB_of hz q3]
      simp only [frO, frC, q4]
      rw [Nat.mul_div_cancel _ (by omega)]
    · intro q hq
      simp only [frL, List.mem_singleton] at hq
      subst hq
      exact q1
    · intro q hq
      simp only [frL, List.mem_singleton] at hq
      subst hq
      have := (h.place k b hb q0).1
      left
      simp only
      omega
    · intro q hq i q' hq'
      simp only [frL, List.mem_singleton] at hq
      subst hq
      intro e
      exact h.things.apart i q' hq' k b hb (by simp only at e; omega)

theorem res_sound {s : St} {σ : Pl} {a : Act} {w : World} (h : Rel σ w0 A s a w) (g : ResultVar → Sem Value) (g1 : ∀ t, g (.tmp t) = pure (a.tmps.getD t undef)) (g2 : ∀ x t, g (.cell x t) = (do loadVar t (← asAddr (a.tmps.getD x undef)))) :
    ∀ {l : List ResultVar} {K : List Value → Facts → Prop}, resK P s l K → ∃ vs L, (l.mapM g).run P w = .ok vs w ∧ Came σ w0 A w L ∧ K vs L
  | [], K, hl => ⟨[], [], rfl, ⟨fun _ h => (by cases h), fun _ h => (by cases h), fun _ h => (by cases h)⟩, hl⟩
  | .tmp t :: r, K, hl => by
    unfold resK at hl
    split at hl
    · rename_i x L1 ht
      obtain ⟨vs, M, h1, h2, h5⟩ := res_sound h g g1 g2 hl
      obtain ⟨h3, h4⟩ := h.tm t _ ht
      exact ⟨_, _, by simp only [List.mapM_cons, g1, Sem.run_bind, Sem.run_pure, Result.andThen_ok, h3, h1], h4.toCame.app h2, h5⟩
    · rename_i k off n c ht
      obtain ⟨h3, b', hb', hn⟩ := h.tm t _ ht
      rw [hb'] at hl
      obtain ⟨vs, M, h1, h2, h5⟩ := res_sound h g g1 g2 (hl (σ k - 1))
      obtain ⟨h6, h7⟩ := h.hp k b' hb'
      obtain ⟨h8, h9⟩ := h6 hn
      refine ⟨_, _, by simp only [List.mapM_cons, g1, Sem.run_bind, Sem.run_pure, Result.andThen_ok, h3, h1], ?_, h5⟩
      have hc : Came σ w0 A w [(σ k - 1, .cells b'.c.toArray b'.t)] := ⟨fun q hq => by simp only [List.mem_singleton] at hq; subst hq; exact h9, fun q hq => by
        simp only [List.mem_singleton] at hq
        subst hq
        have := (h.place k b' hb' h8).1
        left
        simp only
        omega, fun q hq i q' hq' => by
        simp only [List.mem_singleton] at hq
        subst hq
        intro e
        exact h.things.apart i q' hq' k b' hb' (by simp only at e; omega)⟩
      exact hc.app (h7.toCame.app h2)
    · rename_i k ver sz ht
      obtain ⟨b', hb', hn, hle, hbuf⟩ := h.tm t _ ht
      rw [hb'] at hl
      simp only at hl
      split at hl
      · rename_i hc
        simp only [Bool.and_eq_true, Bool.not_eq_true'] at hc
        have hz : sz ≠ 0 := fun e => by rw [e] at hc; simp at hc
        obtain ⟨x, hx1, hx2⟩ := buf_out h hb' hz (hbuf (Nat.eq_of_beq_eq_true hc.1.2))
        obtain ⟨vs, M, h1, h2, h5⟩ := res_sound h g g1 g2 (hl x)
        exact ⟨_, _, by simp only [List.mapM_cons, g1, Sem.run_bind, Sem.run_pure, Result.andThen_ok, hx1, h1], hx2.app ((h.hp k b' hb').2.toCame.app h2), h5⟩
      · exact hl.elim
    · exact hl.elim
  | .cell x t :: r, K, hl => by
    unfold resK at hl
    split at hl
    · rename_i kk off ht
      split at hl
      · rename_i b hb
        split at hl
        · rename_i y hno hy
          obtain ⟨vs, M, h1, h2, h7⟩ := res_sound h g g1 g2 hl
          obtain ⟨h3, h4⟩ := h.tm x _ ht
          have h5 := ldOwn_sound (w := w) hy (cell_own h hb hno)
          have h6 : (asAddr (a.tmps.getD x undef)).run P w = .ok ⟨σ kk - 1, off, none⟩ w := by rw [h3]; rfl
          exact ⟨_, _, by simp only [List.mapM_cons, g2, Sem.run_bind, Sem.run_pure, Result.andThen_ok, h6, h5, h1], (h.hp kk b hb).2.toCame.app h2, h7⟩
        · exact hl.elim
      · exact hl.elim
    · exact hl.elim

theorem results_run {fn : Func} {a : Act} {w : World} {vs : List Value} (key : ∀ g : ResultVar → Sem Value, (∀ t, g (.tmp t) = pure (a.tmps.getD t undef)) → (∀ x t, g (.cell x t) = (do loadVar t (← asAddr (a.tmps.getD x undef)))) → (fn.results.toList.mapM g).run P w = .ok vs w) :
    (results fn a.tmps).run P w = .ok (one vs) w := by
  unfold results
  rw [Array.mapM_eq_mapM_toList, Sem.run_bind, Sem.run_map, key]
  · simp only [Result.andThen_ok, Sem.run_pure]
    congr 1
    cases vs with
    | nil => simp [one]
    | cons x r =>
      cases r with
      | nil => simp [one]
      | cons y r => simp [one]
  · exact fun _ => rfl
  · exact fun _ _ => rfl

theorem results_sound {fn : Func} {s : St} {σ : Pl} {a : Act} {w : World} (h : Rel σ w0 A s a w) {K : List Value → Facts → Prop} (hr : resK P s fn.results.toList K) :
    ∃ vs L, (results fn a.tmps).run P w = .ok (one vs) w ∧ Came σ w0 A w L ∧ K vs L := by
  obtain ⟨vs, L, h1, h2, h3⟩ := res_sound h (fun r => match r with | .tmp t => pure (a.tmps.getD t undef) | .cell x t => do loadVar t (← asAddr (a.tmps.getD x undef))) (fun _ => rfl) (fun _ _ => rfl) hr
  refine ⟨vs, L, results_run fun g g1 g2 => ?_, h2, h3⟩
  have : g = (fun r => match r with | .tmp t => pure (a.tmps.getD t undef) | .cell x t => do loadVar t (← asAddr (a.tmps.getD x undef))) := by
    funext r
    cases r with
    | tmp t => exact g1 t
    | cell x t => exact g2 x t
  rw [this]
  exact h1

def okFn (fn : Func) (k : Nat) : Bool :=
  match fn.body with
  | none => false
  | some c => okCode fn.ntmps c && Nat.ble k fn.ntmps

theorem argTm_spec : ∀ {args : List (Value × Facts)} {i : Nat} {sv : SV}, argTm args i = some sv → ∃ q, args[i]? = some q ∧ sv = .v q.1 q.2
  | [], i, sv, h => by cases h
  | (x, L) :: r, i, sv, h => by
    unfold argTm at h
    cases i with
    | zero => simp at h; exact ⟨(x, L), rfl, h.symm⟩
    | succ i =>
      simp at h
      obtain ⟨q, h1, h2⟩ := argTm_spec h
      exact ⟨q, by simpa using h1, h2⟩

theorem argFacts_mem : ∀ {args : List (Value × Facts)} {q : Value × Facts}, q ∈ args → ∀ x ∈ q.2, x ∈ argFacts args
  | (y, L) :: r, q, hq, x, hx => by
    unfold argFacts
    rcases List.mem_cons.1 hq with rfl | hq
    · exact List.mem_append.2 (.inl hx)
    · exact List.mem_append.2 (.inr (argFacts_mem hq x hx))

/-- The contract, out of what was asked. -/
theorem gives_of_vc {f : FuncId} {fn : Func} {args : List (Value × Facts)} {X : Type} {ret : X → Value} {M : X → Facts} {O : List Orc} (hf : P.funcs[f]? = some fn) (hne : (fn.name == "runtime.NumGoroutine") = false)
    (hm : P.follows .mixedOrders = true) (hok : okFn fn args.length = true) (hvc : Vc P fn B args X ret M O) : Gives P f (args.map (·.1)) (B ++ argFacts args) X ret M := by
  intro w hA
  unfold okFn at hok
  unfold Vc at hvc
  cases hb : fn.body with
  | none => rw [hb] at hvc; exact hvc.elim
  | some c =>
    rw [hb] at hok hvc
    simp only [Bool.and_eq_true] at hok
    have hlen := Nat.le_of_ble_eq_true hok.2
    have hcall : (callFunc f (args.map (·.1)).toArray).run P w = .ok (.enter f (args.map (·.1)).toArray) w := by
      have hne' : ¬ fn.name = "runtime.NumGoroutine" := by simpa using hne
      simp [callFunc, hf, hne', hb]
    unfold CallRun
    rw [hcall]
    simp only
    refine calls_of_wp hf hb ?_
    have hA' : FOk ⟨fun _ => 0, fun _ => []⟩ (init fn.ntmps args).hp ⟨w, []⟩ (B ++ argFacts args) w (B ++ argFacts args) := ⟨hA, fun q _ k b hk => (by cases hk), fun q hq => .inr ⟨q, hq, rfl⟩, fun q _ k q' hq' => (by cases hq')⟩
    have hrel : Rel ⟨fun _ => 0, fun _ => []⟩ ⟨w, []⟩ (B ++ argFacts args) (init fn.ntmps args) { tmps := (args.map (·.1)).toArray ++ Array.replicate (fn.ntmps - (args.map (·.1)).toArray.size) undef, defers := [] } w := by
      refine ⟨?_, rfl, fun i sv hi => ?_, fun k b hk => (by cases hk), fun k b hk => (by cases hk), fun k k' b b' hk => (by cases hk), Still.refl _ _, hA', ⟨fun k T hk => (by cases hk), fun k q hq => (by cases hq), fun k q hq => (by cases hq), fun k q hq => (by cases hq), fun k j _ q hq => (by cases hq)⟩⟩
      · simp [init]; omega
      · obtain ⟨q, h1, rfl⟩ := argTm_spec hi
        have hilt : i < args.length := (List.getElem?_eq_some_iff.1 h1).1
        refine ⟨?_, hA'.sub fun x hx => List.mem_append.2 (.inr (argFacts_mem (List.mem_of_getElem? h1) x hx))⟩
        have h2 : args[i] = q := by simpa [List.getElem?_eq_getElem hilt] using h1
        simp [Array.getElem?_append, hilt, h2]
    refine run_sound hm (fun q hq => List.mem_append.2 (.inl hq)) fn.ntmps c O _ _ _ rfl hok.1 ?_ _ _ _ hrel hvc
    intro O' e σ' s' a' w' h1 h2 h3
    have fin : (resK P s' fn.results.toList fun vs L => ∃ x, one vs = ret x ∧ ∀ q ∈ M x, q ∈ L) →
        a'.defers = [] ∧ ∃ v, (results fn a'.tmps).run P w' = .ok v w' ∧ ∃ u, Ending.returned v = .returned u ∧ ∃ x, u = ret x ∧ Holds w' (M x) ∧ (∀ q ∈ M x, w.heap.size ≤ q.1 ∨ ∃ q' ∈ B ++ argFacts args, q'.1 = q.1) ∧ Below w.heap.size w w' := by
      intro h3
      obtain ⟨vs, L, h4, h5, x, hx, hM⟩ := results_sound h1 h3
      exact ⟨h1.defers, one vs, h4, one vs, rfl, x, hx, fun q hq => h5.1 q (hM q hq), fun q hq => h5.2.1 q (hM q hq), h1.below.below⟩
    cases e with
    | normal => exact fin h3
    | ret => exact fin h3
    | _ => exact h3.elim

/-- The same for a call that has a thing. -/
theorem givesT_of_vc {f : FuncId} {fn : Func} {args : List (Value × Facts)} {T : TP} {X : Type} {ret : X → Value} {M : X → Facts} {T' : X → TP} {O : List Orc} (hf : P.funcs[f]? = some fn) (hne : (fn.name == "runtime.NumGoroutine") = false)
    (hm : P.follows .mixedOrders = true) (hok : okFn fn args.length = true) (hvc : VcT P fn B args T X ret M T' O) : CallT P f (args.map (·.1)) (B ++ argFacts args) T X ret M T' := by
  intro w F hT hA hF hap
  unfold okFn at hok
  unfold VcT at hvc
  cases hb : fn.body with
  | none => rw [hb] at hvc; exact hvc.elim
  | some c =>
    rw [hb] at hok hvc
    simp only [Bool.and_eq_true] at hok
    have hlen := Nat.le_of_ble_eq_true hok.2
    have hcall : (callFunc f (args.map (·.1)).toArray).run P w = .ok (.enter f (args.map (·.1)).toArray) w := by
      have hne' : ¬ fn.name = "runtime.NumGoroutine" := by simpa using hne
      simp [callFunc, hf, hne', hb]
    unfold CallRun
    rw [hcall]
    simp only
    refine calls_of_wp hf hb ?_
    have hth : ∀ k, ∀ q ∈ (if k = 0 then F else []), q ∈ F := fun k q hq => by
      by_cases e : k = 0
      · simpa only [e, if_true] using hq
      · simp only [e, if_false] at hq; cases hq
    have hA' : FOk ⟨fun _ => 0, fun k => if k = 0 then F else []⟩ (init fn.ntmps args).hp ⟨w, F⟩ (B ++ argFacts args) w (B ++ argFacts args) := ⟨hA, fun q _ k b hk => (by cases hk), fun q hq => .inr ⟨q, hq, rfl⟩, fun q hq k q' hq' => hap q hq q' (hth k q' hq')⟩
    have hrel : Rel ⟨fun _ => 0, fun k => if k = 0 then F else []⟩ ⟨w, F⟩ (B ++ argFacts args) ((init fn.ntmps args).thr fun k => look k [(0, T)]) { tmps := (args.map (·.1)).toArray ++ Array.replicate (fn.ntmps - (args.map (·.1)).toArray.size) undef, defers := [] } w := by
      refine ⟨?_, rfl, fun i sv hi => ?_, fun k b hk => (by cases hk), fun k b hk => (by cases hk), fun k k' b b' hk => (by cases hk), Still.refl _ _, hA', ⟨fun k T1 hk => ?_, fun k q hq => hF q (hth k q hq), fun k q hq j b hj => (by cases hj), fun k q hq => .inr ⟨?_, q, hth k q hq, rfl⟩, fun k j hkj q hq q' hq' => ?_⟩⟩
      · simp [init, St.thr]; omega
      · obtain ⟨q, h1, rfl⟩ := argTm_spec hi
        have hilt : i < args.length := (List.getElem?_eq_some_iff.1 h1).1
        refine ⟨?_, hA'.sub fun x hx => List.mem_append.2 (.inr (argFacts_mem (List.mem_of_getElem? h1) x hx))⟩
        have h2 : args[i] = q := by simpa [List.getElem?_eq_getElem hilt] using h1
        simp [Array.getElem?_append, hilt, h2]
      · simp only [St.thr, look] at hk
        cases e : Nat.beq 0 k with
        | true =>
          rw [e] at hk
          simp only [cond_true, Option.some.injEq] at hk
          subst hk
          have := Nat.eq_of_beq_eq_true e
          subst this
          simpa only [if_true] using hT
        | false => rw [e] at hk; cases hk
      · by_cases e : k = 0
        · exact e
        · simp only [e, if_false] at hq; cases hq
      · exfalso
        by_cases e : k = 0
        · have e2 : ¬ j = 0 := fun e' => hkj (e.trans e'.symm)
          simp only [e2, if_false] at hq'
          cases hq'
        · simp only [e, if_false] at hq
          cases hq
    refine run_sound hm (fun q hq => List.mem_append.2 (.inl hq)) fn.ntmps c O _ _ _ rfl hok.1 ?_ _ _ _ hrel hvc
    intro O' e σ' s' a' w' h1 h2 h3
    have fin : (resK P s' fn.results.toList fun vs L => ∃ x, one vs = ret x ∧ (∀ q ∈ M x, q ∈ L) ∧ LeT s' [(0, T' x)]) →
        a'.defers = [] ∧ ∃ v, (results fn a'.tmps).run P w' = .ok v w' ∧ ∃ u, Ending.returned v = .returned u ∧ TPost (B ++ argFacts args) X ret M T' w F u w' := by
      intro h3
      obtain ⟨vs, L, h4, h5, x, hx, hM, hL⟩ := results_sound h1 h3
      have hT2 : T' x (σ'.th 0) := by
        have := hL.1
        simp only at this
        split at this
        · rename_i T0 h0; exact this _ (h1.things.is 0 T0 h0)
        · exact this.elim
      exact ⟨h1.defers, one vs, h4, one vs, rfl, x, σ'.th 0, hx, hT2, fun q hq => h5.1 q (hM q hq), h1.things.holds 0, fun q hq q' hq' => h5.2.2 q (hM q hq) 0 q' hq', fun q hq => h5.2.1 q (hM q hq), fun q hq => (h1.things.came 0 q hq).imp id And.right, h1.below⟩
    cases e with
    | normal => exact fin h3
    | ret => exact fin h3
    | _ => exact h3.elim

/-- It leaves the thing as it was: then it only reads. -/
theorem CallT.reads {f : FuncId} {l : List Value} {A F : Facts} {X : Type} {ret : X → Value} {L : X → Facts} (h : CallT P f l A (fun G => G = F) X ret L (fun _ G => G = F)) : CallR P f l A F X ret L := by
  intro w hA hF hap
  have h1 := h w F rfl hA hF hap
  have fin : ∀ v w', TPost A X ret L (fun _ G => G = F) w F v w' → RPost A X ret L w v w' := by
    rintro v w' ⟨x, F', h2, rfl, h3, h4, h5, h6, h7, h8⟩
    refine ⟨x, h2, h3, h6, h8.os, h8.tape, h8.output, h8.size, fun k hk => ?_⟩
    by_cases e : ∃ q ∈ F', q.1 = k
    · obtain ⟨q, hq, rfl⟩ := e
      rw [h4 q hq, hF q hq]
    · exact h8.block k hk fun q hq e' => e ⟨q, hq, e'⟩
  unfold CallRun at h1 ⊢
  split
  · rename_i v w' hv
    rw [hv] at h1
    exact fin _ _ h1
  · rename_i g as w' hv
    rw [hv] at h1
    refine Calls.mono h1 ?_
    rintro e w'' ⟨v, rfl, hv⟩
    exact ⟨v, rfl, fin _ _ hv⟩
  · rename_i hv1 hv2
    split at h1
    · rename_i v w' hv; exact absurd hv (hv1 v w')
    · rename_i g as w' hv; exact absurd hv (hv2 g as w')
    · exact h1

/-- Calls by such contracts. -/
theorem callT_op {f : FuncId} {l : List Value} {A : Facts} {T : TP} {X : Type} {ret : X → Value} {L : X → Facts} {T' : X → TP} (h : CallT P f l A T X ret L T') {ρ : Operand → Value} {dst : Option Tmp} {args : Array Operand} {tys : Array TypeId} {type : TypeId} {pos : String} {after : Array Edge} {guard : Option (Nat × Bool)} (hl : args.toList.map ρ = l) (hρ : ρ (.func f) = .func (.func f) #[] #[]) :
    GivesT P (execOp ρ ⟨dst, .call ⟨.value (.func f), args, tys⟩, type, pos, after, guard⟩) A T X ret L T' := by
  have hm : args.map ρ = l.toArray := by
    apply Array.ext'
    rw [Array.toList_map, hl]
  have he : execOp ρ ⟨dst, .call ⟨.value (.func f), args, tys⟩, type, pos, after, guard⟩ = callFunc f l.toArray := by
    simp [execOp, resolve, hρ, Deferred.ofValue, invoke, hm]
  intro w F hT hA hF hap
  rw [he]
  exact OpRun.t (show OpRun P (callFunc f l.toArray) w _ from h w F hT hA hF hap)
theorem callR_op {f : FuncId} {l : List Value} {A F : Facts} {X : Type} {ret : X → Value} {L : X → Facts} (h : CallR P f l A F X ret L) {ρ : Operand → Value} {dst : Option Tmp} {args : Array Operand} {tys : Array TypeId} {type : TypeId} {pos : String} {after : Array Edge} {guard : Option (Nat × Bool)} (hl : args.toList.map ρ = l) (hρ : ρ (.func f) = .func (.func f) #[] #[]) :
    ReadsOp P (execOp ρ ⟨dst, .call ⟨.value (.func f), args, tys⟩, type, pos, after, guard⟩) A F X ret L := by
  have hm : args.map ρ = l.toArray := by
    apply Array.ext'
    rw [Array.toList_map, hl]
  have he : execOp ρ ⟨dst, .call ⟨.value (.func f), args, tys⟩, type, pos, after, guard⟩ = callFunc f l.toArray := by
    simp [execOp, resolve, hρ, Deferred.ofValue, invoke, hm]
  intro w hA hF hap
  rw [he]
  exact h w hA hF hap

/-- A contract: the call returns a slice that nobody else holds, with one of the listed contents. -/
def GivesA (P : Program) (f : FuncId) (args : List Value) (A : Facts) (X : Type) (e sz : Nat) (c : X → List Value) : Prop :=
  ∀ w, Holds w A → CallRun P f args.toArray w fun v w' => ∃ x, Fresh w.heap.size w' e sz (c x) v ∧ Below w.heap.size w w'

theorem givesA_of_vc {f : FuncId} {fn : Func} {args : List (Value × Facts)} {X : Type} {e sz : Nat} {c : X → List Value} {O : List Orc} (hf : P.funcs[f]? = some fn) (hne : (fn.name == "runtime.NumGoroutine") = false)
    (hm : P.follows .mixedOrders = true) (hok : okFn fn args.length = true) (hvc : VcA P fn B args X e sz c O) : GivesA P f (args.map (·.1)) (B ++ argFacts args) X e sz c := by
  intro w hA
  unfold okFn at hok
  unfold VcA at hvc
  cases hb : fn.body with
  | none => rw [hb] at hvc; exact hvc.elim
  | some cd =>
    rw [hb] at hok hvc
    simp only [Bool.and_eq_true] at hok
    have hlen := Nat.le_of_ble_eq_true hok.2
    have hcall : (callFunc f (args.map (·.1)).toArray).run P w = .ok (.enter f (args.map (·.1)).toArray) w := by
      have hne' : ¬ fn.name = "runtime.NumGoroutine" := by simpa using hne
      simp [callFunc, hf, hne', hb]
    unfold CallRun
    rw [hcall]
    simp only
    refine calls_of_wp hf hb ?_
    have hA' : FOk ⟨fun _ => 0, fun _ => []⟩ (init fn.ntmps args).hp ⟨w, []⟩ (B ++ argFacts args) w (B ++ argFacts args) := ⟨hA, fun q _ k b hk => (by cases hk), fun q hq => .inr ⟨q, hq, rfl⟩, fun q _ k q' hq' => (by cases hq')⟩
    have hrel : Rel ⟨fun _ => 0, fun _ => []⟩ ⟨w, []⟩ (B ++ argFacts args) (init fn.ntmps args) { tmps := (args.map (·.1)).toArray ++ Array.replicate (fn.ntmps - (args.map (·.1)).toArray.size) undef, defers := [] } w := by
      refine ⟨?_, rfl, fun i sv hi => ?_, fun k b hk => (by cases hk), fun k b hk => (by cases hk), fun k k' b b' hk => (by cases hk), Still.refl _ _, hA', ⟨fun k T hk => (by cases hk), fun k q hq => (by cases hq), fun k q hq => (by cases hq), fun k q hq => (by cases hq), fun k j _ q hq => (by cases hq)⟩⟩
      · simp [init]; omega
      · obtain ⟨q, h1, rfl⟩ := argTm_spec hi
        have hilt : i < args.length := (List.getElem?_eq_some_iff.1 h1).1
        refine ⟨?_, hA'.sub fun x hx => List.mem_append.2 (.inr (argFacts_mem (List.mem_of_getElem? h1) x hx))⟩
        have h2 : args[i] = q := by simpa [List.getElem?_eq_getElem hilt] using h1
        simp [Array.getElem?_append, hilt, h2]
    refine run_sound hm (fun q hq => List.mem_append.2 (.inl hq)) fn.ntmps cd O _ _ _ rfl hok.1 ?_ _ _ _ hrel hvc
    intro O' ex σ' s' a' w' h1 h2 h3
    have fin : resA s' e sz (fun l => ∃ x, l = c x) fn.results.toList →
        a'.defers = [] ∧ ∃ v, (results fn a'.tmps).run P w' = .ok v w' ∧ ∃ u, Ending.returned v = .returned u ∧ ∃ x, Fresh w.heap.size w' e sz (c x) u ∧ Below w.heap.size w w' := by
      intro h3
      unfold resA at h3
      split at h3
      case h_2 => exact h3.elim
      rename_i t hres
      have hrun : (results fn a'.tmps).run P w' = .ok (one [a'.tmps.getD t undef]) w' := results_run fun g g1 g2 => by
        rw [hres]
        simp only [List.mapM_cons, List.mapM_nil, g1, Sem.run_bind, Sem.run_pure, Result.andThen_ok]
      split at h3
      · rename_i k ver sz' ht
        obtain ⟨b, hb, hno, hle, hbuf⟩ := h1.tm t _ ht
        rw [hb] at h3
        simp only at h3
        split at h3
        · rename_i hc
          simp only [Bool.and_eq_true, Bool.not_eq_true'] at hc
          obtain ⟨x, hx⟩ := h3
          refine ⟨h1.defers, _, hrun, _, rfl, x, ?_, h1.below.below⟩
          have hbo := hbuf (Nat.eq_of_beq_eq_true hc.1.2)
          rw [Nat.eq_of_beq_eq_true hc.2.2, Nat.eq_of_beq_eq_true hc.2.1, hx] at hbo
          rcases hbo with h5 | ⟨h5, sp, n, cap, h6⟩
          · exact .inl h5
          · exact .inr ⟨σ' k - 1, sp, n, cap, by have : w.heap.size < σ' k := (h1.place k b hb h5).1; omega, h6⟩
        · exact h3.elim
      · rename_i o L ht
        obtain ⟨x, hx⟩ := h3
        refine ⟨h1.defers, _, hrun, _, rfl, x, .inl ⟨hx.symm, o, ?_⟩, h1.below.below⟩
        exact (h1.tm t _ ht).1
      · exact h3.elim
    cases ex with
    | normal => exact fin h3
    | ret => exact fin h3
    | _ => exact h3.elim

/-- A call by such a contract. -/
theorem GivesA.op {f : FuncId} {l : List Value} {A : Facts} {X : Type} {e sz : Nat} {c : X → List Value} (h : GivesA P f l A X e sz c) {ρ : Operand → Value} {dst : Option Tmp} {args : Array Operand} {tys : Array TypeId} {type : TypeId} {pos : String} {after : Array Edge} {guard : Option (Nat × Bool)} (hl : args.toList.map ρ = l) (hρ : ρ (.func f) = .func (.func f) #[] #[]) :
    OwnOp P (execOp ρ ⟨dst, .call ⟨.value (.func f), args, tys⟩, type, pos, after, guard⟩) A X e sz c := by
  have hm : args.map ρ = l.toArray := by
    apply Array.ext'
    rw [Array.toList_map, hl]
  have he : execOp ρ ⟨dst, .call ⟨.value (.func f), args, tys⟩, type, pos, after, guard⟩ = callFunc f l.toArray := by
    simp [execOp, resolve, hρ, Deferred.ofValue, invoke, hm]
  intro w hw
  rw [he]
  exact h w hw
end

/-! Go's '==' of arrays and structs of bools, integers and strings. -/

inductive Leaf where
  | b
  | i (k : IntKind)
  | s

def fitL : List Leaf → List Value → Bool
  | [], [] => true
  | .b :: r, .bool _ :: q => fitL r q
  | .i k :: r, .int k' _ :: q => (k == k') && fitL r q
  | .s :: r, .string _ :: q => fitL r q
  | _, _ => false

def fieldLeaves (P : Program) (f : TypeId → Option (List Leaf)) : Nat → List Field → Option (List Leaf)
  | _, [] => some []
  | off, fd :: r =>
    bif (fd.name != "_") && Nat.beq fd.offset off then
      match f fd.type with
      | some l =>
        match fieldLeaves P f (off + l.length) r with
        | some m => some (l ++ m)
        | none => none
      | none => none
    else none

def leaves (P : Program) : Nat → TypeId → Option (List Leaf)
  | 0, _ => none
  | d + 1, t =>
    match P.underlying t, P.info? t with
    | some .bool, some i => bif Nat.beq i.size 1 then some [.b] else none
    | some (.int k), some i => bif Nat.beq i.size 1 then some [.i k] else none
    | some .string, some i => bif Nat.beq i.size 1 then some [.s] else none
    | some (.array n e), some i =>
      match leaves P d e with
      | some l => bif Nat.beq i.size (n * l.length) then some (List.replicate n l).flatten else none
      | none => none
    | some (.struct fs), some i =>
      bif P.stoodInHeld t then none else
      match fieldLeaves P (leaves P d) 0 fs.toList with
      | some l => bif Nat.beq i.size l.length then some l else none
      | none => none
    | _, _ => none

theorem fitL_len : ∀ {ls : List Leaf} {xs : List Value}, fitL ls xs = true → xs.length = ls.length
  | [], [], _ => rfl
  | [], _ :: _, h => by cases h
  | .b :: r, x :: q, h => by cases x <;> simp only [fitL, Bool.false_eq_true] at h; simp [fitL_len h]
  | .i k :: r, x :: q, h => by cases x <;> simp only [fitL, Bool.false_eq_true, Bool.and_eq_true] at h; simp [fitL_len h.2]
  | .s :: r, x :: q, h => by cases x <;> simp only [fitL, Bool.false_eq_true] at h; simp [fitL_len h]
  | .b :: _, [], h => by cases h
  | .i _ :: _, [], h => by cases h
  | .s :: _, [], h => by cases h

theorem fitL_append : ∀ {l m : List Leaf} {xs : List Value}, fitL (l ++ m) xs = true → fitL l (xs.take l.length) = true ∧ fitL m (xs.drop l.length) = true
  | [], m, xs, h => by simpa [fitL] using h
  | .b :: r, m, x :: q, h => by cases x <;> simp only [List.cons_append, fitL, Bool.false_eq_true] at h; have := fitL_append h; simpa [fitL] using this
  | .i k :: r, m, x :: q, h => by
    cases x <;> simp only [List.cons_append, fitL, Bool.false_eq_true, Bool.and_eq_true] at h
    have := fitL_append h.2
    simpa [fitL, h.1] using this
  | .s :: r, m, x :: q, h => by cases x <;> simp only [List.cons_append, fitL, Bool.false_eq_true] at h; have := fitL_append h; simpa [fitL] using this
  | .b :: _, _, [], h => by cases h
  | .i _ :: _, _, [], h => by cases h
  | .s :: _, _, [], h => by cases h

theorem cellsEq_append : ∀ {a b c d : List Value}, a.length = c.length → cellsEq (a ++ b) (c ++ d) = (cellsEq a c && cellsEq b d)
  | [], b, [], d, _ => by simp [cellsEq]
  | x :: a, b, y :: c, d, h => by
    simp only [List.cons_append, cellsEq]
    rw [cellsEq_append (by simpa using h), Bool.and_assoc]
  | [], _, _ :: _, _, h => by cases h
  | _ :: _, _, [], _, h => by cases h

theorem cellsEq_take_drop {xs ys : List Value} (n : Nat) (h : xs.length = ys.length) : cellsEq xs ys = (cellsEq (xs.take n) (ys.take n) && cellsEq (xs.drop n) (ys.drop n)) := by
  have := cellsEq_append (a := xs.take n) (b := xs.drop n) (c := ys.take n) (d := ys.drop n) (by simp [h])
  rwa [List.take_append_drop, List.take_append_drop] at this

/-- A value of the type, with these cells. -/
def Formed (P : Program) (t : TypeId) (x : Value) (cs : List Value) : Prop :=
  ((∃ fs, P.underlying t = some (.struct fs)) ∨ (∃ n e, P.underlying t = some (.array n e))) ∧ x = .agg cs.toArray ∨
  (∃ d, P.underlying t = some d ∧ (∀ fs, d ≠ .struct fs) ∧ ∀ n e, d ≠ .array n e) ∧ cs = [x]

theorem leaf_one {i : TypeInfo} {x : Leaf} {ls : List Leaf} (h : (bif Nat.beq i.size 1 then some [x] else none) = some ls) : i.size = 1 ∧ ls = [x] := by
  cases hb : Nat.beq i.size 1 with
  | false => rw [hb] at h; cases h
  | true =>
    rw [hb] at h
    simp only [cond_true, Option.some.injEq] at h
    exact ⟨Nat.eq_of_beq_eq_true hb, h.symm⟩

theorem leaves_info {P : Program} {m : Nat} {t : TypeId} {ls : List Leaf} (h : leaves P m t = some ls) : ∃ i, P.info? t = some i ∧ i.size = ls.length := by
  cases m with
  | zero => cases h
  | succ m =>
    unfold leaves at h
    split at h
    · rename_i i _ hi; obtain ⟨h1, rfl⟩ := leaf_one h; exact ⟨i, hi, h1⟩
    · rename_i i _ hi; obtain ⟨h1, rfl⟩ := leaf_one h; exact ⟨i, hi, h1⟩
    · rename_i i _ hi; obtain ⟨h1, rfl⟩ := leaf_one h; exact ⟨i, hi, h1⟩
    · rename_i n e i hu hi
      split at h
      · rename_i l _
        cases hb : Nat.beq i.size (n * l.length) with
        | false => rw [hb] at h; cases h
        | true =>
          rw [hb] at h
          simp only [cond_true, Option.some.injEq] at h
          subst h
          exact ⟨i, hi, by rw [Nat.eq_of_beq_eq_true hb]; simp⟩
      · cases h
    · rename_i fs i hu hi
      cases hs : P.stoodInHeld t with
      | true => rw [hs] at h; cases h
      | false =>
        rw [hs] at h
        simp only [cond_false] at h
        split at h
        · rename_i l _
          cases hb : Nat.beq i.size l.length with
          | false => rw [hb] at h; cases h
          | true =>
            rw [hb] at h
            simp only [cond_true, Option.some.injEq] at h
            subst h
            exact ⟨i, hi, Nat.eq_of_beq_eq_true hb⟩
        · cases h
    · cases h

/-- A part of an array or a struct. -/
theorem part_formed {P : Program} {m : Nat} {e : TypeId} {l : List Leaf} (hl : leaves P m e = some l) {xs : List Value} {off : Nat} (hx : fitL l ((xs.drop off).take l.length) = true) (w : World) :
    ∃ v, (part e xs.toArray off).run P w = .ok v w ∧ Formed P e v ((xs.drop off).take l.length) := by
  have hlen := fitL_len hx
  cases m with
  | zero => cases hl
  | succ m =>
    have hinf := leaves_info hl
    have plain : ∀ d, P.underlying e = some d → (∀ fs, d ≠ .struct fs) → (∀ n e, d ≠ .array n e) → l.length = 1 → ∃ v, (part e xs.toArray off).run P w = .ok v w ∧ Formed P e v ((xs.drop off).take l.length) := by
      intro d hd h1 h2 h3
      rw [h3] at hlen ⊢
      obtain ⟨v, hv⟩ := List.length_eq_one_iff.1 hlen
      have hg : xs[off]? = some v := by
        have := congrArg (fun q : List Value => q[0]?) hv
        simpa [List.getElem?_drop] using this
      refine ⟨v, ?_, .inr ⟨⟨d, hd, h1, h2⟩, hv⟩⟩
      have hg' : xs.toArray[off]? = some v := by simpa using hg
      simp only [part, Sem.run_bind, run_isAgg_false hd h1 h2, Result.andThen_ok, Bool.false_eq_true, if_false, hg', Sem.run_pure]
    have agg : ((∃ fs, P.underlying e = some (.struct fs)) ∨ ∃ n e', P.underlying e = some (.array n e')) → (∃ i, P.info? e = some i ∧ i.size = l.length) → ∃ v, (part e xs.toArray off).run P w = .ok v w ∧ Formed P e v ((xs.drop off).take l.length) := by
      intro hu ⟨i, hi, hs⟩
      refine ⟨.agg ((xs.drop off).take l.length).toArray, ?_, .inl ⟨hu, rfl⟩⟩
      simp only [part, Sem.run_bind, run_isAgg_true hu, Result.andThen_ok, if_true, run_size hi, Sem.run_pure, hs]
      congr 2
      apply Array.ext'
      simp
    unfold leaves at hl
    split at hl
    · rename_i i hu hi; obtain ⟨_, rfl⟩ := leaf_one hl; exact plain _ hu nofun nofun rfl
    · rename_i k i hu hi; obtain ⟨_, rfl⟩ := leaf_one hl; exact plain _ hu nofun nofun rfl
    · rename_i i hu hi; obtain ⟨_, rfl⟩ := leaf_one hl; exact plain _ hu nofun nofun rfl
    · rename_i n e' i hu hi; exact agg (.inr ⟨n, e', hu⟩) hinf
    · rename_i fs i hu hi; exact agg (.inl ⟨fs, hu⟩) hinf
    · cases hl

theorem eq_fields {P : Program} {d : Nat} (f : TypeId → Option (List Leaf)) (hf : ∀ e l, f e = some l → (∃ m, leaves P m e = some l) ∧ ∀ x y cs ds w, Formed P e x cs → Formed P e y ds → fitL l cs = true → fitL l ds = true → (Op.equalIn d e x y).run P w = .ok (cellsEq cs ds) w) (xs ys : List Value) (w : World) :
    ∀ (fs : List Field) (off : Nat) (ls : List Leaf), fieldLeaves P f off fs = some ls → fitL ls (xs.drop off) = true → fitL ls (ys.drop off) = true → (Op.eqFields d xs.toArray ys.toArray fs).run P w = .ok (cellsEq (xs.drop off) (ys.drop off)) w
  | [], off, ls, h, hx, hy => by
    simp only [fieldLeaves, Option.some.injEq] at h
    subst h
    have h1 := fitL_len hx
    have h2 := fitL_len hy
    simp only [List.length_nil] at h1 h2
    rw [List.length_eq_zero_iff.1 h1, List.length_eq_zero_iff.1 h2]
    rfl
  | fd :: r, off, ls, h, hx, hy => by
    unfold fieldLeaves at h
    cases hb : ((fd.name != "_") && Nat.beq fd.offset off) with
    | false => rw [hb] at h; cases h
    | true =>
      rw [hb] at h
      simp only [cond_true] at h
      simp only [Bool.and_eq_true, bne_iff_ne, ne_eq] at hb
      have hoff := Nat.eq_of_beq_eq_true hb.2
      split at h
      · rename_i l hl
        split at h
        · rename_i m hm
          simp only [Option.some.injEq] at h
          subst h
          obtain ⟨⟨mm, h1⟩, h2⟩ := hf _ _ hl
          obtain ⟨fx1, fx2⟩ := fitL_append hx
          obtain ⟨fy1, fy2⟩ := fitL_append hy
          rw [List.drop_drop] at fx2 fy2
          have ih := eq_fields f hf xs ys w r (off + l.length) m hm fx2 fy2
          obtain ⟨a, p1, q1⟩ := part_formed h1 fx1 w
          obtain ⟨b, p2, q2⟩ := part_formed h1 fy1 w
          have h3 := h2 a b _ _ w q1 q2 fx1 fy1
          have hlen : (xs.drop off).length = (ys.drop off).length := by rw [fitL_len hx, fitL_len hy]
          rw [cellsEq_take_drop l.length hlen, List.drop_drop, List.drop_drop]
          simp only [Op.eqFields, hb.1, ne_eq, not_false_eq_true, if_true, Sem.run_bind, hoff, p1, p2, h3, Result.andThen_ok]
          cases cellsEq ((xs.drop off).take l.length) ((ys.drop off).take l.length) with
          | false => simp
          | true => simpa using ih
        · cases h
      · cases h

theorem eq_items {P : Program} {d m : Nat} {e : TypeId} {l : List Leaf} (hl : leaves P m e = some l) (hf : ∀ x y cs ds w, Formed P e x cs → Formed P e y ds → fitL l cs = true → fitL l ds = true → (Op.equalIn d e x y).run P w = .ok (cellsEq cs ds) w) (xs ys : List Value) (w : World) :
    ∀ (k j : Nat), fitL (List.replicate k l).flatten (xs.drop (j * l.length)) = true → fitL (List.replicate k l).flatten (ys.drop (j * l.length)) = true →
      (Op.eqItems d e l.length xs.toArray ys.toArray (List.range' j k)).run P w = .ok (cellsEq (xs.drop (j * l.length)) (ys.drop (j * l.length))) w
  | 0, j, hx, hy => by
    have h1 := fitL_len hx
    have h2 := fitL_len hy
    simp only [List.replicate_zero, List.flatten_nil, List.length_nil] at h1 h2
    rw [List.length_eq_zero_iff.1 h1, List.length_eq_zero_iff.1 h2]
    rfl
  | k + 1, j, hx, hy => by
    rw [List.replicate_succ, List.flatten_cons] at hx hy
    obtain ⟨fx1, fx2⟩ := fitL_append hx
    obtain ⟨fy1, fy2⟩ := fitL_append hy
    rw [List.drop_drop, show j * l.length + l.length = (j + 1) * l.length by rw [Nat.add_mul, Nat.one_mul]] at fx2 fy2
    have ih := eq_items hl hf xs ys w k (j + 1) fx2 fy2
    obtain ⟨a, p1, q1⟩ := part_formed hl fx1 w
    obtain ⟨b, p2, q2⟩ := part_formed hl fy1 w
    have h3 := hf a b _ _ w q1 q2 fx1 fy1
    have hlen : (xs.drop (j * l.length)).length = (ys.drop (j * l.length)).length := by rw [fitL_len hx, fitL_len hy]
    rw [cellsEq_take_drop l.length hlen, List.drop_drop, List.drop_drop, show j * l.length + l.length = (j + 1) * l.length by rw [Nat.add_mul, Nat.one_mul], List.range'_succ]
    simp only [Op.eqItems, Sem.run_bind, p1, p2, h3, Result.andThen_ok]
    cases cellsEq ((xs.drop (j * l.length)).take l.length) ((ys.drop (j * l.length)).take l.length) with
    | false => simp
    | true => simpa using ih

theorem leaf_bool {P : Program} {t : TypeId} {x : Value} {cs : List Value} {d : TypeDesc} (hu : P.underlying t = some d) (h1 : ∀ fs, d ≠ .struct fs) (h2 : ∀ n e, d ≠ .array n e) (hf : Formed P t x cs) : cs = [x] := by
  rcases hf with ⟨h, _⟩ | ⟨_, h⟩
  · rcases h with ⟨fs, h⟩ | ⟨n, e, h⟩
    · exact absurd (Option.some.inj (hu.symm.trans h)) (h1 fs)
    · exact absurd (Option.some.inj (hu.symm.trans h)) (h2 n e)
  · exact h
theorem agg_formed {P : Program} {t : TypeId} {x : Value} {cs : List Value} (hu : (∃ fs, P.underlying t = some (.struct fs)) ∨ ∃ n e, P.underlying t = some (.array n e)) (hf : Formed P t x cs) : x = .agg cs.toArray := by
  rcases hf with ⟨_, h⟩ | ⟨⟨d, hd, h1, h2⟩, _⟩
  · exact h
  · rcases hu with ⟨fs, h⟩ | ⟨n, e, h⟩
    · exact absurd (Option.some.inj (hd.symm.trans h)) (h1 fs)
    · exact absurd (Option.some.inj (hd.symm.trans h)) (h2 n e)

theorem eq_leaves {P : Program} (k : Nat) : ∀ (m : Nat) (t : TypeId) (ls : List Leaf), leaves P m t = some ls → ∀ x y cs ds w, Formed P t x cs → Formed P t y ds → fitL ls cs = true → fitL ls ds = true → (Op.equalIn (k + m) t x y).run P w = .ok (cellsEq cs ds) w
  | 0, t, ls, h => by cases h
  | m + 1, t, ls, h => by
    intro x y cs ds w fx fy hx hy
    have ih := eq_leaves (P := P) k m
    unfold leaves at h
    split at h
    · rename_i i hu hi
      obtain ⟨_, rfl⟩ := leaf_one h
      obtain rfl := leaf_bool hu nofun nofun fx
      obtain rfl := leaf_bool hu nofun nofun fy
      cases x <;> simp only [fitL, Bool.false_eq_true] at hx
      cases y <;> simp only [fitL, Bool.false_eq_true] at hy
      simp [Op.equalIn, run_underlying hu, cellsEq, cellEq]
    · rename_i kd i hu hi
      obtain ⟨_, rfl⟩ := leaf_one h
      obtain rfl := leaf_bool hu nofun nofun fx
      obtain rfl := leaf_bool hu nofun nofun fy
      cases x <;> simp only [fitL, Bool.false_eq_true, Bool.and_eq_true, beq_iff_eq, and_true] at hx
      cases y <;> simp only [fitL, Bool.false_eq_true, Bool.and_eq_true, beq_iff_eq, and_true] at hy
      subst hx hy
      simp [Op.equalIn, run_underlying hu, cellsEq, cellEq]
    · rename_i i hu hi
      obtain ⟨_, rfl⟩ := leaf_one h
      obtain rfl := leaf_bool hu nofun nofun fx
      obtain rfl := leaf_bool hu nofun nofun fy
      cases x <;> simp only [fitL, Bool.false_eq_true] at hx
      cases y <;> simp only [fitL, Bool.false_eq_true] at hy
      simp [Op.equalIn, run_underlying hu, cellsEq, cellEq]
    · rename_i n e i hu hi
      split at h
      · rename_i l hl
        cases hb : Nat.beq i.size (n * l.length) with
        | false => rw [hb] at h; cases h
        | true =>
          rw [hb] at h
          simp only [cond_true, Option.some.injEq] at h
          subst h
          obtain rfl := agg_formed (.inr ⟨n, e, hu⟩) fx
          obtain rfl := agg_formed (.inr ⟨n, e, hu⟩) fy
          obtain ⟨ie, hie, hsz⟩ := leaves_info hl
          have hce : P.cellsOf e = l.length := by simp [Program.cellsOf, hie, hsz]
          rw [show k + (m + 1) = (k + m) + 1 from rfl, run_equalIn_array w (k + m) _ _ hu hie, hce, List.range_eq_range']
          have := eq_items (d := k + m) hl (ih e l hl) cs ds w n 0 (by simpa using hx) (by simpa using hy)
          simpa using this
      · cases h
    · rename_i fs i hu hi
      cases hs : P.stoodInHeld t with
      | true => rw [hs] at h; cases h
      | false =>
        rw [hs] at h
        simp only [cond_false] at h
        split at h
        · rename_i l hl
          cases hb : Nat.beq i.size l.length with
          | false => rw [hb] at h; cases h
          | true =>
            rw [hb] at h
            simp only [cond_true, Option.some.injEq] at h
            subst h
            obtain rfl := agg_formed (.inl ⟨fs, hu⟩) fx
            obtain rfl := agg_formed (.inl ⟨fs, hu⟩) fy
            have hfs : P.fieldsOf t = fs := by simp [Program.fieldsOf, hu]
            rw [show k + (m + 1) = (k + m) + 1 from rfl, run_equalIn_struct w (k + m) t _ _ (by rw [hfs]; exact hu) hs, hfs]
            have := eq_fields (d := k + m) (leaves P m) (fun e l hl => ⟨⟨m, hl⟩, ih e l hl⟩) cs ds w fs.toList 0 l hl (by simpa using hx) (by simpa using hy)
            simpa using this
        · cases h
    · cases h

theorem eqRun_of {P : Program} {m : Nat} {t : TypeId} {ls : List Leaf} (hl : leaves P m t = some ls) (hm : m ≤ 10000) (hu : (∃ fs, P.underlying t = some (.struct fs)) ∨ ∃ n e, P.underlying t = some (.array n e)) (hg : P.eqGuardType P.depth t = false) {xs ys : Array Value} (hx : fitL ls xs.toList = true) (hy : fitL ls ys.toList = true) :
    EqRun P t (.agg xs) (.agg ys) (cellsEq xs.toList ys.toList) := by
  refine ⟨fun w => ?_, hg⟩
  have := eq_leaves (P := P) (10000 - m) m t ls hl (.agg xs) (.agg ys) xs.toList ys.toList w (.inl ⟨hu, by simp⟩) (.inl ⟨hu, by simp⟩) hx hy
  rwa [show 10000 - m + m = 10000 by omega] at this
end Go.Proofs.Ytlaapbenpjopiaa.Sx

