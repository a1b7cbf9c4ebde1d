/- The reference ledger: put. No conditions. -/
import Derived.Test.YtkibbcomfjhgpaaDoorK1e2
namespace Go.Proofs.YtkibbcomfjhgpaaDoor
open Go.RowKit Sx
set_option maxRecDepth 100000

/-! 'append' where an element has up to 64 bytes (as the writer's own lemma, whose bound is 32). -/
section
variable {P : Program}
theorem append_buf64 {t tx ty e : TypeId} {i : TypeInfo} {z : Value} (ht : P.underlying t = some (.slice e)) (hi : P.info? e = some i) (hz : i.zero = some z) (hzs : z.cells.size = i.size) (hz0 : i.size ≠ 0) (hby : i.bytes ≤ 64)
    {m : Nat} {w : World} {c xs : List Value} {y yv : Value} {n : Nat} (hb : BufOk m w e c i.size y) (hs : Src P i.size tx yv n xs w) (hlen : c.length + xs.length ≤ 1099511627776) :
    ∃ y' w' m', (Builtin.append_ #[t, tx] ty #[y, yv]).run P w = .ok y' w' ∧ BufOk m' w' e (c ++ xs) i.size y' ∧ w.heap.size ≤ w'.heap.size ∧ (∀ j, j < w.heap.size → j + 1 ≠ m → w'.heap[j]? = w.heap[j]?) ∧
      (m' ≠ 0 → m' = m ∨ (w.heap.size < m' ∧ m' ≤ w'.heap.size)) ∧ w'.os = w.os ∧ w'.tape = w.tape ∧ w'.output = w.output := by
  have hpos : 0 < i.size := by omega
  have hxl := hs.newsLen
  have hn : n ≤ xs.length := by rw [hxl]; exact Nat.le_mul_of_pos_right _ hpos
  have grow : ∀ (base : Option Addr) (sLen sCap : Nat), y = .slice base sLen sCap → c.length = sLen * i.size → (Builtin.firstCells i.size sLen (.slice base sLen sCap)).run P w.drew = .ok c.toArray w.drew → sCap < sLen + n →
      ∃ y' w' m', (Builtin.append_ #[t, tx] ty #[y, yv]).run P w = .ok y' w' ∧ BufOk m' w' e (c ++ xs) i.size y' ∧ w.heap.size ≤ w'.heap.size ∧ (∀ j, j < w.heap.size → j + 1 ≠ m → w'.heap[j]? = w.heap[j]?) ∧
      (m' ≠ 0 → m' = m ∨ (w.heap.size < m' ∧ m' ≤ w'.heap.size)) ∧ w'.os = w.os ∧ w'.tape = w.tape ∧ w'.output = w.output := by
    intro base sLen sCap hy hcl hold hg
    have hsl : sLen ≤ c.length := by rw [hcl]; exact Nat.le_mul_of_pos_right _ hpos
    have h63 : ((sLen + n : Nat) : Int) ≤ 9223372036854775807 := by omega
    have hfit : Builtin.nextslicecap (sLen + n) sCap * i.bytes ≤ 281474976710656 := by
      have h1 := nextslicecap_le hg
      have h2 : Builtin.nextslicecap (sLen + n) sCap * i.bytes ≤ 2 * (sLen + n) * 64 := Nat.mul_le_mul h1 hby
      omega
    have hrun := run_append_grow_src w t tx ty e i z ht hi hz base sLen sCap c hold yv n xs hs hg h63 hfit
    have hge := grownCap_ge w (sLen + n) sCap e
    rw [hy]
    refine ⟨_, _, w.heap.size + 1, hrun, .inr ⟨by omega, (Builtin.zeroCells z.cells (grownCap w (sLen + n) sCap e - (sLen + n))).toList, _, _, ?_, rfl, ?_, ?_⟩, ?_, ?_, ?_, rfl, rfl, rfl⟩
    · have := heap_alloc_new w.drew (.cells ((c ++ xs).toArray ++ Builtin.zeroCells z.cells (grownCap w (sLen + n) sCap e - (sLen + n))) e)
      simp only [Nat.add_sub_cancel]
      refine this.trans ?_
      congr 2
      apply Array.ext'
      simp
    · simp only [List.length_append, hcl, hxl, Nat.add_mul]
    · simp only [List.length_append, hcl, hxl]
      have e2 : (Builtin.zeroCells z.cells (grownCap w (sLen + n) sCap e - (sLen + n))).toList.length = (grownCap w (sLen + n) sCap e - (sLen + n)) * i.size := by
        simp [Builtin.zeroCells, hzs]
      rw [e2, ← Nat.add_mul, ← Nat.add_mul]
      congr 1
      omega
    · simp
    · intro j hj _
      exact ((Below.refl w.drew.heap.size w.drew).alloc (Nat.le_refl _) _).block j hj
    · intro _; right; simp
  rcases hb with ⟨rfl, o, rfl⟩ | ⟨hm0, sp, len, cap, hg, rfl, hcl, hcap⟩
  · by_cases h0 : n = 0
    · subst h0
      have hx0 : xs = [] := List.length_eq_zero_iff.1 (by rw [hxl]; simp)
      subst hx0
      refine ⟨.slice o 0 0, w, 0, ?_, .inl ⟨rfl, o, rfl⟩, Nat.le_refl _, fun _ _ _ => rfl, fun h => absurd rfl h, rfl, rfl, rfl⟩
      have hc := hs.cells
      rcases hs.kind with ⟨e', hk⟩ | hk <;> cases o <;> simp [Builtin.append_, run_underlying ht, run_underlying hk, sizeOf, typeInfo, hi, hs.len, hc, storeCells]
    · refine grow o 0 0 rfl (by simp) ?_ (by omega)
      cases o with
      | none => exact run_firstCells_none w.drew i.size 0 0 0
      | some a0 => exact run_firstCells_some w.drew i.size 0 a0 0 0 [] (by simp) (fun j v h => by simp at h)
  · by_cases hr : len + n ≤ cap
    · have hb1 : len * i.size + xs.length ≤ (c ++ sp).length := by
        rw [hxl, List.length_append, hcap, ← Nat.add_mul]; exact Nat.mul_le_mul_right _ hr
      have hst := run_storeCells_at P (m - 1) (len * i.size) e xs 0 (c ++ sp).toArray w hg (by simpa using hb1) hs.one
      simp only [Nat.add_zero] at hst
      have htk : (c ++ sp).take (len * i.size) = c := by rw [← hcl]; simp
      have hdr : (c ++ sp).drop (len * i.size + xs.length) = sp.drop xs.length := by rw [← hcl]; simp
      rw [htk, hdr] at hst
      have hlen2 : xs.length ≤ sp.length := by rw [← hcl, List.length_append] at hb1; omega
      refine ⟨.slice (some ⟨m - 1, 0, none⟩) (len + n) cap, w.setRow (m - 1) (c ++ xs ++ sp.drop xs.length).toArray, m, ?_, .inr ⟨hm0, sp.drop xs.length, len + n, cap, setRow_heap w (m - 1) _ _ e (0, 0) hg, rfl, ?_, ?_⟩, ?_, ?_, fun _ => .inl rfl, rfl, rfl, rfl⟩
      · rcases hs.kind with ⟨e', hk⟩ | hk <;> simp [Builtin.append_, run_underlying ht, run_underlying hk, sizeOf, typeInfo, hi, hs.len, hr, hs.cells, Addr.add_lit, hst]
      · simp only [List.length_append, hcl, hxl, Nat.add_mul]
      · simp only [List.length_append, List.length_drop]; omega
      · rw [setRow_size]; exact Nat.le_refl _
      · intro j _ hj; exact setRow_other w (m - 1) j _ (by omega)
    · refine grow _ len cap rfl hcl ?_ (by omega)
      refine run_firstCells_some w.drew i.size len _ len cap c hcl fun j v hj => ?_
      have hjl : j < c.length := (List.getElem?_eq_some_iff.1 hj).1
      have hg' : w.drew.heap[m - 1]? = some (.cells (c ++ sp).toArray e) := hg
      rw [add_none]
      simp [World.cell?, hg', List.getElem?_append, hjl]
      exact (List.getElem?_eq_some_iff.1 hj).2
variable {ρ : Operand → Value} {dst : Option Tmp} {type : TypeId} {pos : String} {after : Array Edge} {guard : Option (Nat × Bool)}
theorem app_thing64 {t tx e : TypeId} {i : TypeInfo} {z : Value} {A F0 : Facts} {c xs : List Value} {x : FrX c} {n : Nat} {yv : Value} {G : FrX (c ++ xs) → Facts} {X Y : Operand} (ht : P.underlying t = some (.slice e)) (hi : P.info? e = some i) (hz : i.zero = some z) (hzs : z.cells.size = i.size) (hz0 : i.size ≠ 0) (hby : i.bytes ≤ 64)
    (hx : ρ X = .slice (frO x) (lenB c i.size) (frC i.size x)) (hy : ρ Y = yv) (hc : c.length = lenB c i.size * i.size) (hsp : FrOk i.size x)
    (hs : ∀ w, Sx.Holds w A → Src P i.size tx yv n xs w) (hlen : c.length + xs.length ≤ 1099511627776) (h0 : ∀ q ∈ frL e x, q ∈ F0) (h1 : ∀ y, ∀ q ∈ G y, q ∈ frL e y ∨ (q ∈ F0 ∧ ∀ q' ∈ frL e x, q'.1 ≠ q.1)) :
    GivesT P (execOp ρ ⟨dst, .call ⟨.builtin .append, #[X, Y], #[t, tx]⟩, type, pos, after, guard⟩) A (fun F => F = F0) (FrX (c ++ xs)) (fun y => .slice (frO y) (lenB (c ++ xs) i.size) (frC i.size y)) (fun _ => [])
      (fun y F => F = G y ∧ FrOk i.size y ∧ ∀ q ∈ frL e y, ∀ q' ∈ F0, (∀ q2 ∈ frL e x, q2.1 ≠ q'.1) → q'.1 ≠ q.1) := by
  intro w F hT hA hF hap
  subst hT
  have hpos : 0 < i.size := by omega
  obtain ⟨m, hb, hm0⟩ : ∃ m, BufOk m w e c i.size (.slice (frO x) (lenB c i.size) (frC i.size x)) ∧ (m ≠ 0 → ∃ q ∈ frL e x, m = q.1 + 1) := by
    cases x with
    | inl q => exact ⟨0, .inl ⟨q.1.down, q.2, by simp only [frO, frC, q.1.down]; rw [lenB_of (n := 0) hz0 (by simp)]⟩, fun h => absurd rfl h⟩
    | inr q =>
      refine ⟨q.1 + 1, .inr ⟨by omega, q.2, lenB c i.size, frC i.size (.inr q : FrX c), ?_, rfl, hc, (Nat.div_mul_cancel (Nat.dvd_of_mod_eq_zero hsp)).symm⟩, fun _ => ⟨_, List.mem_singleton.2 rfl, rfl⟩⟩
      exact hF _ (h0 _ (List.mem_singleton.2 rfl))
  obtain ⟨y', w', m', g1, g2, g3, g4, g5, g6, g7, g8⟩ := append_buf64 (ty := type) ht hi hz hzs hz0 hby hb (hs w hA) hlen
  have hrun : (execOp ρ ⟨dst, .call ⟨.builtin .append, #[X, Y], #[t, tx]⟩, type, pos, after, guard⟩).run P w = .ok (.value y') w' := by
    simp [execOp, resolve, invoke, builtin, hx, hy, g1]
  unfold OpRunT
  rw [hrun]
  simp only
  have other : ∀ q ∈ F, (∀ q2 ∈ frL e x, q2.1 ≠ q.1) → w'.heap[q.1]? = some q.2 := fun q hq hne => by
    rw [g4 q.1 (lt_of_some (hF q hq)) fun e' => ?_]
    · exact hF q hq
    · obtain ⟨q2, h2, h3⟩ := hm0 (by omega)
      exact hne q2 h2 (by omega)
  obtain ⟨y, hy', hyL, hyk, hok⟩ : ∃ y : FrX (c ++ xs), y' = .slice (frO y) (lenB (c ++ xs) i.size) (frC i.size y) ∧ Sx.Holds w' (frL e y) ∧ (∀ q ∈ frL e y, m' ≠ 0 ∧ q.1 + 1 = m') ∧ FrOk i.size y := by
    rcases g2 with ⟨q1, o', q2⟩ | ⟨q0, sp, n', cap, q1, q2, q3, q4⟩
    · exact ⟨.inl ⟨⟨q1⟩, o'⟩, by rw [q2]; simp only [frO, frC, q1]; rw [lenB_of (n := 0) hz0 (by simp)], fun _ h => (by cases h), fun _ h => (by cases h), trivial⟩
    · refine ⟨.inr (m' - 1, sp), ?_, fun q hq => ?_, fun q hq => ?_, by show ((c ++ xs).length + sp.length) % i.size = 0; rw [q4, Nat.mul_mod_left]⟩
      · rw [q2, lenB_of hz0 q3]
        simp only [frO, frC, q4]
        rw [Nat.mul_div_cancel _ hpos]
      · simp only [frL, List.mem_singleton] at hq; subst hq; exact q1
      · simp only [frL, List.mem_singleton] at hq; subst hq; exact ⟨q0, by simp only; omega⟩
  refine ⟨y, G y, hy', ⟨rfl, hok, fun q hq q' hq' hne => ?_⟩, fun _ h => (by cases h), fun q hq => ?_, fun _ h => (by cases h), fun _ h => (by cases h), fun q hq => ?_, ⟨g6, g7, g8, g3, fun k hk hq => ?_⟩⟩
  · obtain ⟨k0, k1⟩ := hyk q hq
    rcases g5 k0 with h | ⟨h, _⟩
    · obtain ⟨q2, h2, h3⟩ := hm0 (by omega)
      have := hne q2 h2; omega
    · have := lt_of_some (hF q' hq'); omega
  · rcases h1 y q hq with h | ⟨h, hne⟩
    · exact hyL q h
    · exact other q h hne
  · rcases h1 y q hq with h | ⟨h, hne⟩
    · obtain ⟨k0, k1⟩ := hyk q h
      rcases g5 k0 with h2 | ⟨h2, _⟩
      · obtain ⟨q2, h3, h4⟩ := hm0 (by omega)
        exact .inr ⟨q2, h0 q2 h3, by omega⟩
      · exact .inl (by omega)
    · exact .inr ⟨q, h, rfl⟩
  · refine g4 k hk fun e' => ?_
    obtain ⟨q2, h3, h4⟩ := hm0 (by omega)
    exact hq q2 (h0 q2 h3) (by omega)

end

/-! Rows of accounts. -/
theorem info_A6 : ∃ i z, Tryd.prog.info? 58 = some i ∧ i.size = 6 ∧ i.bytes = 48 ∧ i.zero = some z ∧ z.cells.size = 6 := by
  have h1 : (Tryd.prog.info? 58).map (fun i => (i.size, i.bytes, i.zero.map (fun z => z.cells.size))) = some (6, 48, some 6) := by kernel_rfl
  cases h : Tryd.prog.info? 58 with
  | none => rw [h] at h1; cases h1
  | some i =>
    rw [h] at h1
    simp only [Option.map_some, Option.some.injEq, Prod.mk.injEq] at h1
    cases hz : i.zero with
    | none => rw [hz] at h1; simp at h1
    | some z => rw [hz] at h1; simp at h1; exact ⟨i, z, rfl, h1.1, h1.2.1, hz, h1.2.2⟩
theorem info_sl : ∃ i, Tryd.prog.info? 40 = some i ∧ i.size = 1 := by
  have h1 : (Tryd.prog.info? 40).map (fun i => i.size) = some 1 := by kernel_rfl
  cases h : Tryd.prog.info? 40 with
  | none => rw [h] at h1; cases h1
  | some i => rw [h] at h1; simp at h1; exact ⟨i, rfl, h1⟩
theorem acws_1 (z : Ac) : acws [z] = acw z := by simp [acws]
theorem acws_snoc (l : List Ac) (z : Ac) : acws l ++ acw z = acws (l ++ [z]) := by rw [acws_app, acws_1]
theorem acws_nil {l : List Ac} (h : acws l = []) : l = [] := by
  have := acws_len l
  rw [h] at this
  exact List.length_eq_zero_iff.1 (by simp at this; omega)
theorem acws_set (z : Ac) (sp : List Value) : ∀ (l : List Ac) (i : Nat), i < l.length → setRange (acws l ++ sp) (i * 6) (acw z) = acws (l.set i z) ++ sp := by
  intro l
  induction l with
  | nil => exact fun i h => absurd h (Nat.not_lt_zero i)
  | cons x r ih =>
    intro i h
    cases i with
    | zero => rw [List.set_cons_zero, acws_cons, acws_cons]; rfl
    | succ i =>
      rw [List.set_cons_succ, acws_cons, acws_cons, List.append_assoc, List.append_assoc, ← ih i (by simpa using h), show (i + 1) * 6 = i * 6 + 6 by omega]
      unfold setRange
      rfl
theorem acws_one (l : List Ac) : ∀ v ∈ acws l, v.oneCell' = true := by
  intro v hv
  obtain ⟨x, _, hx⟩ := List.mem_flatMap.1 hv
  exact acw_one x v hx
theorem a_src (m : Nat) (z : Ac) {A : Facts} (hA : Sub [(m, Obj.cells (acw z).toArray 58)] A) : ∀ w, Sx.Holds w A → Src Tryd.prog 6 40 (.slice (some ⟨m, 0, none⟩) 1 1) 1 (acw z) w := by
  intro w hw
  refine Src.ofSlice w Tryd.underlying40 ⟨m, 0, none⟩ 1 1 _ rfl (fun j u hj => ?_) (acw_one z)
  have h1 := hA.holds hw _ (List.mem_singleton.2 rfl)
  simp only at h1
  rw [add_none, Nat.zero_add]
  simp only [World.cell?, h1]
  simpa using hj
theorem putR_at {z : Ac} : ∀ {l : List Ac} {i : Nat}, i < l.length → (l.getD i default).a = z.a → (∀ j, j < i → (l.getD j default).a ≠ z.a) → putR l z = l.set i z := by
  intro l
  induction l with
  | nil => exact fun h _ _ => absurd h (Nat.not_lt_zero _)
  | cons x r ih =>
    intro i h1 h2 h3
    cases i with
    | zero =>
      have h4 : x.a = z.a := h2
      rw [putR, if_pos h4]; rfl
    | succ i =>
      have e : ¬ x.a = z.a := h3 0 (Nat.zero_lt_succ _)
      rw [putR, if_neg e, ih (by simpa using h1) h2 (fun j hj => h3 (j + 1) (Nat.succ_lt_succ hj))]
      rfl
theorem putR_new {z : Ac} : ∀ {l : List Ac}, (∀ j, j < l.length → (l.getD j default).a ≠ z.a) → putR l z = l ++ [z] := by
  intro l
  induction l with
  | nil => exact fun _ => rfl
  | cons x r ih =>
    intro h
    have e : ¬ x.a = z.a := h 0 (Nat.zero_lt_succ _)
    rw [putR, if_neg e, ih (fun j hj => h (j + 1) (Nat.succ_lt_succ hj))]
    rfl
section
variable {ρ : Operand → Value} {dst : Option Tmp} {type : TypeId} {pos : String} {after : Array Edge} {guard : Option (Nat × Bool)} {p : Nat} {l : List Ac} {x : FrX (acws l)} {v : Nat → Nat} {A : Facts} {X Y : Operand}
theorem build_a (z : Ac) (A : Facts) {x : Operand} (hx : ρ x = AV z := by rfl) : GivesOp Tryd.prog (execOp ρ ⟨dst, .buildSlice 40 1 #[(0, x)], type, pos, after, guard⟩) A Nat (fun m => .slice (some ⟨m, 0, none⟩) 1 1) (fun m => [(m, .cells (acw z).toArray 58)]) := by
  obtain ⟨i, zz, hi, hs, _, hz, hzs⟩ := info_A6
  refine gives_alloc (F := []) id (.cells (acw z).toArray 58) (fun w => ?_) (fun k => rfl) (fun _ h => by cases h)
  have hf : Instr.fill (fun j => some (j * 6, 6)) ((Array.range (1 * 6)).map (zz.cells[· % zz.cells.size]!)) [(0, AV z)] = some (acw z).toArray := by
    have hsz : ((Array.range (1 * 6)).map (zz.cells[· % zz.cells.size]!)).size = 6 := by simp
    refine fill_sound (fun j => some (j * 6, 6)) [(0, AV z)] ((Array.range (1 * 6)).map (zz.cells[· % zz.cells.size]!)).toList (acw z) ?_
    unfold fillL fillL
    simp only
    have e1 : Nat.beq (AV z).cells.toList.length 6 = true := rfl
    have e2 : Nat.ble (0 * 6 + 6) ((Array.range (1 * 6)).map (zz.cells[· % zz.cells.size]!)).toList.length = true := by rw [Array.length_toList, hsz]; rfl
    rw [e1, e2]
    simp only [Bool.and_self, cond_true, Option.some.injEq]
    have e3 : (AV z).cells.toList = acw z := rfl
    rw [e3]
    unfold setRange
    rw [Nat.zero_mul, List.take_zero, List.nil_append, show (acw z).length = 6 from rfl, List.drop_of_length_le (by rw [Array.length_toList, hsz]; decide), List.append_nil]
  have hb := run_buildSlice w 40 58 1 #[(0, AV z)] (acw z).toArray i zz Tryd.underlying40 hi hz (by rw [hs]; decide) (by rw [hs]; decide) (by rw [hs]; exact hf)
  simp [execOp, hx, hb]
theorem rC_set (z : Ac) (i b : Nat) (sp : List Value) : rC (l.set i z) (.inr (b, sp)) v = rC l (.inr (b, sp)) v := by
  have e : (acws (l.set i z)).length = (acws l).length := by rw [acws_len, acws_len, List.length_set]
  simp only [rC, frO, frC, lenB_a, List.length_set, e]
/-- Another account at place i. -/
theorem rr_set {z : Ac} {j : Int} (i : Nat) (e : j = i) (hi : i < l.length) (hok : FrOk 6 x) (hne : ∀ q ∈ frL 58 x, q.1 ≠ p) (hx : ρ X = .pointer (some (((frO x).getD ⟨0, 0, none⟩).add (j.toNat * 6))) := by rfl) (hy : ρ Y = AV z := by rfl) :
    GivesT Tryd.prog (execOp ρ ⟨dst, .store 58 X Y, type, pos, after, guard⟩) A (fun G => G = rF p l x v) Unit (fun _ => undef) (fun _ => []) (fun _ => rlg p ⟨l.set i z, v⟩) := by
  cases x with
  | inl q => have := acws_nil q.1.down; subst this; cases hi
  | inr q =>
    obtain ⟨b, sp⟩ := q
    obtain ⟨inf, _, hinf, hs, _, _, _⟩ := info_A6
    subst e
    have hb : b ≠ p := hne _ (List.mem_singleton.2 rfl)
    have h := store_thing (P := Tryd.prog) (ρ := ρ) (dst := dst) (type := type) (pos := pos) (after := after) (guard := guard) (A := A) (X := X) (Y := Y) (m := b) (off := i * 6) (c := acws l ++ sp) (vs := acw z) (yv := AV z) (e := 58) (F0 := rF p l (.inr (b, sp)) v) (G := rF p (l.set i z) (.inr (b, sp)) v) hinf (by
        rw [hx, Int.toNat_natCast]
        show Value.pointer (some (Addr.add ⟨b, 0, none⟩ (i * 6))) = _
        rw [add_none, Nat.zero_add]) hy rfl (by rw [hs]; rfl) (acw_one z) (by rw [hs, List.length_append, acws_len]; omega) (List.mem_cons_of_mem _ (List.mem_singleton.2 rfl)) (fun q hq => by
        rcases List.mem_cons.1 hq with rfl | hq
        · right
          rw [rC_set]
          exact ⟨List.mem_cons_self, fun e => hb e.symm⟩
        · left
          rw [List.mem_singleton.1 hq, acws_set z sp l i hi])
    refine gT_mono h fun _ F e => ⟨.inr (b, sp), ?_, ?_, e⟩
    · show ((acws (l.set i z)).length + sp.length) % 6 = 0
      rw [acws_len, List.length_set, ← acws_len]
      exact hok
    · intro q hq
      obtain rfl := List.mem_singleton.1 hq
      exact hb
/-- The struct still has the old header, the row is longer. -/
def midR (p : Nat) (l : List Ac) (x : FrX (acws l)) (v : Nat → Nat) (z : Ac) (y : FrX (acws l ++ acw z)) : TP := fun F => F = (p, .cells (rC l x v).toArray 55) :: frL 58 y ∧ FrOk 6 y ∧ ∀ q ∈ frL 58 y, q.1 ≠ p
theorem rr_app {z : Ac} {m : Nat} (hA : Sub [(m, Obj.cells (acw z).toArray 58)] A) (hl : l.length ≤ 1000000) (hok : FrOk 6 x) (hne : ∀ q ∈ frL 58 x, q.1 ≠ p) (hx : ρ X = .slice (frO x) (lenB (acws l) 6) (frC 6 x) := by rfl) (hy : ρ Y = .slice (some ⟨m, 0, none⟩) 1 1 := by rfl) :
    GivesT Tryd.prog (execOp ρ ⟨dst, .call ⟨.builtin .append, #[X, Y], #[40, 40]⟩, type, pos, after, guard⟩) A (fun G => G = rF p l x v) (FrX (acws l ++ acw z)) (fun y => .slice (frO y) (lenB (acws l ++ acw z) 6) (frC 6 y)) (fun _ => []) (fun y => midR p l x v z y) := by
  obtain ⟨i, zz, hi, hs, hby, hz, hzs⟩ := info_A6
  have h := app_thing64 (P := Tryd.prog) (ρ := ρ) (dst := dst) (type := type) (pos := pos) (after := after) (guard := guard) (A := A) (F0 := rF p l x v) (x := x) (n := 1) (G := fun y => (p, .cells (rC l x v).toArray 55) :: frL 58 y) (xs := acw z) (X := X) (Y := Y)
    Tryd.underlying40 hi hz (by rw [hzs, hs]) (by omega) (by omega) (by rw [hs]; exact hx) hy (by rw [hs, lenB_a, acws_len]) (by rw [hs]; exact hok) (by rw [hs]; exact a_src m z hA) (by rw [acws_len]; simp; omega) (fun q hq => List.mem_cons_of_mem _ hq) (fun y q hq => by
      rcases List.mem_cons.1 hq with rfl | hq
      · exact .inr ⟨List.mem_cons_self, fun q' hq' => hne q' hq'⟩
      · exact .inl hq)
  rw [hs] at h
  refine gT_mono h fun y F e => ⟨e.1, e.2.1, fun q hq => ?_⟩
  exact fun e' => e.2.2 q hq _ List.mem_cons_self (fun q2 h2 => hne q2 h2) e'.symm
theorem rr_sth {z : Ac} {y : FrX (acws l ++ acw z)} (hx : ρ X = .pointer (some ⟨p, 0, none⟩) := by rfl) (hy : ρ Y = .slice (frO y) (lenB (acws l ++ acw z) 6) (frC 6 y) := by rfl) :
    GivesT Tryd.prog (execOp ρ ⟨dst, .store 40 X Y, type, pos, after, guard⟩) A (midR p l x v z y) Unit (fun _ => undef) (fun _ => []) (fun _ => rlg p ⟨l ++ [z], v⟩) := by
  refine gT_of fun F0 hT => ?_
  obtain ⟨rfl, hok, hne⟩ := hT
  obtain ⟨inf, hinf, hs⟩ := info_sl
  generalize hc : acws l ++ acw z = c at y
  have hcc : c = acws (l ++ [z]) := by rw [← hc, acws_snoc]
  subst hcc
  have h := store_thing (P := Tryd.prog) (ρ := ρ) (dst := dst) (type := type) (pos := pos) (after := after) (guard := guard) (A := A) (X := X) (Y := Y) (m := p) (off := 0) (c := rC l x v) (vs := [.slice (frO y) (lenB (acws (l ++ [z])) 6) (frC 6 y)]) (yv := .slice (frO y) (lenB (acws (l ++ [z])) 6) (frC 6 y)) (e := 55) (F0 := (p, .cells (rC l x v).toArray 55) :: frL 58 y) (G := rF p (l ++ [z]) y v)
    hinf hx hy rfl (by rw [hs]; rfl) (fun u hu => by obtain rfl := List.mem_singleton.1 hu; rfl) (by rw [hs]; exact Nat.le_add_left 1 16) List.mem_cons_self (fun q hq => by
      rcases List.mem_cons.1 hq with rfl | hq
      · left; rfl
      · exact .inr ⟨List.mem_cons_of_mem _ hq, hne q hq⟩)
  exact gT_mono h fun _ F e => ⟨y, hok, hne, e⟩
end
theorem good_pontageref11_Ledger_put : Good Tryd.prog 63 Tryd.f63 2 := ⟨Tryd.func63, by kernel_rfl, by kernel_rfl⟩
theorem r_put_y (p : Nat) (l : List Ac) (x : FrX (acws l)) (v : Nat → Nat) (hl : l.length ≤ 1000000) (hok : FrOk 6 x) (hne : ∀ q ∈ frL 58 x, q.1 ≠ p) (z : Ac) (i : Nat) (hi : i < l.length) (ha : (l.getD i default).a = z.a) (hno : ∀ j, j < i → (l.getD j default).a ≠ z.a) (A : Facts) : CallT Tryd.prog 63 [.pointer (some ⟨p, 0, none⟩), AV z] A (fun G => G = rF p l x v) (Unit) (fun _ => .tuple #[]) (fun _ => []) (fun _ => rlg p ⟨putR l z, v⟩) :=
  givesT_of_vcF Tryd.mixed good_pontageref11_Ledger_put (args := [(.pointer (some ⟨p, 0, none⟩), []), (AV z, [])]) (B := A) (O := [.reg [(3, .rdT 0 Unit () (fun _ => .int .i64 ((i : Nat) : Int)) (fun _ => []))], .yes, .opt 3 [(3, .rdT 0 Unit () (fun _ => .slice (frO x) (lenB (acws l) 6) (frC 6 x)) (fun _ => [])), (7, .thg 0 Unit () (fun _ => undef) (fun _ => []) (fun _ => rlg p ⟨l.set i z, v⟩))]]) (.app ((.refl _)) (.app (.nil _) (.app (.nil _) (.nil _)))) (⟨fun _ g => by subst g; exact callR_op (r_at_y p l x v hl z.a i hi ha hno _) rfl rfl, fun _ => ⟨ge_0 i, ⟨fun _ g => by subst g; exact rr_lda, fun _ => ⟨rr_idx (Int.natCast_nonneg _) (rl_i hi), ⟨rr_set i rfl hi hok hne, fun _ => ⟨(), rfl, nofun, fun _ g => by rw [putR_at hi ha hno]; exact g, trivial⟩⟩⟩⟩⟩⟩)
theorem r_put_n (p : Nat) (l : List Ac) (x : FrX (acws l)) (v : Nat → Nat) (hl : l.length ≤ 1000000) (hok : FrOk 6 x) (hne : ∀ q ∈ frL 58 x, q.1 ≠ p) (z : Ac) (hno : ∀ j, j < l.length → (l.getD j default).a ≠ z.a) (A : Facts) : CallT Tryd.prog 63 [.pointer (some ⟨p, 0, none⟩), AV z] A (fun G => G = rF p l x v) (Unit) (fun _ => .tuple #[]) (fun _ => []) (fun _ => rlg p ⟨putR l z, v⟩) :=
  givesT_of_vcF Tryd.mixed good_pontageref11_Ledger_put (args := [(.pointer (some ⟨p, 0, none⟩), []), (AV z, [])]) (B := A) (O := [.reg [(3, .rdT 0 Unit () (fun _ => .int .i64 (-1)) (fun _ => []))], .no, .opt 4 [(4, .rdT 0 Unit () (fun _ => .slice (frO x) (lenB (acws l) 6) (frC 6 x)) (fun _ => [])), (6, .call Nat 0 (fun m => .slice (some ⟨m, 0, none⟩) 1 1) (fun m => [(m, .cells (acw z).toArray 58)])), (7, .thg 0 (FrX (acws l ++ acw z)) (.inr (0, [])) (fun y => .slice (frO y) (lenB (acws l ++ acw z) 6) (frC 6 y)) (fun _ => []) (fun y => midR p l x v z y)), (10, .thg 0 Unit () (fun _ => undef) (fun _ => []) (fun _ => rlg p ⟨l ++ [z], v⟩))]]) (.app ((.refl _)) (.app (.nil _) (.app (.nil _) (.nil _)))) (⟨fun _ g => by subst g; exact callR_op (r_at_n p l x v hl z.a hno _) rfl rfl, fun _ => ⟨rfl, ⟨fun _ g => by subst g; exact rr_lda, fun _ => ⟨build_a z _, fun m => ⟨rr_app (m := m) (by intro q h; simp at h; simp [h]) hl hok hne, fun y => ⟨rr_sth, fun _ => ⟨(), rfl, nofun, fun _ g => by rw [putR_new hno]; exact g, trivial⟩⟩⟩⟩⟩⟩⟩)
theorem r_put (p : Nat) (R : Ref) (hl : R.acc.length ≤ 1000000) (z : Ac) (A : Facts) : CallT Tryd.prog 63 [.pointer (some ⟨p, 0, none⟩), AV z] A (rlg p R) Unit (fun _ => .tuple #[]) (fun _ => []) (fun _ => rlg p ⟨putR R.acc z, R.v⟩) :=
  callT_of fun F hF => by
    obtain ⟨x, h1, h2, rfl⟩ := hF
    rcases at_cases R.acc z.a with ⟨i, g1, g2, g3, _⟩ | ⟨g1, _⟩
    · exact r_put_y p R.acc x R.v hl h1 h2 z i g1 g2 g3 A
    · exact r_put_n p R.acc x R.v hl h1 h2 z g1 A
end Go.Proofs.YtkibbcomfjhgpaaDoor

