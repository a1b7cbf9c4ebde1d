/- Layer 11: the ledger as a thing: the struct's block and its map's block; what reads and turns them. No conditions. -/
import Derived.Test.YtkibbcomfjhgpaaDoorK1m
import Derived.Test.YtkibbcomfjhgpaaDoorSxz
namespace Go.Proofs.YtkibbcomfjhgpaaDoor
open Go.RowKit Sx
set_option maxRecDepth 100000

structure Led where
  acc : List Ac
  v : Nat → Nat
  s : Nat
/-- The struct's cells. -/
abbrev ledC (q : Option Nat) (v : Nat → Nat) (s : Nat) : List Value := .map q :: (cU (v 0) ++ (cU (v 1) ++ (cU (v 2) ++ (cU (v 3) ++ cU s))))
/-- The map's block, if there is one. -/
def mapT (q : Option Nat) (acc : List Ac) : TP := fun G => match q with
  | none => acc = [] ∧ G = []
  | some m => ∃ l clock, MOk l clock acc ∧ G = [(m, .map (ents l).toArray clock)]
/-- The ledger at p with its map at q. -/
def ledQ (p : Nat) (q : Option Nat) (L : Led) : TP := fun F => ∃ G, mapT q L.acc G ∧ (∀ g ∈ G, g.1 ≠ p) ∧ F = (p, .cells (ledC q L.v L.s).toArray 67) :: G
def led (p : Nat) (L : Led) : TP := fun F => ∃ q, ledQ p q L F
def led0 : Led := ⟨[], fun _ => 0, 0⟩
def updV (v : Nat → Nat) (k x : Nat) : Nat → Nat := fun i => if i = k then x else v i

/-- A contract for each of its places is a contract of the ledger. -/
theorem callT_led {f : FuncId} {l : List Value} {A : Facts} {p : Nat} {L : Led} {X : Type} {ret : X → Value} {M : X → Facts} {T' : X → TP} (h : ∀ q, CallT Tryd.prog f l A (ledQ p q L) X ret M T') : CallT Tryd.prog f l A (led p L) X ret M T' :=
  fun w F ⟨q, hT⟩ hA hF hap => h q w F hT hA hF hap
theorem callR_led {f : FuncId} {l : List Value} {A : Facts} {p : Nat} {L : Led} {X : Type} {ret : X → Value} {M : X → Facts} (h : ∀ q F, ledQ p q L F → CallR Tryd.prog f l A F X ret M) : ∀ F, led p L F → CallR Tryd.prog f l A F X ret M :=
  fun F ⟨q, hT⟩ => h q F hT
theorem ledQ_led {p : Nat} {q : Option Nat} {L : Led} : ∀ F, ledQ p q L F → led p L F := fun _ h => ⟨q, h⟩

theorem led_take (q : Option Nat) (v : Nat → Nat) (s : Nat) {k : Nat} (hk : k < 4) : ∀ j u, (cU (v k))[j]? = some u → (ledC q v s)[1 + k * 4 + j]? = some u := by
  intro j u hj
  have hj4 : j < 4 := (List.getElem?_eq_some_iff.1 hj).1
  rcases (by omega : k = 0 ∨ k = 1 ∨ k = 2 ∨ k = 3) with rfl | rfl | rfl | rfl <;> rcases (by omega : j = 0 ∨ j = 1 ∨ j = 2 ∨ j = 3) with rfl | rfl | rfl | rfl <;> exact hj
theorem led_takes (q : Option Nat) (v : Nat → Nat) (s : Nat) : ∀ j u, (cU s)[j]? = some u → (ledC q v s)[17 + j]? = some u := by
  intro j u hj
  have hj4 : j < 4 := (List.getElem?_eq_some_iff.1 hj).1
  rcases (by omega : j = 0 ∨ j = 1 ∨ j = 2 ∨ j = 3) with rfl | rfl | rfl | rfl <;> exact hj
abbrev cV (v : Nat → Nat) : List Value := cU (v 0) ++ (cU (v 1) ++ (cU (v 2) ++ cU (v 3)))
abbrev VV4 (v : Nat → Nat) : Value := .agg #[.int .u64 (limb (v 0) 0), .int .u64 (limb (v 0) 1), .int .u64 (limb (v 0) 2), .int .u64 (limb (v 0) 3), .int .u64 (limb (v 1) 0), .int .u64 (limb (v 1) 1), .int .u64 (limb (v 1) 2), .int .u64 (limb (v 1) 3), .int .u64 (limb (v 2) 0), .int .u64 (limb (v 2) 1), .int .u64 (limb (v 2) 2), .int .u64 (limb (v 2) 3), .int .u64 (limb (v 3) 0), .int .u64 (limb (v 3) 1), .int .u64 (limb (v 3) 2), .int .u64 (limb (v 3) 3)]
theorem led_takev (q : Option Nat) (v : Nat → Nat) (s : Nat) : ∀ j u, (cV v)[j]? = some u → (ledC q v s)[1 + j]? = some u := by
  intro j u hj
  have hj4 : j < 16 := (List.getElem?_eq_some_iff.1 hj).1
  have e : ledC q v s = .map q :: (cV v ++ cU s) := rfl
  rw [e, Nat.add_comm, List.getElem?_cons_succ, List.getElem?_append_left (by simpa using hj4)]
  exact hj
theorem led_setv (q : Option Nat) (v : Nat → Nat) (s x : Nat) {k : Nat} (hk : k < 4) : setRange (ledC q v s) (1 + k * 4) (cU x) = ledC q (updV v k x) s := by
  rcases (by omega : k = 0 ∨ k = 1 ∨ k = 2 ∨ k = 3) with rfl | rfl | rfl | rfl <;> rfl
theorem led_sets (q : Option Nat) (v : Nat → Nat) (s x : Nat) : setRange (ledC q v s) 17 (cU x) = ledC q v x := rfl
theorem led_setm (q q' : Option Nat) (v : Nat → Nat) (s : Nat) : setRange (ledC q v s) 0 [.map q'] = ledC q' v s := rfl
theorem led_len (q : Option Nat) (v : Nat → Nat) (s : Nat) : (ledC q v s).length = 21 := rfl

theorem cell_of_heap {w : World} {p : Nat} {c : List Value} {t : TypeId} (h : w.heap[p]? = some (.cells c.toArray t)) (i : Nat) : w.cell? ⟨p, i, none⟩ = c[i]? := by
  simp only [World.cell?, h]
  simp
theorem info_U : ∃ i, Tryd.prog.info? 31 = some i ∧ i.size = 4 := by
  have h1 : (Tryd.prog.info? 31).map (fun i => i.size) = some 4 := by kernel_rfl
  cases h : Tryd.prog.info? 31 with
  | none => rw [h] at h1; cases h1
  | some i => rw [h] at h1; simp at h1; exact ⟨i, rfl, h1⟩
theorem info_map : ∃ i, Tryd.prog.info? 65 = some i ∧ i.size = 1 := by
  have h1 : (Tryd.prog.info? 65).map (fun i => i.size) = some 1 := by kernel_rfl
  cases h : Tryd.prog.info? 65 with
  | none => rw [h] at h1; cases h1
  | some i => rw [h] at h1; simp at h1; exact ⟨i, rfl, h1⟩

section
variable {ρ : Operand → Value} {dst : Option Tmp} {type : TypeId} {pos : String} {after : Array Edge} {guard : Option (Nat × Bool)} {p : Nat} {q : Option Nat} {L : Led} {A F : Facts} {X Y Z : Operand}
theorem ledQ_heap (h : ledQ p q L F) {w : World} (hF : Sx.Holds w F) : w.heap[p]? = some (.cells (ledC q L.v L.s).toArray 67) := by
  obtain ⟨G, _, _, rfl⟩ := h
  exact hF _ List.mem_cons_self
/-- A vault's address. -/
theorem kt_ix (p : Nat) {k : Nat} (hk : k < 4) (A : Facts) {z : Int} (ez : z = (k : Int)) (hx : ρ X = .pointer (some ⟨p, 1, none⟩) := by rfl) (hy : ρ Y = .int .i64 z := by rfl) : ∀ w, Sx.Holds w A → (execOp ρ ⟨dst, .indexAddr 41 X Y, type, pos, after, guard⟩).run Tryd.prog w = .ok (.value (.pointer (some ⟨p, 1 + k * 4, none⟩))) w := by
  intro w _
  subst ez
  obtain ⟨inf, hinf, hs⟩ := info_U
  have hk' : ¬ (4 ≤ k) := by omega
  rcases (by omega : k = 0 ∨ k = 1 ∨ k = 2 ∨ k = 3) with rfl | rfl | rfl | rfl <;>
    simp [execOp, Instr.indexAt, run_underlying Tryd.underlying41, hx, hy, Instr.sureAddr, asIntOf, run_size hinf, add_none, hs]
/-- Loads. -/
theorem rd_of {m : Sem Next} {v : Value} (h : ∀ w, Sx.Holds w F → m.run Tryd.prog w = .ok (.value v) w) : ReadsOp Tryd.prog m A F Unit (fun _ => v) (fun _ => []) := by
  intro w hA hF hap
  unfold OpRun
  rw [h w hF]
  exact ⟨(), rfl, fun _ h => (by cases h), fun _ h => (by cases h), .refl _ _⟩
theorem kt_ldm (h : ledQ p q L F) (hx : ρ X = .pointer (some ⟨p, 0, none⟩) := by rfl) : ReadsOp Tryd.prog (execOp ρ ⟨dst, .load 65 X, type, pos, after, guard⟩) A F Unit (fun _ => .map q) (fun _ => []) := by
  refine rd_of fun w hF => ?_
  have hc : w.cell? ⟨p, 0, none⟩ = some (.map q) := by rw [cell_of_heap (ledQ_heap h hF)]; rfl
  simp [execOp, Instr.loadAt, hx, Instr.sureAddr, loadVar, Tryd.isAgg65, run_load, hc]
theorem kt_lds (h : ledQ p q L F) (hx : ρ X = .pointer (some ⟨p, 17, none⟩) := by rfl) : ReadsOp Tryd.prog (execOp ρ ⟨dst, .load 31 X, type, pos, after, guard⟩) A F Unit (fun _ => U L.s) (fun _ => []) := by
  refine rd_of fun w hF => ?_
  have hr : World.rangeAt w p 17 (cU L.s) := fun j u hj => by rw [cell_of_heap (ledQ_heap h hF)]; exact led_takes q L.v L.s j u hj
  have hl := run_loadVar_mid w p 17 _ _ _ hr Tryd.underlying31 rfl (by kernel_rfl)
  simp [execOp, Instr.loadAt, hx, Instr.sureAddr, hl]
theorem kt_ldv (h : ledQ p q L F) {k : Nat} (hk : k < 4) (hx : ρ X = .pointer (some ⟨p, 1 + k * 4, none⟩) := by rfl) : ReadsOp Tryd.prog (execOp ρ ⟨dst, .load 31 X, type, pos, after, guard⟩) A F Unit (fun _ => U (L.v k)) (fun _ => []) := by
  refine rd_of fun w hF => ?_
  have hr : World.rangeAt w p (1 + k * 4) (cU (L.v k)) := fun j u hj => by rw [cell_of_heap (ledQ_heap h hF)]; exact led_take q L.v L.s hk j u hj
  have hl := run_loadVar_mid w p (1 + k * 4) _ _ _ hr Tryd.underlying31 rfl (by kernel_rfl)
  simp [execOp, Instr.loadAt, hx, Instr.sureAddr, hl]
theorem kt_ldvs (h : ledQ p q L F) (hx : ρ X = .pointer (some ⟨p, 1, none⟩) := by rfl) : ReadsOp Tryd.prog (execOp ρ ⟨dst, .load 41 X, type, pos, after, guard⟩) A F Unit (fun _ => VV4 L.v) (fun _ => []) := by
  refine rd_of fun w hF => ?_
  have hr : World.rangeAt w p 1 (cV L.v) := fun j u hj => by rw [cell_of_heap (ledQ_heap h hF)]; exact led_takev q L.v L.s j u hj
  have hl := run_loadVar_mid w p 1 _ _ _ hr Tryd.underlying41 rfl (by kernel_rfl)
  simp [execOp, Instr.loadAt, hx, Instr.sureAddr, hl]
/-- A lookup. -/
theorem kt_lk (h : ledQ p q L F) (a : Nat) (hx : ρ X = .map q := by rfl) (hy : ρ Y = .int .u64 (a : Int) := by rfl) : ReadsOp Tryd.prog (execOp ρ ⟨dst, .lookup 65 X Y false, type, pos, after, guard⟩) A F Unit (fun _ => AV (lkA L.acc a)) (fun _ => []) := by
  obtain ⟨G, h1, _, rfl⟩ := h
  refine rd_of fun w hF => ?_
  cases q with
  | none =>
    obtain ⟨e, _⟩ := h1
    have e2 : lkA L.acc a = ⟨0, 0, 0⟩ := by rw [e]; rfl
    simp [execOp, hx, hy, run_lk0 a, e2]
  | some m =>
    obtain ⟨l, clock, hok, rfl⟩ := h1
    have hm : w.heap[m]? = some (.map (ents l).toArray clock) := hF _ (List.mem_cons_of_mem _ (List.mem_singleton.2 rfl))
    have hk : (fndM l a 0 = none ∧ lkA L.acc a = ⟨0, 0, 0⟩) ∨ ∃ i, fndM l a 0 = some (i, AV (lkA L.acc a)) := hok.lk a
    simp [execOp, hx, hy, run_lkM hm a hk]
/-- Stores into the struct. -/
theorem kt_st {q' : Option Nat} {L' : Led} {t : TypeId} {n : Nat} (hi : ∃ i, Tryd.prog.info? t = some i ∧ i.size = n) {off : Nat} {yv : Value} {vs : List Value} (hv : yv.cells.toList = vs) (hn : vs.length = n) (hone : ∀ u ∈ vs, u.oneCell' = true) (hin : off + n ≤ 21)
    (hs : setRange (ledC q L.v L.s) off vs = ledC q' L'.v L'.s) (hx : ρ X = .pointer (some ⟨p, off, none⟩)) (hy : ρ Y = yv) {G : Facts} (hg : ∀ g ∈ G, g.1 ≠ p) :
    GivesT Tryd.prog (execOp ρ ⟨dst, .store t X Y, type, pos, after, guard⟩) A (fun F => F = (p, .cells (ledC q L.v L.s).toArray 67) :: G) Unit (fun _ => undef) (fun _ => []) (fun _ F => F = (p, .cells (ledC q' L'.v L'.s).toArray 67) :: G) := by
  obtain ⟨i, hi1, hi2⟩ := hi
  refine store_thing (c := ledC q L.v L.s) hi1 hx hy hv (by rw [hi2, hn]) hone (by rw [hi2]; exact hin) List.mem_cons_self (fun z hz => ?_)
  rcases List.mem_cons.1 hz with rfl | hz
  · exact .inl (by rw [hs])
  · exact .inr ⟨List.mem_cons_of_mem _ hz, hg z hz⟩
theorem one_cU (n : Nat) : ∀ u ∈ cU n, u.oneCell' = true := by
  intro u hu
  simp only [cU, List.mem_cons, List.not_mem_nil, or_false] at hu
  rcases hu with rfl | rfl | rfl | rfl <;> rfl
theorem gT_of {m : Sem Next} {T : TP} {Z : Type} {ret : Z → Value} {M : Z → Facts} {T' : Z → TP} (h : ∀ F, T F → GivesT Tryd.prog m A (fun G => G = F) Z ret M T') : GivesT Tryd.prog m A T Z ret M T' := givesT_of h
theorem gT_mono {m : Sem Next} {T : TP} {Z : Type} {ret : Z → Value} {M : Z → Facts} {T1 T2 : Z → TP} (h : GivesT Tryd.prog m A T Z ret M T1) (k : ∀ x F, T1 x F → T2 x F) : GivesT Tryd.prog m A T Z ret M T2 := by
  intro w F hT hA hF hap
  refine OpRunT.mono (h w F hT hA hF hap) ?_
  rintro v w' ⟨x, F', e, g1, g2⟩
  exact ⟨x, F', e, k x F' g1, g2⟩
theorem kt_sts (x : Nat) (hx : ρ X = .pointer (some ⟨p, 17, none⟩) := by rfl) (hy : ρ Y = U x := by rfl) :
    GivesT Tryd.prog (execOp ρ ⟨dst, .store 31 X Y, type, pos, after, guard⟩) A (ledQ p q L) Unit (fun _ => undef) (fun _ => []) (fun _ => ledQ p q ⟨L.acc, L.v, x⟩) := by
  refine gT_of fun F hT => ?_
  obtain ⟨G, h1, h2, rfl⟩ := hT
  exact gT_mono (kt_st (L' := ⟨L.acc, L.v, x⟩) info_U (vs := cU x) rfl rfl (one_cU x) (by decide) (led_sets q L.v L.s x) hx hy h2) fun _ F e => ⟨G, h1, h2, e⟩
theorem kt_stv {k : Nat} (hk : k < 4) (x : Nat) (hx : ρ X = .pointer (some ⟨p, 1 + k * 4, none⟩) := by rfl) (hy : ρ Y = U x := by rfl) :
    GivesT Tryd.prog (execOp ρ ⟨dst, .store 31 X Y, type, pos, after, guard⟩) A (ledQ p q L) Unit (fun _ => undef) (fun _ => []) (fun _ => ledQ p q ⟨L.acc, updV L.v k x, L.s⟩) := by
  refine gT_of fun F hT => ?_
  obtain ⟨G, h1, h2, rfl⟩ := hT
  exact gT_mono (kt_st (L' := ⟨L.acc, updV L.v k x, L.s⟩) info_U (vs := cU x) rfl rfl (one_cU x) (by omega) (led_setv q L.v L.s x hk) hx hy h2) fun _ F e => ⟨G, h1, h2, e⟩
/-- While a new map is not yet the ledger's. -/
def ledM (p m : Nat) (L : Led) : TP := fun F => L.acc = [] ∧ m ≠ p ∧ F = [(p, .cells (ledC none L.v L.s).toArray 67), (m, .map #[] 0)]
theorem kt_mk : GivesT Tryd.prog (execOp ρ ⟨dst, .makeMap 65 none, type, pos, after, guard⟩) A (ledQ p none L) Nat (fun m => .map (some m)) (fun _ => []) (fun m => ledM p m L) := by
  intro w F hT hA hF hap
  obtain ⟨G, ⟨h1, rfl⟩, _, rfl⟩ := hT
  have hp : w.heap[p]? = _ := hF _ List.mem_cons_self
  have hrun : (execOp ρ ⟨dst, .makeMap 65 none, type, pos, after, guard⟩).run Tryd.prog w = .ok (.value (.map (some w.heap.size))) (w.alloc (.map #[] 0)) := by
    simp [execOp, run_makeMap]
  unfold OpRunT
  rw [hrun]
  simp only
  have hlt := lt_of_some hp
  refine ⟨w.heap.size, _, rfl, ⟨h1, by omega, rfl⟩, fun _ h => (by cases h), fun z hz => ?_, fun _ h => (by cases h), fun _ h => (by cases h), fun z hz => ?_, Sx.Below.still ((Below.refl _ w).alloc (Nat.le_refl _) _)⟩
  · rcases List.mem_cons.1 hz with rfl | hz
    · exact ((Below.refl w.heap.size w).alloc (Nat.le_refl _) _).block p hlt ▸ hp
    · obtain rfl := List.mem_singleton.1 hz
      exact (MapKept.heap_alloc w _).1
  · rcases List.mem_cons.1 hz with rfl | hz
    · exact .inr ⟨_, List.mem_cons_self, rfl⟩
    · obtain rfl := List.mem_singleton.1 hz
      exact .inl (Nat.le_refl _)
theorem kt_stm (m : Nat) (hx : ρ X = .pointer (some ⟨p, 0, none⟩) := by rfl) (hy : ρ Y = .map (some m) := by rfl) :
    GivesT Tryd.prog (execOp ρ ⟨dst, .store 65 X Y, type, pos, after, guard⟩) A (ledM p m L) Unit (fun _ => undef) (fun _ => []) (fun _ F => ∃ m, ledQ p (some m) L F) := by
  refine gT_of fun F hT => ?_
  obtain ⟨h1, h2, rfl⟩ := hT
  exact gT_mono (kt_st (L' := L) (q' := some m) info_map (vs := [.map (some m)]) rfl rfl (fun u hu => by obtain rfl := List.mem_singleton.1 hu; rfl) (by decide) (led_setm none (some m) L.v L.s) hx hy (fun g hg => by obtain rfl := List.mem_singleton.1 hg; exact h2)) fun _ F e =>
    ⟨m, _, ⟨[], 0, h1 ▸ MOk.nil, rfl⟩, fun g hg => by obtain rfl := List.mem_singleton.1 hg; exact h2, e⟩
/-- The map's address is loaded, and known from then on. -/
theorem kt_ldx (hx : ρ X = .pointer (some ⟨p, 0, none⟩) := by rfl) : GivesT Tryd.prog (execOp ρ ⟨dst, .load 65 X, type, pos, after, guard⟩) A (fun F => ∃ m, ledQ p (some m) L F) Nat (fun m => .map (some m)) (fun _ => []) (fun m => ledQ p (some m) L) := by
  intro w F hT hA hF hap
  obtain ⟨m, hT⟩ := hT
  refine OpRunT.mono ((kt_ldm hT hx (A := A)) w hA hF hap).t ?_
  rintro v w' ⟨_, rfl, g1, g2, g3⟩
  exact ⟨m, F, rfl, hT, fun _ h => (by cases h), fun z hz => (g3.block z.1 (lt_of_some (hF z hz))).trans (hF z hz), fun _ h => (by cases h), fun _ h => (by cases h), fun z hz => .inr ⟨z, hz, rfl⟩, Sx.Below.still g3⟩
/-- The map's block is written. -/
theorem setM {w : World} {m : Nat} {es es' : Array MapEntry} {c c' : Nat} (h : w.heap[m]? = some (.map es c)) :
    ({ w with heap := w.heap.setIfInBounds m (.map es' c') } : World).heap[m]? = some (.map es' c') ∧ (∀ j, j ≠ m → ({ w with heap := w.heap.setIfInBounds m (.map es' c') } : World).heap[j]? = w.heap[j]?) := by
  have hlt := lt_of_some h
  refine ⟨by simp [hlt], fun j hj => ?_⟩
  show (w.heap.setIfInBounds m _)[j]? = _
  rw [Array.getElem?_setIfInBounds, if_neg (by omega)]
theorem kt_wr {op : Op} {m : Nat} {L' : Led} (hv : L'.v = L.v) (hs : L'.s = L.s) {r : Next} {rv : Value} (hr : r = .value rv ∨ (r = .skip ∧ rv = undef))
    (h : ∀ w l clock, MOk l clock L.acc → w.heap[m]? = some (.map (ents l).toArray clock) → ∃ l' clock', MOk l' clock' L'.acc ∧ (execOp ρ ⟨dst, op, type, pos, after, guard⟩).run Tryd.prog w = .ok r { w with heap := w.heap.setIfInBounds m (.map (ents l').toArray clock') }) :
    GivesT Tryd.prog (execOp ρ ⟨dst, op, type, pos, after, guard⟩) A (ledQ p (some m) L) Unit (fun _ => rv) (fun _ => []) (fun _ => ledQ p (some m) L') := by
  intro w F hT hA hF hap
  obtain ⟨G, ⟨l, clock, hok, rfl⟩, hg, rfl⟩ := hT
  have hm : w.heap[m]? = _ := hF _ (List.mem_cons_of_mem _ (List.mem_singleton.2 rfl))
  have hp : w.heap[p]? = _ := hF _ List.mem_cons_self
  have hmp : m ≠ p := hg _ (List.mem_singleton.2 rfl)
  obtain ⟨l', clock', hok', hrun⟩ := h w l clock hok hm
  obtain ⟨s1, s2⟩ := setM (es' := (ents l').toArray) (c' := clock') hm
  have fin : TPost A Unit (fun _ => rv) (fun _ => []) (fun _ => ledQ p (some m) L') w ((p, Obj.cells (ledC (some m) L.v L.s).toArray 67) :: [(m, .map (ents l).toArray clock)]) rv { w with heap := w.heap.setIfInBounds m (.map (ents l').toArray clock') } := by
    refine ⟨(), _, rfl, ⟨[(m, .map (ents l').toArray clock')], ⟨l', clock', hok', rfl⟩, fun g hg => by obtain rfl := List.mem_singleton.1 hg; exact hmp, rfl⟩, fun _ h => (by cases h), fun z hz => ?_, fun _ h => (by cases h), fun _ h => (by cases h), fun z hz => ?_, ⟨rfl, rfl, rfl, by simp, fun k _ hk => s2 k fun e => hk _ (List.mem_cons_of_mem _ (List.mem_singleton.2 rfl)) e.symm⟩⟩
    · rcases List.mem_cons.1 hz with rfl | hz
      · rw [hv, hs]; exact (s2 p (Ne.symm hmp)).trans hp
      · obtain rfl := List.mem_singleton.1 hz; exact s1
    · rcases List.mem_cons.1 hz with rfl | hz
      · exact .inr ⟨_, List.mem_cons_self, rfl⟩
      · obtain rfl := List.mem_singleton.1 hz
        exact .inr ⟨_, List.mem_cons_of_mem _ (List.mem_singleton.2 rfl), rfl⟩
  unfold OpRunT
  rw [hrun]
  rcases hr with rfl | ⟨rfl, rfl⟩
  · exact fin
  · exact fin
theorem kt_upd {m : Nat} {x : Ac} (hx0 : ¬ x.emp) (hx : ρ X = .map (some m) := by rfl) (hy : ρ Y = .int .u64 (x.a : Int) := by rfl) (hz : ρ Z = AV x := by rfl) :
    GivesT Tryd.prog (execOp ρ ⟨dst, .mapUpdate 65 X Y Z, type, pos, after, guard⟩) A (ledQ p (some m) L) Unit (fun _ => undef) (fun _ => []) (fun _ => led p ⟨putA L.acc x, L.v, L.s⟩) := by
  refine gT_mono (kt_wr (L := L) (L' := ⟨putA L.acc x, L.v, L.s⟩) rfl rfl (r := .skip) (.inr ⟨rfl, rfl⟩) fun w l clock hok hm => ?_) fun _ F h => ⟨_, h⟩
  obtain ⟨c', h1, h2⟩ := run_updM hm x
  refine ⟨putM l x clock, c', ?_, ?_⟩
  · rcases h2 with ⟨rfl, h2⟩ | rfl
    · exact putM_has hok hx0 h2
    · exact hok.put hx0
  · simp [execOp, hx, hy, hz, h1]
theorem kt_del {x : Ac} (hx0 : x.emp) {ts : Array TypeId} (hts : ts[0]? = some 65) (hx : ρ X = .map q := by rfl) (hy : ρ Y = .int .u64 (x.a : Int) := by rfl) :
    GivesT Tryd.prog (execOp ρ ⟨dst, .call ⟨.builtin .delete, #[X, Y], ts⟩, type, pos, after, guard⟩) A (ledQ p q L) Unit (fun _ => .tuple #[]) (fun _ => []) (fun _ => led p ⟨putA L.acc x, L.v, L.s⟩) := by
  cases q with
  | some m =>
    refine gT_mono (kt_wr (L := L) (L' := ⟨putA L.acc x, L.v, L.s⟩) rfl rfl (r := .value (.tuple #[])) (.inl rfl) fun w l clock hok hm => ?_) fun _ F h => ⟨_, h⟩
    refine ⟨delM l x.a, clock, hok.del hx0, ?_⟩
    have := run_delM hok.once hm x.a hts (ty := type)
    simp [execOp, resolve, invoke, builtin, hx, hy, this]
  | none =>
    intro w F hT hA hF hap
    obtain ⟨G, ⟨h1, rfl⟩, h3, rfl⟩ := hT
    have h0 := run_del0 (w := w) x.a hts (ty := type)
    have hrun : (execOp ρ ⟨dst, .call ⟨.builtin .delete, #[X, Y], ts⟩, type, pos, after, guard⟩).run Tryd.prog w = .ok (.value (.tuple #[])) w := by
      simp [execOp, resolve, invoke, builtin, hx, hy, h0]
    unfold OpRunT
    rw [hrun]
    have e : putA L.acc x = [] := by rw [h1]; unfold putA; rw [if_pos hx0]; rfl
    exact ⟨(), _, rfl, ⟨none, [], ⟨e, rfl⟩, h3, rfl⟩, fun _ h => (by cases h), hF, fun _ h => (by cases h), fun _ h => (by cases h), fun z hz => .inr ⟨z, hz, rfl⟩, Sx.Below.still (.refl _ _)⟩
end
end Go.Proofs.YtkibbcomfjhgpaaDoor

