/- Slices of bytes that nobody else holds, as things: what 'append', loads and stores do to them. No Go function in this text; no conditions. -/
import Derived.Test.YteepoeljihbpjaaSxt
import Derived.Test.YteepoeljihbpjaaW6p
import Derived.Test.YteepoeljihbpjaaZ9n
namespace Go.Proofs.Yteepoeljihbpjaa
open Go.RowKit Sx
set_option maxRecDepth 100000

/-- The place of such a slice: nowhere, or a block and what lies behind its contents. -/
abbrev Pq := Option Addr ⊕ (Nat × List Value)
def pO : Pq → Option Addr
  | .inl o => o
  | .inr q => some ⟨q.1, 0, none⟩
def pC (l : Bs) : Pq → Nat
  | .inl _ => 0
  | .inr q => l.length + q.2.length
def pL (l : Bs) : Pq → Facts
  | .inl _ => []
  | .inr q => [(q.1, .cells (bcs l ++ q.2).toArray 5)]
def pV (l : Bs) : Pq → Prop
  | .inl _ => l = []
  | .inr _ => True
abbrev PV (l : Bs) : Type := { q : Pq // pV l q }
def pv0 (l : Bs) : PV l := ⟨.inr (0, []), trivial⟩
def pvnil : PV [] := ⟨.inl none, rfl⟩
def PV.cast {l m : Bs} (e : l = m) (q : PV l) : PV m := ⟨q.1, e ▸ q.2⟩
abbrev bV (l : Bs) (q : PV l) : Value := .slice (pO q.1) l.length (pC l q.1)
abbrev bT (l : Bs) (q : PV l) : TP := fun F => F = pL l q.1
theorem bV_cast {l m : Bs} (e : l = m) (q : PV l) : bV l q = bV m (q.cast e) := by subst e; rfl
theorem bT_cast {l m : Bs} (e : l = m) (q : PV l) : ∀ F, bT l q F → bT m (q.cast e) F := by subst e; exact fun _ h => h
theorem bT_nil : ∀ F, F = [] → bT [] pvnil F := fun _ h => h
/-- The same as a slice that is read. -/
def Byt.ofP (l : Bs) (q : PV l) : Byt where
  o := pO q.1
  n := l.length
  cap := pC l q.1
  l := l
  L := pL l q.1
  hl := rfl
  hc := by
    obtain ⟨q, h⟩ := q
    cases q with
    | inl o => have h : l = [] := h; subst h; exact Nat.le_refl _
    | inr p => exact Nat.le_add_right _ _
  hs := fun h0 => by
    obtain ⟨q, h⟩ := q
    cases q with
    | inl o => have h : l = [] := h; subst h; exact absurd h0 (by decide)
    | inr p => rfl
  h := fun w hw i hi => by
    obtain ⟨q, h⟩ := q
    cases q with
    | inl o => have h : l = [] := h; subst h; exact absurd hi (by simp)
    | inr p =>
      have h1 := hw _ (List.mem_singleton.2 rfl)
      simp only at h1
      simp only [pO, Option.getD_some, add_none, Nat.zero_add]
      simp only [World.cell?, h1]
      rw [List.getElem?_toArray, List.getElem?_append_left (by rw [bcs_length]; exact hi)]
      exact bcs_get hi
theorem byt_ofP (l : Bs) (q : PV l) : (Byt.ofP l q).v = bV l q := rfl

section
variable {ρ : Operand → Value} {dst : Option Tmp} {type : TypeId} {pos : String} {after : Array Edge} {guard : Option (Nat × Bool)} {A : Facts} {X Y : Operand}
/-- 'append' of bytes to such a slice. -/
theorem app_p {l : Bs} {q : PV l} (y : Byt) (hA : Sub y.L A) (hn : l.length + y.n ≤ 1099511627776) (hx : ρ X = bV l q := by rfl) (hy : ρ Y = y.v := by rfl) :
    GivesT Try.prog (execOp ρ ⟨dst, .call ⟨.builtin .append, #[X, Y], #[22, 22]⟩, type, pos, after, guard⟩) A (bT l q) (PV (l ++ y.l)) (fun p => bV (l ++ y.l) p) (fun _ => []) (fun p => bT (l ++ y.l) p) := by
  obtain ⟨i, hi, h1, hby, hz⟩ := info_u8
  obtain ⟨q, hq⟩ := q
  have hb1 : lenB (bcs l) 1 = l.length := bcs_length l
  obtain ⟨x, hxo, hxc, hxl⟩ : ∃ x : FrX (bcs l), frO x = pO q ∧ frC 1 x = pC l q ∧ frL 5 x = pL l q := by
    cases q with
    | inl o => have hq : l = [] := hq; subst hq; exact ⟨.inl (⟨rfl⟩, o), rfl, rfl, rfl⟩
    | inr p => exact ⟨.inr p, rfl, by show ((bcs l).length + p.2.length) / 1 = _; rw [Nat.div_one, bcs_length]; rfl, rfl⟩
  have hXv : ρ X = .slice (frO x) (lenB (bcs l) 1) (frC 1 x) := by rw [hx, hxo, hxc, hb1]
  have hok : FrOk 1 x := by
    cases x with
    | inl _ => trivial
    | inr p => exact Nat.mod_one _
  have g := app_thing (P := Try.prog) (ρ := ρ) (dst := dst) (type := type) (pos := pos) (after := after) (guard := guard) (A := A) (F0 := pL l q) (x := x) (n := y.n) (G := fun z => frL 5 z) (xs := bcs y.l) (X := X) (Y := Y)
    Try.underlying22 hi hz (by rw [h1]; rfl) (by omega) (by omega) (by rw [h1]; exact hXv) hy (by rw [h1, hb1, bcs_length, Nat.mul_one]) (by rw [h1]; exact hok) (by rw [h1]; exact y.src hA) (by rw [bcs_length, bcs_length, y.hl]; exact hn) (fun z hz => by rw [hxl] at hz; exact hz) (fun z r hr => .inl hr)
  rw [h1] at g
  intro w F hT hA' hF hap
  refine OpRunT.mono (g w F hT hA' hF hap) ?_
  rintro v w' ⟨z, F', e, ⟨g1, _, _⟩, g2⟩
  obtain ⟨p, hp, hpo, hpc, hpl⟩ : ∃ p : Pq, pV (l ++ y.l) p ∧ frO z = pO p ∧ frC 1 z = pC (l ++ y.l) p ∧ frL 5 z = pL (l ++ y.l) p := by
    cases z with
    | inl o =>
      have h0 : bcs (l ++ y.l) = [] := by rw [← bcs_append]; exact o.1.down
      have h2 : l ++ y.l = [] := List.length_eq_zero_iff.1 (by rw [← bcs_length, h0]; rfl)
      exact ⟨.inl o.2, h2, rfl, rfl, rfl⟩
    | inr p =>
      refine ⟨.inr p, trivial, rfl, ?_, ?_⟩
      · show ((bcs l ++ bcs y.l).length + p.2.length) / 1 = (l ++ y.l).length + p.2.length
        rw [Nat.div_one, bcs_append, bcs_length]
      · show [(p.1, Obj.cells (bcs l ++ bcs y.l ++ p.2).toArray 5)] = [(p.1, Obj.cells (bcs (l ++ y.l) ++ p.2).toArray 5)]
        rw [bcs_append]
  refine ⟨⟨p, hp⟩, F', ?_, ?_, g2⟩
  · rw [e]
    show Value.slice (frO z) (bcs l ++ bcs y.l).length (frC 1 z) = Value.slice (pO p) (l ++ y.l).length (pC (l ++ y.l) p)
    rw [hpo, hpc, bcs_append, bcs_length]
  · show F' = pL (l ++ y.l) p
    rw [← hpl]; exact g1
/-- A byte of it is loaded. -/
theorem rd_p {l : Bs} (q : PV l) {j : Int} (i : Nat) (ej : j = i) (hi : i < l.length) (hx : ρ X = .pointer (some (((pO q.1).getD ⟨0, 0, none⟩).add (j.toNat * 1))) := by rfl) :
    ReadsOp Try.prog (execOp ρ ⟨dst, .load 5 X, type, pos, after, guard⟩) A (pL l q.1) Unit (fun _ => .int .u8 ((l.getD i 0).toNat : Int)) (fun _ => []) := by
  intro w hA hF hap
  have hl := (Byt.ofP l q).load (j := j) i ej hi (A := pL l q.1) (.refl _) w hF
  have hrun : (execOp ρ ⟨dst, .load 5 X, type, pos, after, guard⟩).run Try.prog w = .ok (.value (.int .u8 ((l.getD i 0).toNat : Int))) w := by
    simp [execOp, Instr.loadAt, hx, Instr.sureAddr, show (Byt.ofP l q).o = pO q.1 from rfl] at hl ⊢
    rw [hl]; rfl
  unfold OpRun
  rw [hrun]
  exact ⟨(), rfl, fun _ h => (by cases h), fun _ h => (by cases h), .refl _ _⟩
theorem idx_p9 {l : Bs} (q : PV l) {j : Int} {n : Nat} (en : n = l.length) (h0 : 0 ≤ j) (h1 : j < l.length) : idxOk (pO q.1) j n := by
  subst en; exact (Byt.ofP l q).idx h0 h1
/-- A byte is stored. -/
theorem bcs_set (l : Bs) (i : Nat) (b : UInt8) (h : i < l.length) (sp : List Value) : setRange (bcs l ++ sp) i [.int .u8 (b.toNat : Int)] = bcs (l.set i b) ++ sp := by
  unfold setRange
  apply List.ext_getElem?
  intro j
  have hb := bcs_length l
  have hb2 : (bcs (l.set i b)).length = l.length := by rw [bcs_length, List.length_set]
  rcases Nat.lt_trichotomy j i with h1 | h1 | h1
  · rw [List.append_assoc, List.getElem?_append_left (by simp; omega), List.getElem?_take_of_lt h1, List.getElem?_append_left (by omega), List.getElem?_append_left (by omega), bcs_get (by omega), bcs_get (by rw [List.length_set]; omega)]
    simp [List.getD, List.getElem?_set_ne (Nat.ne_of_gt h1)]
  · subst h1
    have e : ((bcs l ++ sp).take j).length = j := by simp; omega
    rw [List.append_assoc, List.getElem?_append_right (by omega), e, Nat.sub_self]
    conv => rhs; rw [List.getElem?_append_left (by omega), bcs_get (by rw [List.length_set]; omega)]
    simp [List.getD, h]
  · have e : ((bcs l ++ sp).take i ++ [Value.int .u8 (b.toNat : Int)]).length = i + 1 := by simp; omega
    rw [List.getElem?_append_right (by omega), e, List.getElem?_drop]
    have e2 : i + [Value.int .u8 (b.toNat : Int)].length + (j - (i + 1)) = j := by simp; omega
    rw [e2]
    rcases Nat.lt_or_ge j l.length with h2 | h2
    · rw [List.getElem?_append_left (by omega), List.getElem?_append_left (by omega), bcs_get h2, bcs_get (by rw [List.length_set]; exact h2)]
      simp [List.getD, List.getElem?_set_ne (Nat.ne_of_lt h1)]
    · rw [List.getElem?_append_right (by omega), List.getElem?_append_right (by omega), hb, hb2]
def PV.set {l : Bs} (q : PV l) (i : Nat) (b : UInt8) : PV (l.set i b) := ⟨q.1, by
  obtain ⟨q, h⟩ := q
  cases q with
  | inl o => have h : l = [] := h; subst h; rfl
  | inr p => trivial⟩
theorem bV_set {l : Bs} (q : PV l) (i : Nat) (b : UInt8) : bV l q = bV (l.set i b) (q.set i b) := by
  obtain ⟨q, h⟩ := q
  cases q with
  | inl o => show Value.slice o l.length 0 = .slice o (l.set i b).length 0; rw [List.length_set]
  | inr p => show Value.slice _ l.length (l.length + p.2.length) = .slice _ (l.set i b).length ((l.set i b).length + p.2.length); rw [List.length_set]; rfl
theorem store_p {l : Bs} (q : PV l) {j : Int} (b : UInt8) (i : Nat) (ej : j = i) (hi : i < l.length) (hx : ρ X = .pointer (some (((pO q.1).getD ⟨0, 0, none⟩).add (j.toNat * 1))) := by rfl) (hy : ρ Y = .int .u8 (b.toNat : Int) := by rfl) :
    GivesT Try.prog (execOp ρ ⟨dst, .store 5 X Y, type, pos, after, guard⟩) A (bT l q) Unit (fun _ => undef) (fun _ => []) (fun _ => bT (l.set i b) (q.set i b)) := by
  obtain ⟨q, hq⟩ := q
  obtain ⟨inf, hinf, hs, _, _⟩ := info_u8
  cases q with
  | inl o => have hq : l = [] := hq; subst hq; exact absurd hi (by simp)
  | inr p =>
    subst ej
    refine store_thing (P := Try.prog) (F0 := [(p.1, .cells (bcs l ++ p.2).toArray 5)]) (m := p.1) (off := i) (c := bcs l ++ p.2) (e := 5) (vs := [.int .u8 (b.toNat : Int)]) hinf ?_ hy rfl (by rw [hs]; rfl) (fun u hu => by obtain rfl := List.mem_singleton.1 hu; rfl) (by rw [hs, List.length_append, bcs_length]; omega) (List.mem_singleton.2 rfl) (fun z hz => .inl ?_)
    · rw [hx]; simp only [pO, Option.getD_some, add_none, Nat.zero_add, Int.toNat_natCast, Nat.mul_one]
    · rw [bcs_set l i b hi]; exact List.mem_singleton.1 hz
/-- A nil slice. -/
theorem ld_conv8 (n : Nat) (A : Facts) (hx : ρ X = .int .i64 (n : Int) := by rfl) :
    ∀ w, Sx.Holds w A → (execOp ρ ⟨dst, .convert 3 5 X, type, pos, after, guard⟩).run Try.prog w = .ok (.value (.int .u8 ((UInt8.ofNat n).toNat : Int))) w := by
  intro w _
  have e : execOp ρ ⟨dst, .convert 3 5 X, type, pos, after, guard⟩ = (do let v ← convert 3 5 (ρ X); pure (.value v)) := rfl
  have hw : IntKind.u8.wrap (n : Int) = (((UInt8.ofNat n).toNat : Nat) : Int) := by rw [UInt8.toNat_ofNat']; simp [IntKind.wrap, IntKind.bits, IntKind.signed]
  rw [e, hx]
  simp [convert, run_underlying Try.underlying3, run_underlying Try.underlying5, Conv.intToInt, hw]
/-- []byte{a, b, c}. -/
theorem build_3 (a b c : UInt8) (A : Facts) {x y z : Operand} (hx : ρ x = .int .u8 (a.toNat : Int) := by rfl) (hy : ρ y = .int .u8 (b.toNat : Int) := by rfl) (hz : ρ z = .int .u8 (c.toNat : Int) := by rfl) : GivesOp Try.prog (execOp ρ ⟨dst, .buildSlice 22 3 #[(0, x), (1, y), (2, z)], type, pos, after, guard⟩) A Nat (fun m => (Byt.row m [a, b, c]).v) (fun m => (Byt.row m [a, b, c]).L) := by
  obtain ⟨i, hi, hs, _, h0⟩ := info_u8
  refine gives_alloc (F := []) id (.cells (bcs [a, b, c]).toArray 5) (fun w => ?_) (fun k => rfl) (fun _ h => by cases h)
  have hf : Instr.fill (fun j => some (j * 1, 1)) ((Array.range (3 * 1)).map ((Value.int .u8 0).cells[· % (Value.int .u8 0).cells.size]!)) [(0, .int .u8 (a.toNat : Int)), (1, .int .u8 (b.toNat : Int)), (2, .int .u8 (c.toNat : Int))] = some (bcs [a, b, c]).toArray := by kernel_rfl
  have hb := run_buildSlice w 22 5 3 #[(0, .int .u8 (a.toNat : Int)), (1, .int .u8 (b.toNat : Int)), (2, .int .u8 (c.toNat : Int))] (bcs [a, b, c]).toArray i (.int .u8 0) Try.underlying22 hi h0 (by rw [hs]; decide) (by rw [hs]; decide) (by rw [hs]; exact hf)
  simp [execOp, hx, hy, hz, hb, Byt.row]
end
end Go.Proofs.Yteepoeljihbpjaa

