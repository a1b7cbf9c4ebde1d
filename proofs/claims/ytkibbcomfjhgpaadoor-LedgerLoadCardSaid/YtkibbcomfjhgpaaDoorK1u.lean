/- Layer 11: rows of Uint256 that grow; slices.Clone of the vaults. No conditions. -/
import Derived.Test.YtkibbcomfjhgpaaDoorK1l
namespace Go.Proofs.YtkibbcomfjhgpaaDoor
open Go.RowKit Sx
set_option maxRecDepth 100000

def ucs : List Nat → List Value
  | [] => []
  | n :: r => cU n ++ ucs r
theorem ucs_len (l : List Nat) : (ucs l).length = l.length * 4 := by
  induction l with
  | nil => rfl
  | cons n r ih => show (cU n ++ ucs r).length = _; rw [List.length_append, ih, show (n :: r).length = r.length + 1 from rfl]; show 4 + _ = _; omega
theorem ucs_app (a b : List Nat) : ucs (a ++ b) = ucs a ++ ucs b := by
  induction a with
  | nil => rfl
  | cons n r ih => show cU n ++ ucs (r ++ b) = cU n ++ ucs r ++ ucs b; rw [ih, List.append_assoc]
theorem ucs_1 (n : Nat) : ucs [n] = cU n := by show cU n ++ [] = _; rw [List.append_nil]
theorem cU_one (n : Nat) : ∀ v ∈ cU n, v.oneCell' = true := by
  intro v hv
  simp only [List.mem_cons, List.not_mem_nil, or_false] at hv
  rcases hv with rfl | rfl | rfl | rfl <;> rfl
theorem ucs_one (l : List Nat) : ∀ v ∈ ucs l, v.oneCell' = true := by
  induction l with
  | nil => intro v hv; cases hv
  | cons n r ih => intro v hv; exact (List.mem_append.1 hv).elim (cU_one n v) (ih v)
theorem ucs_get (l : List Nat) (i : Nat) (hi : i < l.length) (j : Nat) (hj : j < 4) : (ucs l)[i * 4 + j]? = (cU (l.getD i 0))[j]? := by
  induction l generalizing i with
  | nil => cases hi
  | cons n r ih =>
    cases i with
    | zero =>
      show (cU n ++ ucs r)[0 * 4 + j]? = (cU n)[j]?
      rw [Nat.zero_mul, Nat.zero_add, List.getElem?_append_left (by exact hj)]
    | succ i =>
      have hi' : i < r.length := by simpa using hi
      show (cU n ++ ucs r)[(i + 1) * 4 + j]? = (cU (r.getD i 0))[j]?
      rw [← ih i hi', List.getElem?_append_right (by show 4 ≤ _; omega)]
      congr 1
      show (i + 1) * 4 + j - 4 = _
      omega
theorem lenB_u (l : List Nat) : lenB (ucs l) 4 = l.length := by
  show (ucs l).length / 4 = _
  rw [ucs_len, Nat.mul_div_cancel _ (by decide)]
theorem ucs_v (v : Nat → Nat) : ucs [v 0, v 1, v 2, v 3] = cV v := by
  show cU (v 0) ++ (cU (v 1) ++ (cU (v 2) ++ (cU (v 3) ++ []))) = _
  rw [List.append_nil]
theorem info_U5 : ∃ i z, Tryd.prog.info? 31 = some i ∧ i.size = 4 ∧ i.bytes = 32 ∧ i.zero = some z ∧ z.cells.size = 4 := by
  have h1 : (Tryd.prog.info? 31).map (fun i => (i.size, i.bytes, i.zero.map (fun z => z.cells.size))) = some (4, 32, some 4) := by kernel_rfl
  cases h : Tryd.prog.info? 31 with
  | none => rw [h] at h1; cases h1
  | some i =>
    rw [h] at h1
    simp only [Option.map_some, Option.some.injEq, Prod.mk.injEq] at h1
    cases hz : i.zero with
    | none => rw [hz] at h1; simp at h1
    | some z => rw [hz] at h1; simp at h1; exact ⟨i, z, rfl, h1.1, h1.2.1, hz, h1.2.2⟩
/-- A row of numbers at the head of block m. -/
theorem u_src (m : Nat) (l : List Nat) (e : TypeId) {A : Facts} (hA : Sub [(m, Obj.cells (ucs l).toArray e)] A) : ∀ w, Sx.Holds w A → Src Tryd.prog 4 95 (.slice (some ⟨m, 0, none⟩) l.length l.length) l.length (ucs l) w := by
  intro w hw
  refine Src.ofSlice w Tryd.underlying95 ⟨m, 0, none⟩ l.length l.length _ (by rw [ucs_len]) (fun j u hj => ?_) (ucs_one l)
  have h1 := hA.holds hw _ (List.mem_singleton.2 rfl)
  simp only at h1
  rw [add_none, Nat.zero_add]
  simp only [World.cell?, h1]
  simpa using hj
section
variable {ρ : Operand → Value} {dst : Option Tmp} {type : TypeId} {pos : String} {after : Array Edge} {guard : Option (Nat × Bool)}
/-- v[:] of an array of vaults. -/
theorem give_v4 (p : Nat) (v : Nat → Nat) {A : Facts} (hA : Sub [(p, Obj.cells (cV v).toArray 41)] A) {x : Operand} (hx : ρ x = .pointer (some ⟨p, 0, none⟩) := by rfl) :
    GivesOp Tryd.prog (execOp ρ ⟨dst, .slice 41 x none none none, type, pos, after, guard⟩) A Unit (fun _ => .slice (some ⟨p, 0, none⟩) 4 4) (fun _ => [(p, .cells (cV v).toArray 41)]) := by
  intro w hw
  obtain ⟨i, z, hi, hs, _⟩ := info_U5
  have hrun : (execOp ρ ⟨dst, .slice 41 x none none none, type, pos, after, guard⟩).run Tryd.prog w = .ok (.value (.slice (some ⟨p, 0, none⟩) 4 4)) w := by
    simp [execOp, hx, Instr.sliceAt, run_underlying Tryd.underlying41, Instr.sureAddr, Instr.sliceBounds, run_size hi, hs, add_none]
  unfold OpRun
  rw [hrun]
  exact ⟨(), rfl, hA.holds hw, fun q hq => .inr ⟨q, hA q hq, rfl⟩, .refl _ _⟩
theorem ld_isnilU (o : Option Addr) (n c : Nat) (A : Facts) {x : Operand} (hx : ρ x = .slice o n c := by rfl) (hc : ρ (.const (.slice none 0 0)) = .slice none 0 0 := by rfl) :
    ∀ w, Sx.Holds w A → (execOp ρ ⟨dst, .binOp .eql 95 x (.const (.slice none 0 0)) 95, type, pos, after, guard⟩).run Tryd.prog w = .ok (.value (.bool o.isNone)) w := by
  intro w _
  simp [execOp, eqGuard, hx, hc, binOp, run_equal_slice_nil w 95 31 o n c Tryd.underlying95]
theorem build_u0 (A : Facts) : GivesOp Tryd.prog (execOp ρ ⟨dst, .buildSlice 95 0 #[], type, pos, after, guard⟩) A Nat (fun m => .slice (some ⟨m, 0, none⟩) 0 0) (fun m => [(m, .cells #[] 31)]) := by
  obtain ⟨i, z, hi, hs, _, hz, _⟩ := info_U5
  refine gives_alloc (F := []) id (.cells #[] 31) (fun w => ?_) (fun k => rfl) (fun _ h => by cases h)
  simp [execOp, Instr.buildSlice, run_underlying Tryd.underlying95, sizeOf, typeInfo, hi, Instr.fill, newRow]
  kernel_rfl
theorem build_u (n : Nat) (A : Facts) {x : Operand} (hx : ρ x = U n := by rfl) : GivesOp Tryd.prog (execOp ρ ⟨dst, .buildSlice 95 1 #[(0, x)], type, pos, after, guard⟩) A Nat (fun m => .slice (some ⟨m, 0, none⟩) 1 1) (fun m => [(m, .cells (ucs [n]).toArray 31)]) := by
  obtain ⟨i, z, hi, hs, _, hz, hzs⟩ := info_U5
  refine gives_alloc (F := []) id (.cells (ucs [n]).toArray 31) (fun w => ?_) (fun k => rfl) (fun _ h => by cases h)
  have hf : Instr.fill (fun j => some (j * 4, 4)) ((Array.range (1 * 4)).map (z.cells[· % z.cells.size]!)) [(0, U n)] = some (ucs [n]).toArray := by
    rw [ucs_1]
    have hsz : ((Array.range (1 * 4)).map (z.cells[· % z.cells.size]!)).size = 4 := by simp
    refine fill_sound (fun j => some (j * 4, 4)) [(0, U n)] ((Array.range (1 * 4)).map (z.cells[· % z.cells.size]!)).toList (cU n) ?_
    unfold fillL fillL
    simp only
    have e1 : Nat.beq (U n).cells.toList.length 4 = true := rfl
    have e2 : Nat.ble (0 * 4 + 4) ((Array.range (1 * 4)).map (z.cells[· % z.cells.size]!)).toList.length = true := by rw [Array.length_toList, hsz]; rfl
    rw [e1, e2]
    simp only [Bool.and_self, cond_true, Option.some.injEq]
    have e3 : (U n).cells.toList = cU n := rfl
    rw [e3]
    unfold setRange
    rw [Nat.zero_mul, List.take_zero, List.nil_append, show (cU n).length = 4 from rfl, List.drop_of_length_le (by rw [Array.length_toList, hsz]; decide), List.append_nil]
  have hb := run_buildSlice w 95 31 1 #[(0, U n)] (ucs [n]).toArray i z Tryd.underlying95 hi hz (by rw [hs]; decide) (by rw [hs]; decide) (by rw [hs]; exact hf)
  simp [execOp, hx, hb]
/-- 'append' of a row of numbers to a slice of no length and no room. -/
theorem own_appU (p : Nat) (l : List Nat) (e : TypeId) {A : Facts} (hA : Sub [(p, Obj.cells (ucs l).toArray e)] A) (hn : l.length ≤ 1000000) {x s : Operand} {o : Option Addr} (hx : ρ x = .slice o 0 0 := by rfl) (hs : ρ s = .slice (some ⟨p, 0, none⟩) l.length l.length := by rfl) :
    OwnOp Tryd.prog (execOp ρ ⟨dst, .call ⟨.builtin .append, #[x, s], #[95, 95]⟩, type, pos, after, guard⟩) A Unit 31 4 (fun _ => ucs l) := by
  intro w hw
  obtain ⟨i, z, hi, h1, hby, hz, hzs⟩ := info_U5
  have hsrc := u_src p l e hA w hw
  rw [← h1] at hsrc
  obtain ⟨y', w', m', g1, g2, g3, g4, g5, g6, g7, g8⟩ := append_buf (P := Tryd.prog) (ty := type) (m := 0) (c := []) (y := .slice o 0 0) Tryd.underlying95 hi hz (by rw [h1, hzs]) (by omega) (by omega) (.inl ⟨rfl, o, rfl⟩) hsrc (by rw [ucs_len]; simp; omega)
  unfold OpRun
  have hrun : (execOp ρ ⟨dst, .call ⟨.builtin .append, #[x, s], #[95, 95]⟩, type, pos, after, guard⟩).run Tryd.prog w = .ok (.value y') w' := by
    simp [execOp, resolve, invoke, builtin, hx, hs, g1]
  rw [hrun]
  refine ⟨(), ?_, ⟨g6, g7, g8, g3, fun k hk => g4 k hk (by omega)⟩⟩
  rw [List.nil_append, h1] at g2
  rcases g2 with ⟨e, o', e'⟩ | ⟨hm, sp, n, cap, k1, k2, k3, k4⟩
  · exact .inl ⟨e, o', e'⟩
  · refine .inr ⟨m' - 1, sp, n, cap, ?_, k1, k2, k3, k4⟩
    rcases g5 hm with e | e
    · exact absurd e hm
    · omega
end
end Go.Proofs.YtkibbcomfjhgpaaDoor

