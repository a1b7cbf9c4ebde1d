/- The reference of layer 7 over this translation: Sum, Leaf, Node; package hash: Node. Condition of the last: the table of round constants holds the round constants. -/
import Derived.Test.YtgbfolkpgmjaeaaDoorH7r
namespace Go.Proofs.YtgbfolkpgmjaeaaDoor
open Go.RowKit Sx
set_option maxRecDepth 100000

/-- A hash as bytes. -/
def bl (f : Nat → UInt8) : List UInt8 := (List.range 32).map f
theorem bl_len (f : Nat → UInt8) : (bl f).length = 32 := by simp [bl]
theorem nd_len (x y : Nat → UInt8) : ([1] ++ bl x ++ bl y).length = 65 := by simp [bl]
/-- A hash that lies in memory, as a slice. -/
def Byt.arr (p : Nat) (f : Nat → UInt8) : Byt where
  o := some ⟨p, 0, none⟩
  n := 32
  cap := 32
  l := bl f
  L := [(p, .cells (bsc f 32).toArray 28)]
  hl := bl_len f
  hc := Nat.le_refl _
  hs := fun _ => rfl
  h := fun w hw i hi => by
    have h1 := hw _ (List.mem_singleton.2 rfl)
    simp only at h1
    simp only [Option.getD_some, add_none, Nat.zero_add]
    simp only [World.cell?, h1]
    rw [List.getElem?_toArray, cl_get _ 32 0 i hi, Nat.zero_add]
    congr 3
    simp [bl, List.getD, hi]
section
variable {ρ : Operand → Value} {dst : Option Tmp} {type : TypeId} {pos : String} {after : Array Edge} {guard : Option (Nat × Bool)}
theorem give_arr (p : Nat) (f : Nat → UInt8) {A : Facts} (hA : Sub (Byt.arr p f).L A) {x : Operand} (hx : ρ x = .pointer (some ⟨p, 0, none⟩) := by rfl) :
    GivesOp Tryd.prog (execOp ρ ⟨dst, .slice 28 x none none none, type, pos, after, guard⟩) A Unit (fun _ => (Byt.arr p f).v) (fun _ => (Byt.arr p f).L) := by
  intro w hw
  obtain ⟨i, hi, hs, _, _⟩ := info_u8
  have hrun : (execOp ρ ⟨dst, .slice 28 x none none none, type, pos, after, guard⟩).run Tryd.prog w = .ok (.value (.slice (some ⟨p, 0, none⟩) 32 32)) w := by
    simp [execOp, hx, Instr.sliceAt, run_underlying Tryd.underlying28, Instr.sureAddr, Instr.sliceBounds, run_size hi, hs, add_none]
  unfold OpRun
  rw [hrun]
  exact ⟨(), rfl, hA.holds hw, fun q hq => .inr ⟨q, hA q hq, rfl⟩, .refl _ _⟩
/-- 'append' of something to a row that has no room. -/
theorem own_more (m : Nat) (l : List UInt8) (y : Byt) {A : Facts} (hm : Sub (Byt.row m l).L A) (hA : Sub y.L A) (h0 : 0 < y.n) (hn : l.length + y.n ≤ 1099511627776) {x s : Operand} (hx : ρ x = (Byt.row m l).v := by rfl) (hs : ρ s = y.v := by rfl) :
    OwnOp Tryd.prog (execOp ρ ⟨dst, .call ⟨.builtin .append, #[x, s], #[59, 59]⟩, type, pos, after, guard⟩) A Unit 5 1 (fun _ => bcs (l ++ y.l)) := by
  obtain ⟨i, hi, h1, hby, hz⟩ := info_u8
  intro w hw
  have hrow : w.heap[m]? = some (.cells (bcs l).toArray 5) := (hm.holds hw) _ (List.mem_singleton.2 rfl)
  have hsrc := y.src hA w hw
  rw [← h1] at hsrc
  unfold OpRun
  have hold : (Builtin.firstCells i.size l.length (.slice (some ⟨m, 0, none⟩) l.length l.length)).run Tryd.prog w.drew = .ok (bcs l).toArray w.drew := run_firstCells_some w.drew i.size l.length ⟨m, 0, none⟩ l.length l.length (bcs l) (by rw [h1, bcs_length, Nat.mul_one]) (row_cells (w := w.drew) hrow)
  have hcap : l.length + y.n ≤ grownCap w (l.length + y.n) l.length 5 := grownCap_ge w _ _ _
  have hfit : Builtin.nextslicecap (l.length + y.n) l.length * i.bytes ≤ 281474976710656 := by
    have := nextslicecap_le (need := l.length + y.n) (old := l.length) (by omega)
    rw [hby]; omega
  have hrun := run_append_grow_src w 59 59 type 5 i (.int .u8 0) Tryd.underlying59 hi hz (some ⟨m, 0, none⟩) l.length l.length (bcs l) hold y.v y.n (bcs y.l) hsrc (by omega) (by omega) hfit
  have hop : (execOp ρ ⟨dst, .call ⟨.builtin .append, #[x, s], #[59, 59]⟩, type, pos, after, guard⟩).run Tryd.prog w = .ok (.value (.slice (some ⟨w.heap.size, 0, none⟩) (l.length + y.n) (grownCap w (l.length + y.n) l.length 5))) (w.drew.alloc (.cells ((bcs l ++ bcs y.l).toArray ++ Builtin.zeroCells (Value.int .u8 0).cells (grownCap w (l.length + y.n) l.length 5 - (l.length + y.n))) 5)) := by
    have hx' : ρ x = .slice (some ⟨m, 0, none⟩) l.length l.length := hx
    simp [execOp, resolve, invoke, builtin, hx', hs, hrun]
  rw [hop]
  generalize hsp : Builtin.zeroCells (Value.int .u8 0).cells (grownCap w (l.length + y.n) l.length 5 - (l.length + y.n)) = sp
  have hss : sp.size = grownCap w (l.length + y.n) l.length 5 - (l.length + y.n) := by
    rw [← hsp, size_zeroCells]; show _ * 1 = _; omega
  generalize hob : Obj.cells ((bcs l ++ bcs y.l).toArray ++ sp) 5 = obj
  have hobj : obj = .cells (bcs (l ++ y.l) ++ sp.toList).toArray 5 := by
    rw [← hob, ← bcs_append]; congr 1; apply Array.ext'; simp
  have hh : (w.drew.alloc obj).heap = w.heap.push obj := rfl
  have e : (bcs (l ++ y.l)).length = l.length + y.n := by rw [bcs_length, List.length_append, y.hl]
  have e2 : sp.toList.length = sp.size := Array.length_toList
  refine ⟨(), .inr ⟨w.heap.size, sp.toList, l.length + y.n, grownCap w (l.length + y.n) l.length 5, Nat.le_refl _, ?_, rfl, by rw [e, Nat.mul_one], by rw [e, e2, hss]; omega⟩, ⟨rfl, rfl, rfl, by rw [hh, Array.size_push]; omega, fun k hk => by rw [hh, Array.getElem?_push, if_neg (Nat.ne_of_lt hk)]⟩⟩
  rw [hh, Array.getElem?_push, if_pos rfl, hobj]
theorem ld_touint {n : Nat} (h : n < 9223372036854775808) (A : Facts) {x : Operand} (hx : ρ x = .int .i64 (n : Int) := by rfl) :
    ∀ w, Sx.Holds w A → (execOp ρ ⟨dst, .convert 3 56 x, type, pos, after, guard⟩).run Tryd.prog w = .ok (.value (.int .u64 (n : Int))) w := by
  intro w _
  have hw := u64_wrap_nat (n := n) (by omega)
  have e : execOp ρ ⟨dst, .convert 3 56 x, type, pos, after, guard⟩ = (do let v ← convert 3 56 (ρ x); pure (.value v)) := rfl
  rw [e, hx]
  simp [convert, run_underlying Tryd.underlying3, run_underlying Tryd.underlying56, Conv.intToInt, hw]
end
theorem mul8z {k : Nat} (h : 0 < k) (hk : k < 1000) : IntKind.i64.wrap (8 * ((k : Int) - 1)) = ((8 * (k - 1) : Nat) : Int) := by
  rw [show (8 : Int) * ((k : Int) - 1) = ((8 * (k - 1) : Nat) : Int) by omega, wrap_nat (by omega)]

/-! The message. -/
section
variable {l : List UInt8} {n : Nat} (hl : l.length = n)
theorem sm_0 (l : List UInt8) : bcs l ++ bcs [128] = bcs (l ++ [128] ++ List.replicate 0 0) := by rw [bcs_append]; simp
theorem sm_s (l : List UInt8) (i : Nat) : bcs (l ++ [128] ++ List.replicate i 0) ++ bcs [0] = bcs (l ++ [128] ++ List.replicate (i + 1) 0) := by
  rw [bcs_append, List.replicate_succ', List.append_assoc (l ++ [128])]
theorem sm_len (l : List UInt8) (i : Nat) : lenB (bcs (l ++ [128] ++ List.replicate i 0)) 1 = l.length + 1 + i := by rw [lenb]; simp; omega
include hl
theorem sm_lt {i : Nat} (hi : i ≤ (119 - n % 64) % 64) (h : ((lenB (bcs (l ++ [128] ++ List.replicate i 0)) 1 : Int).tmod 64 != 56) = true) : i + 1 ≤ (119 - n % 64) % 64 := by
  rw [sm_len, show (((l.length + 1 + i : Nat) : Int)).tmod 64 = (((l.length + 1 + i) % 64 : Nat) : Int) from rfl] at h
  have h2 := bne_iff_ne.1 h
  omega
theorem sm_ge {i : Nat} (hi : i ≤ (119 - n % 64) % 64) (h : ((lenB (bcs (l ++ [128] ++ List.replicate i 0)) 1 : Int).tmod 64 != 56) = false) : i = (119 - n % 64) % 64 := by
  rw [sm_len, show (((l.length + 1 + i : Nat) : Int)).tmod 64 = (((l.length + 1 + i) % 64 : Nat) : Int) from rfl] at h
  have h2 : (((l.length + 1 + i) % 64 : Nat) : Int) = 56 := by simpa using h
  omega
theorem sm_ok {i : Nat} (h : n ≤ 1000000000) (hi : i ≤ (119 - n % 64) % 64) : (bcs (l ++ [128] ++ List.replicate i 0)).length + (bcs [0]).length ≤ 1099511627776 := by
  rw [bcs_length, bcs_length]; simp; omega
theorem sm_ok2 {k : Nat} {N : Nat} {b : UInt8} (h : n ≤ 1000000000) : (bcs (l ++ [128] ++ List.replicate ((119 - n % 64) % 64) 0 ++ (dgb N 8).take (8 - k))).length + (bcs [b]).length ≤ 1099511627776 := by
  rw [bcs_length, bcs_length]; simp [dgb_length]; omega
omit hl
theorem sm_1 (l : List UInt8) {i z N : Nat} (h : i = z) : bcs (l ++ [128] ++ List.replicate i 0) = bcs (l ++ [128] ++ List.replicate z 0 ++ (dgb N 8).take (8 - 8)) := by subst h; simp
theorem dgb_get (N : Nat) : ∀ (k j : Nat), j < k → (dgb N k)[j]? = some (byt N (k - 1 - j))
  | 0, _, h => absurd h (by omega)
  | k + 1, 0, _ => by show some _ = _; rw [show k + 1 - 1 - 0 = k by omega]
  | k + 1, j + 1, h => by
    show (dgb N k)[j]? = _
    rw [dgb_get N k j (by omega)]; congr 2; omega
theorem sm_t (p : List UInt8) (N : Nat) {k : Nat} (h : 0 < k) (hk : k ≤ 8) : bcs (p ++ (dgb N 8).take (8 - k)) ++ bcs [byt N (k - 1)] = bcs (p ++ (dgb N 8).take (8 - (k - 1))) := by
  rw [bcs_append, List.append_assoc]
  congr 2
  rw [show 8 - (k - 1) = (8 - k) + 1 by omega, List.take_add_one, dgb_get N 8 (8 - k) (by omega), show 8 - 1 - (8 - k) = k - 1 by omega]
  rfl
theorem sm_all (l : List UInt8) {k : Nat} (h : k = 0) : bcs (l ++ [128] ++ List.replicate ((119 - n % 64) % 64) 0 ++ (dgb (8 * n) 8).take (8 - k)) = bcs (l ++ tailF n) := by
  subst h
  congr 1
  rw [List.take_of_length_le (by rw [dgb_length]; decide)]
  simp [tailF]
theorem tail_len (n : Nat) : (tailF n).length = 1 + (119 - n % 64) % 64 + 8 := by simp [tailF, dgb_length]; omega
omit hl
theorem sm_L {k : Nat} (h : k = 0) : lenB (bcs (l ++ [128] ++ List.replicate ((119 - n % 64) % 64) 0 ++ (dgb (8 * n) 8).take (8 - k))) 1 = (l ++ tailF n).length := by
  rw [sm_all l h, lenb]
include hl
theorem ms_len : (l ++ tailF n).length % 64 = 0 ∧ (l ++ tailF n).length ≤ n + 80 := by
  rw [List.length_append, tail_len, hl]; omega
theorem sm_nb (h : n ≤ 1000000000) : (l ++ tailF n).length / 64 < 100000000 := by
  have := ms_len hl; omega
theorem sm_k {k i : Nat} (h0 : k = 0) (h : decide (((64 * i : Nat) : Int) < (lenB (bcs (l ++ [128] ++ List.replicate ((119 - n % 64) % 64) 0 ++ (dgb (8 * n) 8).take (8 - k))) 1 : Int)) = true) : i + 1 ≤ (l ++ tailF n).length / 64 := by
  rw [sm_L h0] at h
  have h1 := of_decide_eq_true h
  have := ms_len hl
  omega
theorem sm_kl {k i : Nat} (h0 : k = 0) (h : decide (((64 * i : Nat) : Int) < (lenB (bcs (l ++ [128] ++ List.replicate ((119 - n % 64) % 64) 0 ++ (dgb (8 * n) 8).take (8 - k))) 1 : Int)) = true) : 64 * i + 64 ≤ (l ++ tailF n).length := by
  have := sm_k hl h0 h
  have := ms_len hl
  omega
theorem sm_in {k i : Nat} (h0 : k = 0) (h : decide (((64 * i : Nat) : Int) < (lenB (bcs (l ++ [128] ++ List.replicate ((119 - n % 64) % 64) 0 ++ (dgb (8 * n) 8).take (8 - k))) 1 : Int)) = true) : 64 * i + 64 ≤ lenB (bcs (l ++ [128] ++ List.replicate ((119 - n % 64) % 64) 0 ++ (dgb (8 * n) 8).take (8 - k))) 1 := by
  rw [sm_L h0]; exact sm_kl hl h0 h
end
theorem sm_64 {i : Nat} (h : i < 100000000) : IntKind.i64.wrap (((64 * i : Nat) : Int) + 64) = ((64 * i + 64 : Nat) : Int) := by
  rw [show (((64 * i : Nat) : Int) + 64) = ((64 * i + 64 : Nat) : Int) by omega, wrap_nat (by omega)]
theorem ab_snoc (k : Nat) {c : Nat → UInt32} {l : List UInt8} (h : 64 * k + 64 ≤ l.length) : blk (ab k c l) ((l.drop (64 * k)).take (64 * k + 64 - 64 * k)) = ab (k + 1) c l := by
  have e : ab (k + 1) c l = ab 1 (ab k c (l.take (64 * k))) (l.drop (64 * k)) := by
    have := ab_app k 1 c (l.take (64 * k)) (l.drop (64 * k)) (by rw [List.length_take]; omega)
    rwa [List.take_append_drop] at this
  have e2 : ab k c l = ab k c (l.take (64 * k)) := by
    have := ab_app k 0 c (l.take (64 * k)) (l.drop (64 * k)) (by rw [List.length_take]; omega)
    rw [List.take_append_drop] at this
    exact this
  rw [e, e2, Nat.add_sub_cancel_left]
  rfl
theorem Byt.cutkk (y : Byt) {a b : Nat} (h : a ≤ b) (hb : b ≤ y.n) : (0 : Int) ≤ (a : Int) ∧ (a : Int) ≤ (b : Int) ∧ (b : Int) ≤ (y.cap : Int) := by have := y.hc; omega
theorem sm_sha (y : Byt) {k i : Nat} (h0 : k = 0) (hi : i ≤ (y.l ++ tailF y.n).length / 64) (h : decide (((64 * i : Nat) : Int) < (lenB (bcs (y.l ++ [128] ++ List.replicate ((119 - y.n % 64) % 64) 0 ++ (dgb (8 * y.n) 8).take (8 - k))) 1 : Int)) = false) : ws (ab i init8 (y.l ++ tailF y.n)) 8 = ws (sha y.l) 8 := by
  rw [sm_L h0] at h
  have h1 := of_decide_eq_false h
  have h2 := ms_len y.hl
  obtain rfl : i = (y.l ++ tailF y.n).length / 64 := by omega
  unfold sha
  rw [y.hl]
theorem sm_d0 (c : Nat → UInt32) : bsc (fun _ => 0) 32 = bsc (fun i => if i < 0 then dgF c i else 0) 32 := cl_ext fun j _ => by dsimp only; rw [if_neg (by omega)]
theorem sm_ds (c : Nat → UInt32) {j : Nat} (h : j < 32) : setRange (bsc (fun i => if i < j then dgF c i else 0) 32) (0 + (j : Int).toNat * 1) [v8 (c (j / 4) >>> UInt32.ofNat (24 - 8 * (j % 4))).toUInt8] = bsc (fun i => if i < j + 1 then dgF c i else 0) 32 := by
  rw [bsc_set _ _ rfl h]
  refine cl_ext fun i hi => ?_
  unfold upd
  dsimp only
  by_cases e : i = j
  · subst e; rw [if_pos rfl, if_pos (by omega)]; rfl
  · rw [if_neg e]
    by_cases h1 : i < j
    · rw [if_pos h1, if_pos (by omega)]
    · rw [if_neg h1, if_neg (by omega)]
theorem sm_dfin (c : Nat → UInt32) {j : Nat} (h : 32 ≤ j) (h2 : j ≤ 32) : H8 (fun i => if i < j then dgF c i else 0) = H8 (dgF c) := by
  obtain rfl : j = 32 := by omega
  unfold H8
  rw [show bsc (fun i => if i < 32 then dgF c i else 0) 32 = bsc (dgF c) 32 from cl_ext fun i hi => by dsimp only; rw [if_pos hi]]
theorem sm_sh (j : Nat) : IntKind.i64.wrap (24 - IntKind.i64.wrap (8 * (j : Int).tmod 4)) = ((24 - 8 * (j % 4) : Nat) : Int) := by
  rw [show (8 : Int) * (j : Int).tmod 4 = ((8 * (j % 4) : Nat) : Int) from rfl, wrap_nat (by omega), show (24 : Int) - ((8 * (j % 4) : Nat) : Int) = ((24 - 8 * (j % 4) : Nat) : Int) by omega, wrap_nat (by omega)]
theorem quo4_n (j : Nat) (h : j < 1000000) : IntKind.i64.wrap ((j : Int).tdiv 4) = ((j / 4 : Nat) : Int) := by
  rw [show (j : Int).tdiv 4 = ((j / 4 : Nat) : Int) from rfl, wrap_nat (by omega)]
theorem quo4_ok {j : Nat} (h : j < 32) : 0 ≤ IntKind.i64.wrap ((j : Int).tdiv 4) ∧ IntKind.i64.wrap ((j : Int).tdiv 4) < 8 := by
  rw [quo4_n j (by omega)]; omega

theorem t_sum (y : Byt) (hy0 : y.n ≤ 1000000000) (A : Facts) (hy : Sub y.L A) : Gives Tryd.prog 27 [y.v] A (Unit) (fun _ => H8 (dgF (sha y.l))) (fun _ => []) :=
  gives_of_vcF Tryd.mixed good_pontageref7_Sum (args := [(y.v, y.L)]) (B := []) (O := [.opt 1 [(0, .call Nat 0 (fun m => (Byt.row m []).v) (fun m => (Byt.row m []).L)), (2, .own Unit () 5 1 (fun _ => bcs y.l)), (3, .call Nat 0 (fun m => (Byt.row m [128]).v) (fun m => (Byt.row m [128]).L)), (4, .app 1 (bcs [128]))], .inv (Upto ((119 - y.n % 64) % 64)) (fun x : Upto ((119 - y.n % 64) % 64) => ⟨71, [(0, .v y.v y.L), (2, .p 0 0), (3, .a 3 1 1)], [(0, ⟨28, bsc (fun _ => 0) 32, []⟩), (3, ⟨bufT 5 1, bcs (y.l ++ [128] ++ List.replicate x.1 0), []⟩)], 20⟩) (fun x => ((119 - y.n % 64) % 64) - x.1) (fun x => [.both [.opt 3 [(1, .call Nat 0 (fun m => (Byt.row m [0]).v) (fun m => (Byt.row m [0]).L)), (2, .app 1 (bcs [0]))]] [.opt 4 [(2, .ld (.int .u64 (y.n : Int))), (3, .ld (.int .u64 ((8 * y.n : Nat) : Int)))], .inv (Upto 8) (fun u : Upto 8 => ⟨71, [(2, .p 0 0), (3, .a 3 1 1), (4, .v (.int .u64 ((8 * y.n : Nat) : Int)) []), (5, .v (.int .i64 ((u.1 : Int) - 1)) [])], [(0, ⟨28, bsc (fun _ => 0) 32, []⟩), (3, ⟨bufT 5 1, bcs ((y.l ++ [128] ++ List.replicate ((119 - y.n % 64) % 64) 0) ++ (dgb (8 * y.n) 8).take (8 - u.1)), []⟩)], 60⟩) (fun u => u.1) (fun u => [.both [.opt 8 [(3, .ld (.int .i64 ((8 * (u.1 - 1) : Nat) : Int))), (4, .ld (.int .u64 ((8 * (u.1 - 1) : Nat) : Int))), (6, .ld (v8 (byt (8 * y.n) (u.1 - 1)))), (7, .call Nat 0 (fun m => (Byt.row m [(byt (8 * y.n) (u.1 - 1))]).v) (fun m => (Byt.row m [(byt (8 * y.n) (u.1 - 1))]).L)), (8, .app 1 (bcs [(byt (8 * y.n) (u.1 - 1))]))]] [.puba 9 3 (bcs ((y.l ++ [128] ++ List.replicate ((119 - y.n % 64) % 64) 0) ++ (dgb (8 * y.n) 8).take (8 - u.1))) (fun v => [.opt 9 [(0, .ld (.agg (ws (init8) 8).toArray))], .inv (Upto ((y.l ++ tailF y.n).length / 64)) (fun k : Upto ((y.l ++ tailF y.n).length / 64) => ⟨71, [(2, .p 0 0), (3, .v (.slice (frO v) (lenB (bcs ((y.l ++ [128] ++ List.replicate ((119 - y.n % 64) % 64) 0) ++ (dgb (8 * y.n) 8).take (8 - u.1))) 1) (frC 1 v)) (frL 5 v)), (6, .p 63 0), (7, .v (.int .i64 ((64 * k.1 : Nat) : Int)) [])], [(0, ⟨28, bsc (fun _ => 0) 32, []⟩), (63, ⟨63, ws (ab k.1 init8 (y.l ++ tailF y.n)) 8, []⟩)], 120⟩) (fun k => ((y.l ++ tailF y.n).length / 64) - k.1) (fun k => [.both [.reg [(0, .ld (.agg (ws (ab k.1 init8 (y.l ++ tailF y.n)) 8).toArray)), (4, .ld (.int .i64 ((64 * k.1 + 64 : Nat) : Int))), (6, det (.agg (ws (blk (ab k.1 init8 (y.l ++ tailF y.n)) (((y.l ++ tailF y.n).drop (64 * k.1)).take (64 * k.1 + 64 - 64 * k.1))) 8).toArray))]] [.inv (Upto 32) (fun j : Upto 32 => ⟨71, [(2, .p 0 0), (6, .p 63 0), (8, .p 124 0), (9, .v (.int .i64 (j.1 : Int)) [])], [(0, ⟨28, bsc (fun _ => 0) 32, []⟩), (63, ⟨63, ws (sha y.l) 8, []⟩), (124, ⟨28, bsc (fun i => if i < j.1 then dgF (sha y.l) i else 0) 32, []⟩)], 160⟩) (fun j => 32 - j.1) (fun j => [.both [.opt 18 [(4, .ld (w32 (sha y.l (j.1 / 4)))), (8, .ld (.int .i64 (((24 - 8 * (j.1 % 4)) : Nat) : Int))), (9, .ld (.int .u64 (((24 - 8 * (j.1 % 4)) : Nat) : Int))), (11, .ld (v8 ((sha y.l (j.1 / 4)) >>> UInt32.ofNat (24 - 8 * (j.1 % 4))).toUInt8)), (13, .mk 0)]] [.opt 19 [(0, .ld (H8 (fun i => if i < j.1 then dgF (sha y.l) i else 0)))]]])]])])]])]])]) (.app (.nil _) (.app (hy) (.nil _))) (⟨build_0 _, fun _ => ⟨own_app y (by intro q h; simp [h]) (by omega), fun _ => ⟨build_1 128 _, fun q => ⟨⟨(Byt.row q [128]).src (by intro z h; have h : z ∈ (Byt.row q [128]).L := h; simp [h]), by rw [bcs_length, bcs_length, y.hl]; show y.n + 1 ≤ _; omega⟩, fun _ => ⟨⟨⟨0, Nat.zero_le _⟩, rfl, ⟨⟨rfl, fun _ h => h⟩, ⟨rfl, rfl, rfl⟩, ⟨rfl, rfl, rfl⟩, trivial⟩, ⟨rfl, rfl, nofun⟩, ⟨⟨rfl, rfl⟩, sm_0 y.l, nofun⟩, trivial⟩, fun x => ⟨⟨by decide, rfl⟩, ⟨fun h => ⟨build_1 0 _, fun q => ⟨⟨(Byt.row q [0]).src (by intro z h; have h : z ∈ (Byt.row q [0]).L := h; simp [h]), sm_ok y.hl hy0 x.2⟩, fun _ => ⟨⟨x.1 + 1, (sm_lt y.hl x.2 h)⟩, (by have := (sm_lt y.hl x.2 h); show ((119 - y.n % 64) % 64) - (x.1 + 1) < ((119 - y.n % 64) % 64) - x.1; omega), rfl, ⟨⟨rfl, fun _ h => h⟩, ⟨rfl, rfl, rfl⟩, ⟨rfl, rfl, rfl⟩, trivial⟩, ⟨rfl, rfl, nofun⟩, ⟨⟨rfl, rfl⟩, sm_s y.l x.1, nofun⟩, trivial⟩⟩⟩, fun h => ⟨ld_to64 (by omega) _, ⟨ld_mul64 (mul8 (by omega)) _, ⟨⟨⟨8, Nat.le_refl _⟩, rfl, ⟨⟨rfl, rfl, rfl⟩, ⟨rfl, rfl, rfl⟩, ⟨rfl, nofun⟩, ⟨rfl, nofun⟩, trivial⟩, ⟨rfl, rfl, nofun⟩, ⟨⟨rfl, rfl⟩, sm_1 y.l (sm_ge y.hl x.2 h), nofun⟩, trivial⟩, fun u => ⟨fun g => ⟨ld_mul (mul8z (ge_pos g) (by have := u.2; omega)) _, ⟨ld_touint (by have := u.2; omega) _, ⟨Int.natCast_nonneg _, ⟨ld_conv64 (byte_shr (8 * y.n) (by have := u.2; have := (ge_pos g); omega)) _, ⟨build_1 (byt (8 * y.n) (u.1 - 1)) _, fun q => ⟨⟨(Byt.row q [(byt (8 * y.n) (u.1 - 1))]).src (by intro z h; have h : z ∈ (Byt.row q [(byt (8 * y.n) (u.1 - 1))]).L := h; simp [h]), sm_ok2 y.hl hy0⟩, fun _ => ⟨⟨u.1 - 1, Nat.le_trans (Nat.sub_le _ _) u.2⟩, (by have := (ge_pos g); show u.1 - 1 < u.1; omega), rfl, ⟨⟨rfl, rfl, rfl⟩, ⟨rfl, rfl, rfl⟩, ⟨rfl, nofun⟩, ⟨congrArg _ (dg_dec (ge_pos g) (by have := u.2; omega)), nofun⟩, trivial⟩, ⟨rfl, rfl, nofun⟩, ⟨⟨rfl, rfl⟩, sm_t _ (8 * y.n) (ge_pos g) u.2, nofun⟩, trivial⟩⟩⟩⟩⟩⟩⟩, fun g => ⟨rfl, fun v => ⟨ld_bld8 u_arr8 i_word z_arr8 init8 _, ⟨⟨⟨0, Nat.zero_le _⟩, rfl, ⟨⟨rfl, rfl, rfl⟩, ⟨rfl, fun z h => List.mem_append.2 (.inl h)⟩, ⟨rfl, rfl, rfl⟩, ⟨rfl, nofun⟩, trivial⟩, ⟨rfl, rfl, nofun⟩, ⟨rfl, set8 (fun _ => 0) init8, nofun⟩, trivial⟩, fun k => ⟨fun hb => ⟨ld_a8 _, ⟨ld_add (sm_64 (by have := k.2; have := sm_nb y.hl hy0; omega)) _, ⟨(Byt.ofFr (bcs ((y.l ++ [128] ++ List.replicate ((119 - y.n % 64) % 64) 0) ++ (dgb (8 * y.n) 8).take (8 - u.1))) (y.l ++ tailF y.n) (sm_all y.l (ge_f g)) v).cutkk (by omega) (sm_in y.hl (ge_f g) hb), ⟨t_blk (ab k.1 init8 (y.l ++ tailF y.n)) ((Byt.ofFr (bcs ((y.l ++ [128] ++ List.replicate ((119 - y.n % 64) % 64) 0) ++ (dgb (8 * y.n) 8).take (8 - u.1))) (y.l ++ tailF y.n) (sm_all y.l (ge_f g)) v).sub (64 * k.1) (64 * k.1 + 64) (by omega) (sm_in y.hl (ge_f g) hb)) (Nat.add_sub_cancel_left _ _) _ (by intro z h; have h : z ∈ frL 5 v := h; simp [h]), fun _ => ⟨⟨k.1 + 1, (sm_k y.hl (ge_f g) hb)⟩, (by have := (sm_k y.hl (ge_f g) hb); show ((y.l ++ tailF y.n).length / 64) - (k.1 + 1) < ((y.l ++ tailF y.n).length / 64) - k.1; omega), rfl, ⟨⟨rfl, rfl, rfl⟩, ⟨rfl, fun _ h => h⟩, ⟨rfl, rfl, rfl⟩, ⟨congrArg _ (sm_64 (by have := k.2; have := sm_nb y.hl hy0; omega)), nofun⟩, trivial⟩, ⟨rfl, rfl, nofun⟩, ⟨rfl, (set8 _ _).trans (congrArg (fun f => ws f 8) (ab_snoc k.1 (sm_kl y.hl (ge_f g) hb))), nofun⟩, trivial⟩⟩⟩⟩⟩, fun hb => ⟨⟨⟨0, Nat.zero_le _⟩, rfl, ⟨⟨rfl, rfl, rfl⟩, ⟨rfl, rfl, rfl⟩, ⟨rfl, rfl, rfl⟩, ⟨rfl, nofun⟩, trivial⟩, ⟨rfl, rfl, nofun⟩, ⟨rfl, sm_sha y (ge_f g) k.2 hb, nofun⟩, ⟨rfl, sm_d0 _, nofun⟩, trivial⟩, fun j => ⟨fun hd => ⟨⟨by decide, rfl⟩, ⟨quo4_ok (by have := (lt_t (n := 32) hd); omega), ⟨cl_at (fun i => w32 (sha y.l i)) (n := 8) (j := j.1 / 4) (quo4_n j.1 (by have := j.2; omega)) (by have := (lt_t (n := 32) hd); omega), ⟨⟨by decide, rfl⟩, ⟨ld_sub (sm_sh j.1) _, ⟨ld_touint (by omega) _, ⟨Int.natCast_nonneg _, ⟨ld_u32_8 (shr32 (sha y.l (j.1 / 4)) (24 - 8 * (j.1 % 4)) (by omega)) _, ⟨⟨Int.natCast_nonneg _, by have := (lt_t (n := 32) hd); omega⟩, ⟨cl_in (fun i => v8 ((fun i => if i < j.1 then dgF (sha y.l) i else 0) i)) (n := 32) (j := j.1) rfl (lt_t (n := 32) hd), ⟨⟨j.1 + 1, (lt_t (n := 32) hd)⟩, (by have := (lt_t (n := 32) hd); show 32 - (j.1 + 1) < 32 - j.1; omega), rfl, ⟨⟨rfl, rfl, rfl⟩, ⟨rfl, rfl, rfl⟩, ⟨rfl, rfl, rfl⟩, ⟨congrArg _ (add1 (by have := (lt_t (n := 32) hd); omega)), nofun⟩, trivial⟩, ⟨rfl, rfl, nofun⟩, ⟨rfl, rfl, nofun⟩, ⟨rfl, sm_ds (sha y.l) (lt_t (n := 32) hd), nofun⟩, trivial⟩⟩⟩⟩⟩⟩⟩⟩⟩⟩⟩, fun hd => ⟨ld_h32 _, ⟨(), sm_dfin (sha y.l) (lt_f (n := 32) hd) j.2, nofun⟩⟩⟩⟩⟩⟩⟩⟩⟩⟩⟩⟩⟩⟩⟩⟩⟩⟩⟩)
theorem c_node (x y : Nat → UInt8) (A : Facts) (hA : EnvF RC A) : Gives Tryd.prog 24 [H8 x, H8 y] A (Unit) (fun _ => H8 (dgF (sha ([1] ++ bl x ++ bl y)))) (fun _ => []) :=
  gives_of_vcF Tryd.mixed good_hash_Node (args := [(H8 x, []), (H8 y, [])]) (B := A) (O := [.pub 1 [0, 1] (fun | [p, q] => [.reg [(0, .call Nat 0 (fun m => (Byt.row m [1]).v) (fun m => (Byt.row m [1]).L)), (1, .call Unit () (fun _ => (Byt.arr p x).v) (fun _ => (Byt.arr p x).L)), (2, .call Unit () (fun _ => (Byt.arr q y).v) (fun _ => (Byt.arr q y).L)), (3, .call (Nat × Nat) (0, 0) (fun k => .slice (some ⟨k.1, 0, none⟩) 3 3) (fun k => (k.1, .cells #[(Byt.row k.2 [1]).v, (Byt.arr p x).v, (Byt.arr q y).v] 59) :: ((Byt.row k.2 [1]).L ++ ((Byt.arr p x).L ++ (Byt.arr q y).L)))), (4, frv (bcs ([1] ++ bl x ++ bl y))), (5, det (H8 (dgF (sha ([1] ++ bl x ++ bl y)))))]] | _ => [])]) (.app ((.refl _)) (.app (.nil _) (.app (.nil _) (.nil _)))) (fun p q => ⟨build_1 1 _, fun m => ⟨give_arr p x (by intro z h; have e : z = (p, Obj.cells (H8 x).cells 28) := List.mem_singleton.1 h; subst e; simp), fun _ => ⟨give_arr q y (by intro z h; have e : z = (q, Obj.cells (H8 y).cells 28) := List.mem_singleton.1 h; subst e; simp), fun _ => ⟨build_r3 (fun k => (k, m)) (Byt.row m [1]) (Byt.arr p x) (Byt.arr q y) _ (by intro z h; have h : z ∈ (Byt.row m [1]).L := h; simp [h]) (by intro z h; have h1 : z ∈ (Byt.arr p x).L := h; simp [h1]) (by intro z h; have h1 : z ∈ (Byt.arr q y).L := h; simp [h1]) (fun _ => rfl) (fun _ => rfl), fun k => ⟨(c_cat3 k.1 (Byt.row k.2 [1]) (Byt.arr p x) (Byt.arr q y) (show 1 ≤ 100000000000 by decide) (show 32 ≤ 100000000000 by decide) (show 32 ≤ 100000000000 by decide) _ (fun z h => List.mem_append.2 (.inr (by simpa using h)))).gives, fun v => ⟨c_sum (Byt.fr ([1] ++ bl x ++ bl y) v) (by rw [Byt.fr_n]; show (([1] ++ bl x ++ bl y).length) ≤ _; rw [nd_len]; decide) _ (hA.app _) (by intro z h; have h : z ∈ frL 5 v := h; simp [h]), fun _ => ⟨(), rfl, nofun⟩⟩⟩⟩⟩⟩⟩)
theorem t_node (x y : Nat → UInt8) (A : Facts) : Gives Tryd.prog 29 [H8 x, H8 y] A (Unit) (fun _ => H8 (dgF (sha ([1] ++ bl x ++ bl y)))) (fun _ => []) :=
  gives_of_vcF Tryd.mixed good_pontageref7_Node (args := [(H8 x, []), (H8 y, [])]) (B := []) (O := [.pub 1 [0, 1] (fun | [p, q] => [.reg [(0, .call Nat 0 (fun m => (Byt.row m [1]).v) (fun m => (Byt.row m [1]).L)), (1, .call Unit () (fun _ => (Byt.arr p x).v) (fun _ => (Byt.arr p x).L)), (2, .own Unit () 5 1 (fun _ => bcs ([1] ++ bl x))), (3, .call Unit () (fun _ => (Byt.arr q y).v) (fun _ => (Byt.arr q y).L)), (4, .appf 32 (bcs (bl y))), (5, det (H8 (dgF (sha ([1] ++ bl x ++ bl y)))))]] | _ => [])]) (.app (.nil _) (.app (.nil _) (.app (.nil _) (.nil _)))) (fun p q => ⟨build_1 1 _, fun m => ⟨give_arr p x (by intro z h; have e : z = (p, Obj.cells (H8 x).cells 28) := List.mem_singleton.1 h; subst e; simp), fun _ => ⟨own_more m [1] (Byt.arr p x) (by intro z h; have h : z ∈ (Byt.row m [1]).L := h; simp [h]) (by intro z h; have h1 : z ∈ (Byt.arr p x).L := h; simp [h1]) (show 0 < 32 by decide) (show 1 + 32 ≤ 1099511627776 by decide), fun _ => ⟨give_arr q y (by intro z h; have e : z = (q, Obj.cells (H8 y).cells 28) := List.mem_singleton.1 h; subst e; simp), fun _ => ⟨⟨(Byt.arr q y).src (by intro z h; have h1 : z ∈ (Byt.arr q y).L := h; simp [h1]), by rw [bcs_length, bcs_length, List.length_append, bl_len, bl_len]; decide⟩, fun v => ⟨t_sum (Byt.ofFr (bcs ([1] ++ bl x) ++ bcs (bl y)) ([1] ++ bl x ++ bl y) (bcs_append _ _) v) (by show lenB (bcs ([1] ++ bl x) ++ bcs (bl y)) 1 ≤ _; rw [bcs_append, lenb, nd_len]; decide) _ (by intro z h; have h : z ∈ frL 5 v := h; simp [h]), fun _ => ⟨(), rfl, nofun⟩⟩⟩⟩⟩⟩⟩)
end Go.Proofs.YtgbfolkpgmjaeaaDoor

