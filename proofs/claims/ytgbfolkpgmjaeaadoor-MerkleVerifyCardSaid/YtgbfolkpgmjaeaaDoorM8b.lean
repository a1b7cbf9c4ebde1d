/- Layer 8 without trees, more: Verify, EqualHashes, HashOf, leaves, the reference's Proof. Condition, where it is named: the table of round constants holds the round constants. -/
import Derived.Test.YtgbfolkpgmjaeaaDoorM8a
namespace Go.Proofs.YtgbfolkpgmjaeaaDoor
open Go.RowKit Sx
set_option maxRecDepth 100000

theorem ver_o {root : Hx} {n i : Int} {x : Hx} {p : List Hx} (h : i < 0) : Value.bool false = .bool (verB root n i x p) := by unfold verB; rw [if_pos (.inl h)]
theorem ver_p {root : Hx} {n i : Int} {x : Hx} {p : List Hx} (h : n ≤ i) : Value.bool false = .bool (verB root n i x p) := by unfold verB; rw [if_pos (.inr h)]
theorem ver_n {root : Hx} {n i : Nat} {x : Hx} {p : List Hx} (h : i < n) (hu : upR n i x p.reverse = none) : Value.bool false = .bool (verB root n i x p) := by
  unfold verB; rw [if_neg (by omega), Int.toNat_natCast, Int.toNat_natCast, hu]
theorem ver_s {root : Hx} {n i : Nat} {x r : Hx} {p : List Hx} (h : i < n) (hu : upR n i x p.reverse = some r) : Value.bool (eqH r root) = .bool (verB root n i x p) := by
  unfold verB; rw [if_neg (by omega), Int.toNat_natCast, Int.toNat_natCast, hu]
theorem getD_some {o : Option Hx} {r : Hx} (h : o = some r) : o.getD H0 = r := by rw [h]; rfl
theorem lt0_f (i : Nat) : decide ((i : Int) < 0) = false := by apply decide_eq_false; omega
theorem ge_f' {i n : Nat} (h : i < n) : decide ((i : Int) ≥ (n : Int)) = false := by apply decide_eq_false; omega
theorem neq_self (f : Hx) : (!(cellsEq (bsc f 32) (bsc f 32))) = false := by rw [bsc_self]; rfl
theorem eqH_self (f : Hx) : eqH f f = true := bsc_self f 32
theorem ver_true {root : Hx} {l : List Hx} {n i : Nat} {p : List Hx} (hl : l.length = n) (hi : i < n) (hr : root = rootF l) (hp : p = proofF l i) : verB root n i (l.getD i H0) p = true := by
  subst hr hp hl
  unfold verB
  rw [if_neg (by omega), Int.toNat_natCast, Int.toNat_natCast, up_proof _ l i rfl hi]
  exact eqH_self _
theorem ver_out {root : Hx} {n i : Int} {x : Hx} {p : List Hx} (h : i < 0 ∨ n ≤ i) : verB root n i x p = false := by unfold verB; rw [if_pos h]

/-! HashOf. -/
/-- Byte j of a number. -/
def zb (z : Int) (j : Nat) : UInt8 := UInt8.ofNat ((IntKind.u64.wrap z).toNat / 2 ^ (8 * j))
def hofP (z : Int) (k j : Nat) : UInt8 := if j < k then zb z j else 0
def hof (z : Int) : Hx := hofP z 8
theorem u64_range (z : Int) : 0 ≤ IntKind.u64.wrap z ∧ IntKind.u64.wrap z < 18446744073709551616 := by
  simp [IntKind.wrap, IntKind.bits, IntKind.signed]; omega
theorem hof_b (z : Int) {j : Nat} (hj : j < 8) : IntKind.u8.wrap ((IntKind.u64.wrap z).fdiv (2 ^ (min ((8 * j : Nat) : Int).toNat IntKind.u64.bits))) = ((zb z j).toNat : Int) := by
  obtain ⟨h0, h1⟩ := u64_range z
  obtain ⟨n, hn⟩ := Int.eq_ofNat_of_zero_le h0
  rw [Int.toNat_natCast, Nat.min_eq_left (by show 8 * j ≤ 64; omega)]
  unfold zb
  rw [hn, Int.toNat_natCast, UInt8.toNat_ofNat']
  rw [show ((2 : Int) ^ (8 * j)) = ((2 ^ (8 * j) : Nat) : Int) by simp, show ((n : Int).fdiv ((2 ^ (8 * j) : Nat) : Int)) = ((n / 2 ^ (8 * j) : Nat) : Int) from (Int.ofNat_fdiv n (2 ^ (8 * j))).symm]
  simp [IntKind.wrap, IntKind.bits, IntKind.signed]
theorem mul8n {j : Nat} (h : j < 1000) : IntKind.i64.wrap (8 * (j : Int)) = ((8 * j : Nat) : Int) := by
  rw [show (8 : Int) * (j : Int) = ((8 * j : Nat) : Int) by omega, wrap_nat (by omega)]
theorem hof_s (z : Int) {k : Nat} (hk : k < 32) : setRange (bsc (hofP z k) 32) (0 + (k : Int).toNat * 1) [v8 (zb z k)] = bsc (hofP z (k + 1)) 32 := by
  rw [bsc_set _ _ rfl hk]
  refine cl_ext fun j hj => ?_
  unfold upd hofP
  by_cases e : j = k
  · subst e; rw [if_pos rfl, if_pos (Nat.lt_succ_self _)]
  · rw [if_neg e]
    by_cases h1 : j < k
    · rw [if_pos h1, if_pos (show j < k + 1 by omega)]
    · rw [if_neg h1, if_neg (show ¬ j < k + 1 by omega)]
theorem hof_0 (z : Int) : bsc (fun _ => 0) 32 = bsc (hofP z 0) 32 := cl_ext fun j hj => by unfold hofP; rw [if_neg (by omega)]
theorem hof_8 {z : Int} {k : Nat} (h : k ≤ 8) (h2 : 8 ≤ k) : H8 (hofP z k) = H8 (hof z) := by rw [show k = 8 by omega]; rfl

/-! Slices of numbers. -/
structure Iss where
  o : Option Addr
  n : Nat
  cap : Nat
  l : List Int
  L : Facts
  hl : l.length = n
  hc : n ≤ cap
  hs : 0 < n → o.isSome = true
  h : ∀ w, Sx.Holds w L → ∀ i, i < n → w.cell? ((o.getD ⟨0, 0, none⟩).add i) = some (.int .i64 (l.getD i 0))
abbrev Iss.v (y : Iss) : Value := .slice y.o y.n y.cap
theorem Iss.idx (y : Iss) {i : Int} (h0 : 0 ≤ i) (h1 : i < y.n) : idxOk y.o i y.n := by
  have := y.hs (by omega)
  cases e : y.o with
  | none => rw [e] at this; cases this
  | some a => exact ⟨h0, h1⟩
theorem Iss.load (y : Iss) {j : Int} (i : Nat) (e : j = i) (hi : i < y.n) {A : Facts} (hA : Sub y.L A) : ∀ w, Sx.Holds w A → (loadVar 3 ((y.o.getD ⟨0, 0, none⟩).add (j.toNat * 1))).run Tryd.prog w = .ok (.int .i64 (y.l.getD i 0)) w := by
  intro w hw
  subst e
  have hc := y.h w (hA.holds hw) i hi
  simp only [Int.toNat_natCast, Nat.mul_one]
  simp only [loadVar, Sem.run_bind, Tryd.isAgg3, Result.andThen_ok, Bool.false_eq_true, if_false, run_load, hc]
/-- The leaves of a list of numbers. -/
abbrev lvs (l : List Int) : List Hx := l.map hof
theorem lvs_len (v : Iss) : (lvs v.l).length = v.n := by rw [List.length_map, v.hl]
theorem lv_next (v : Iss) {k : Nat} (hk : k < v.n) : hcs (lvs (v.l.take k)) ++ bsc (hof (v.l.getD k 0)) 32 = hcs (lvs (v.l.take (k + 1))) := by
  have h : k < v.l.length := by rw [v.hl]; exact hk
  rw [← hcs_1, ← hcs_app]
  congr 1
  simp only [lvs, List.take_add_one, List.map_append]
  simp [h, List.getD]
theorem lv_end (v : Iss) {k : Nat} (_hk : k ≤ v.n) (h : v.n ≤ k) : hcs (lvs (v.l.take k)) = hcs (lvs v.l) := by rw [List.take_of_length_le (by rw [v.hl]; exact h)]
theorem lv_get (l : List Int) (i : Nat) (h : i < l.length) : (lvs l).getD i H0 = hof (l.getD i 0) := by simp [lvs, List.getD, h]
section
variable {ρ : Operand → Value} {dst : Option Tmp} {type : TypeId} {pos : String} {after : Array Edge} {guard : Option (Nat × Bool)}
/-- A nil slice is nobody's. -/
theorem own_nil (e : TypeId) (sz : Nat) (A : Facts) (hρ : ρ (.const (.slice none 0 0)) = .slice none 0 0 := by rfl) : OwnOp Tryd.prog (execOp ρ ⟨dst, .assign (.const (.slice none 0 0)), type, pos, after, guard⟩) A Unit e sz (fun _ => []) := by
  intro w _
  have hrun : (execOp ρ ⟨dst, .assign (.const (.slice none 0 0)), type, pos, after, guard⟩).run Tryd.prog w = .ok (.value (.slice none 0 0)) w := by simp [execOp, hρ]
  unfold OpRun
  rw [hrun]
  exact ⟨(), .inl ⟨rfl, none, rfl⟩, .refl _ _⟩
/-- A row of one hash, as what is appended. -/
theorem row_src (m : Nat) (h : Hx) {A : Facts} (hA : Sub [(m, Obj.cells (bsc h 32).toArray 28)] A) : ∀ w, Sx.Holds w A → Src Tryd.prog 32 22 (.slice (some ⟨m, 0, none⟩) 1 1) 1 (bsc h 32) w := by
  intro w hw
  refine Src.ofSlice w Tryd.underlying22 ⟨m, 0, none⟩ 1 1 _ (by rw [bsc_len]) (fun j u hj => ?_) (bsc_one h)
  have h1 := hA.holds hw _ (List.mem_singleton.2 rfl)
  simp only at h1
  rw [add_none, Nat.zero_add]
  simp only [World.cell?, h1]
  simpa using hj
theorem row_one (m : Nat) (h : Hx) : Sub [(m, Obj.cells (bsc h 32).toArray 28)] [(m, Obj.cells (bsc h 32).toArray 28)] := .refl _
/-- 'append' of a hash to a slice of hashes that is the whole of the thing. -/
theorem app_h {l : List Hx} {h : Hx} {A : Facts} {x : FrX (hcs l)} {m : Nat} (hA : Sub [(m, Obj.cells (bsc h 32).toArray 28)] A) (hn : l.length ≤ 1000000) {X Y : Operand} (hx : ρ X = .slice (frO x) (lenB (hcs l) 32) (frC 32 x) := by rfl) (hy : ρ Y = .slice (some ⟨m, 0, none⟩) 1 1 := by rfl) :
    GivesT Tryd.prog (execOp ρ ⟨dst, .call ⟨.builtin .append, #[X, Y], #[22, 22]⟩, type, pos, after, guard⟩) A (fun F => F = frL 28 x ∧ FrOk 32 x) (FrX (hcs l ++ bsc h 32)) (fun y => .slice (frO y) (lenB (hcs l ++ bsc h 32) 32) (frC 32 y)) (fun _ => []) (fun y F => F = frL 28 y ∧ FrOk 32 y) := by
  refine givesT_of fun F0 hT0 => ?_
  obtain ⟨rfl, hok⟩ := hT0
  obtain ⟨i, z, hi, hs, hby, hz, hzs⟩ := info_h
  have h := app_thing (P := Tryd.prog) (ρ := ρ) (dst := dst) (type := type) (pos := pos) (after := after) (guard := guard) (A := A) (F0 := frL 28 x) (x := x) (n := 1) (G := fun y => frL 28 y) (xs := bsc h 32) (X := X) (Y := Y)
    Tryd.underlying22 hi hz (by rw [hzs, hs]) (by omega) (by omega) (by rw [hs]; exact hx) hy (by rw [hs, lenB_h, hcs_len]) (by rw [hs]; exact hok) (by rw [hs]; exact row_src m _ hA) (by rw [hcs_len, bsc_len]; omega) (fun q hq => hq) (fun y q hq => .inl hq)
  rw [hs] at h
  intro w F hT hA' hF hap
  refine OpRunT.mono (h w F hT hA' hF hap) ?_
  rintro v w' ⟨y, F', e, ⟨g1, g1', _⟩, g2⟩
  exact ⟨y, F', e, ⟨g1, g1'⟩, g2⟩
end
abbrev UptoB (n : Nat) : Type := { i : Nat // i ≤ n }
theorem eqh_len {y z : Hss} (h : y.l = z.l) : y.n = z.n := by rw [← y.hl, ← z.hl, h]
theorem eqh_n {y z : Hss} (h : y.l = z.l) : (!((y.n : Int) == (z.n : Int))) = false := by rw [eqh_len h]; simp
theorem eqh_l {y z : Hss} (h : y.l = z.l) (i : Nat) (hi : i < y.n) {A : Facts} (hA : Sub z.L A) : ∀ w, Sx.Holds w A → (loadVar 28 ((z.o.getD ⟨0, 0, none⟩).add ((i : Int).toNat * 32))).run Tryd.prog w = .ok (H8 (y.l.getD i H0)) w := by
  rw [h]; exact z.load i rfl (by rw [← eqh_len h]; exact hi) hA
theorem pr_nil (y : Hss) (i : Nat) (h : y.n < 2) : hcs (proofF y.l i) = [] := by rw [proof_0 (by rw [y.hl]; exact h)]; rfl
theorem pr_sl (y : Hss) (i : Nat) (h : y.n < 2) : Value.slice none 0 0 = .slice (frO (.inl (⟨pr_nil y i h⟩, none) : FrX (hcs (proofF y.l i)))) (lenB (hcs (proofF y.l i)) 32) (frC 32 (.inl (⟨pr_nil y i h⟩, none) : FrX (hcs (proofF y.l i)))) := by
  rw [show lenB (hcs (proofF y.l i)) 32 = 0 by rw [pr_nil y i h]; rfl]; rfl
theorem pr_le (y : Hss) (i : Nat) (h : y.n ≤ 1000000) : (proofF y.l i).length ≤ 1000000 := Nat.le_trans (proof_len _ y.l i rfl) (by rw [y.hl]; exact h)
theorem frS {c c' : List Value} (e : c = c') (x : FrX c) : Value.slice (frO x) (lenB c 32) (frC 32 x) = .slice (frO (frCast e x)) (lenB c' 32) (frC 32 (frCast e x)) := by subst e; rfl
theorem pr_l (y : Hss) {i : Nat} (h : 2 ≤ y.n) (hs : i < spl y.n) : hcs (proofF (y.sub 0 (spl y.n) (Nat.zero_le _) (Nat.le_of_lt (spl_lt h))).l i) ++ bsc (rootF (y.sub (spl y.n) y.n (Nat.le_of_lt (spl_lt h)) (Nat.le_refl _)).l) 32 = hcs (proofF y.l i) := by
  rw [← hcs_1, ← hcs_app]
  show hcs (proofF ((y.l.drop 0).take (spl y.n - 0)) i ++ [rootF ((y.l.drop (spl y.n)).take (y.n - spl y.n))]) = _
  rw [List.drop_zero, Nat.sub_zero, List.take_of_length_le (l := y.l.drop (spl y.n)) (by simp [y.hl])]
  conv => rhs; rw [proof_l (l := y.l) (by rw [y.hl]; exact h) (by rw [y.hl]; exact hs)]
  rw [y.hl]
theorem pr_r (y : Hss) {i : Nat} (h : 2 ≤ y.n) (hs : spl y.n ≤ i) : hcs (proofF (y.sub (spl y.n) y.n (Nat.le_of_lt (spl_lt h)) (Nat.le_refl _)).l (i - spl y.n)) ++ bsc (rootF (y.sub 0 (spl y.n) (Nat.zero_le _) (Nat.le_of_lt (spl_lt h))).l) 32 = hcs (proofF y.l i) := by
  rw [← hcs_1, ← hcs_app]
  show hcs (proofF ((y.l.drop (spl y.n)).take (y.n - spl y.n)) (i - spl y.n) ++ [rootF ((y.l.drop 0).take (spl y.n - 0))]) = _
  rw [List.drop_zero, Nat.sub_zero, List.take_of_length_le (l := y.l.drop (spl y.n)) (by simp [y.hl])]
  conv => rhs; rw [proof_r (l := y.l) (by rw [y.hl]; exact h) (by rw [y.hl]; omega)]
  rw [y.hl]
theorem c_ver_o (root x : Hx) (n i : Int) (y : Hss) (A : Facts) (_hA : EnvF RC A) (hy : Sub y.L A) (h : i < 0) : Gives Tryd.prog 21 [H8 root, .int .i64 n, .int .i64 i, H8 x, y.v] A (Unit) (fun _ => .bool (verB root n i x y.l)) (fun _ => []) :=
  gives_of_vcF Tryd.mixed good_merkle_Verify (args := [(H8 root, []), (.int .i64 n, []), (.int .i64 i, []), (H8 x, []), (y.v, y.L)]) (B := A) (O := [.reg [(3, .no), (4, .no), (5, .no), (6, .yes)], .yes]) (.app ((.refl _)) (.app (.nil _) (.app (.nil _) (.app (.nil _) (.app (.nil _) (.app (hy) (.nil _))))))) (⟨gft (decide_eq_true h), ⟨gft (decide_eq_true h), ⟨gft (decide_eq_true h), ⟨(decide_eq_true h), ⟨rfl, ⟨(), ver_o h, nofun⟩⟩⟩⟩⟩⟩)
theorem c_ver_p (root x : Hx) (n i : Int) (y : Hss) (A : Facts) (_hA : EnvF RC A) (hy : Sub y.L A) (h0 : ¬ i < 0) (h : n ≤ i) : Gives Tryd.prog 21 [H8 root, .int .i64 n, .int .i64 i, H8 x, y.v] A (Unit) (fun _ => .bool (verB root n i x y.l)) (fun _ => []) :=
  gives_of_vcF Tryd.mixed good_merkle_Verify (args := [(H8 root, []), (.int .i64 n, []), (.int .i64 i, []), (H8 x, []), (y.v, y.L)]) (B := A) (O := [.reg [(3, .yes), (4, .yes), (5, .yes), (6, .no)], .yes]) (.app ((.refl _)) (.app (.nil _) (.app (.nil _) (.app (.nil _) (.app (.nil _) (.app (hy) (.nil _))))))) (⟨gff (decide_eq_false h0), ⟨gff (decide_eq_false h0), ⟨gff (decide_eq_false h0), ⟨(decide_eq_false h0), ⟨(decide_eq_true h), ⟨(), ver_p h, nofun⟩⟩⟩⟩⟩⟩)
theorem c_ver_n (root x : Hx) (n i : Nat) (y : Hss) (A : Facts) (hA : EnvF RC A) (hy : Sub y.L A) (hn : n ≤ 9223372036854775807) (hy0 : y.n ≤ 64) (h : i < n) (hu : (upR n i x y.l.reverse) = none) : Gives Tryd.prog 21 [H8 root, .int .i64 n, .int .i64 i, H8 x, y.v] A (Unit) (fun _ => .bool (verB root n i x y.l)) (fun _ => []) :=
  gives_of_vcF Tryd.mixed good_merkle_Verify (args := [(H8 root, []), (.int .i64 n, []), (.int .i64 i, []), (H8 x, []), (y.v, y.L)]) (B := A) (O := [.reg [(3, .yes), (4, .yes), (5, .yes), (6, .no)], .no, .reg [(2, .ld (H8 x)), (4, det (upV (upR n i x y.l.reverse)))], .reg [(2, .no), (3, .no), (4, .no), (5, .no)]]) (.app ((.refl _)) (.app (.nil _) (.app (.nil _) (.app (.nil _) (.app (.nil _) (.app (hy) (.nil _))))))) (⟨gff (lt0_f i), ⟨gff (lt0_f i), ⟨gff (lt0_f i), ⟨(lt0_f i), ⟨(ge_f' h), ⟨ld_h32 x, ⟨c_rfp_any x _ n i y rfl (by omega) (by omega) h hn _ (hA.app _) (by intro q h; simp [h]), fun _ => ⟨gtf (by show (upR n i x y.l.reverse).isSome = false; rw [hu]; rfl), ⟨gtf (by show (upR n i x y.l.reverse).isSome = false; rw [hu]; rfl), ⟨gtf (by show (upR n i x y.l.reverse).isSome = false; rw [hu]; rfl), ⟨(by show (upR n i x y.l.reverse).isSome = false; rw [hu]; rfl), ⟨(), ver_n h hu, nofun⟩⟩⟩⟩⟩⟩⟩⟩⟩⟩⟩⟩)
theorem c_ver_s (root x : Hx) (n i : Nat) (y : Hss) (A : Facts) (hA : EnvF RC A) (hy : Sub y.L A) (hn : n ≤ 9223372036854775807) (hy0 : y.n ≤ 64) (h : i < n) (r : Hx) (hu : (upR n i x y.l.reverse) = some r) : Gives Tryd.prog 21 [H8 root, .int .i64 n, .int .i64 i, H8 x, y.v] A (Unit) (fun _ => .bool (verB root n i x y.l)) (fun _ => []) :=
  gives_of_vcF Tryd.mixed good_merkle_Verify (args := [(H8 root, []), (.int .i64 n, []), (.int .i64 i, []), (H8 x, []), (y.v, y.L)]) (B := A) (O := [.reg [(3, .yes), (4, .yes), (5, .yes), (6, .no)], .no, .reg [(2, .ld (H8 x)), (4, det (upV (upR n i x y.l.reverse)))], .reg [(2, .yes), (3, .yes), (4, .yes), (5, .yes)]]) (.app ((.refl _)) (.app (.nil _) (.app (.nil _) (.app (.nil _) (.app (.nil _) (.app (hy) (.nil _))))))) (⟨gff (lt0_f i), ⟨gff (lt0_f i), ⟨gff (lt0_f i), ⟨(lt0_f i), ⟨(ge_f' h), ⟨ld_h32 x, ⟨c_rfp_any x _ n i y rfl (by omega) (by omega) h hn _ (hA.app _) (by intro q h; simp [h]), fun _ => ⟨gtt (by show (upR n i x y.l.reverse).isSome = true; rw [hu]; rfl), ⟨gtt (by show (upR n i x y.l.reverse).isSome = true; rw [hu]; rfl), ⟨⟨gtt (by show (upR n i x y.l.reverse).isSome = true; rw [hu]; rfl), eqT_api_Hash rfl rfl⟩, ⟨(by show (upR n i x y.l.reverse).isSome = true; rw [hu]; rfl), ⟨(), by rw [← ver_s h hu, ← getD_some hu]; rfl, nofun⟩⟩⟩⟩⟩⟩⟩⟩⟩⟩⟩⟩)
theorem c_ver_any (root x : Hx) (n i : Int) (y : Hss) (A : Facts) (hA : EnvF RC A) (hy : Sub y.L A) (hn : n ≤ 9223372036854775807) (hy0 : y.n ≤ 64) : Gives Tryd.prog 21 [H8 root, .int .i64 n, .int .i64 i, H8 x, y.v] A Unit (fun _ => .bool (verB root n i x y.l)) (fun _ => []) := by
  by_cases h0 : i < 0
  · exact c_ver_o root x n i y A hA hy h0
  by_cases h : n ≤ i
  · exact c_ver_p root x n i y A hA hy h0 h
  obtain ⟨i, rfl⟩ := Int.eq_ofNat_of_zero_le (show 0 ≤ i by omega)
  obtain ⟨n, rfl⟩ := Int.eq_ofNat_of_zero_le (show 0 ≤ n by omega)
  cases hu : upR n i x y.l.reverse with
  | none => exact c_ver_n root x n i y A hA hy (by omega) hy0 (by omega) hu
  | some r => exact c_ver_s root x n i y A hA hy (by omega) hy0 (by omega) r hu
theorem t_ver_o (root x : Hx) (n i : Int) (y : Hss) (A : Facts) (hy : Sub y.L A) (h : i < 0) : Gives Tryd.prog 22 [H8 root, .int .i64 n, .int .i64 i, H8 x, y.v] A (Unit) (fun _ => .bool (verB root n i x y.l)) (fun _ => []) :=
  gives_of_vcF Tryd.mixed good_pontageref8_Verify (args := [(H8 root, []), (.int .i64 n, []), (.int .i64 i, []), (H8 x, []), (y.v, y.L)]) (B := A) (O := [.reg [(3, .no), (4, .no), (5, .no), (6, .yes), (8, .no), (9, .no), (10, .no), (11, .yes)], .yes]) (.app ((.refl _)) (.app (.nil _) (.app (.nil _) (.app (.nil _) (.app (.nil _) (.app (hy) (.nil _))))))) (⟨gft (decide_eq_true h), ⟨gft (decide_eq_true h), ⟨gft (decide_eq_true h), ⟨(decide_eq_true h), ⟨gft rfl, ⟨gft rfl, ⟨gft rfl, ⟨rfl, ⟨rfl, ⟨(), ver_o h, nofun⟩⟩⟩⟩⟩⟩⟩⟩⟩⟩)
theorem t_ver_p (root x : Hx) (n i : Int) (y : Hss) (A : Facts) (hy : Sub y.L A) (h0 : ¬ i < 0) (h : n ≤ i) : Gives Tryd.prog 22 [H8 root, .int .i64 n, .int .i64 i, H8 x, y.v] A (Unit) (fun _ => .bool (verB root n i x y.l)) (fun _ => []) :=
  gives_of_vcF Tryd.mixed good_pontageref8_Verify (args := [(H8 root, []), (.int .i64 n, []), (.int .i64 i, []), (H8 x, []), (y.v, y.L)]) (B := A) (O := [.reg [(3, .yes), (4, .yes), (5, .yes), (6, .no), (8, .no), (9, .no), (10, .no), (11, .yes)], .yes]) (.app ((.refl _)) (.app (.nil _) (.app (.nil _) (.app (.nil _) (.app (.nil _) (.app (hy) (.nil _))))))) (⟨gff (decide_eq_false h0), ⟨gff (decide_eq_false h0), ⟨gff (decide_eq_false h0), ⟨(decide_eq_false h0), ⟨gft (decide_eq_true h), ⟨gft (decide_eq_true h), ⟨gft (decide_eq_true h), ⟨(decide_eq_true h), ⟨rfl, ⟨(), ver_p h, nofun⟩⟩⟩⟩⟩⟩⟩⟩⟩⟩)
theorem t_ver_n (root x : Hx) (n i : Nat) (y : Hss) (A : Facts) (hy : Sub y.L A) (hn : n ≤ 9223372036854775807) (hy0 : y.n ≤ 64) (h : i < n) (hu : (upR n i x y.l.reverse) = none) : Gives Tryd.prog 22 [H8 root, .int .i64 n, .int .i64 i, H8 x, y.v] A (Unit) (fun _ => .bool (verB root n i x y.l)) (fun _ => []) :=
  gives_of_vcF Tryd.mixed good_pontageref8_Verify (args := [(H8 root, []), (.int .i64 n, []), (.int .i64 i, []), (H8 x, []), (y.v, y.L)]) (B := A) (O := [.reg [(3, .yes), (4, .yes), (5, .yes), (6, .no), (8, .yes), (9, .yes), (10, .yes), (11, .no)], .no, .reg [(2, .ld (H8 x)), (4, det (.tuple #[H8 (upJ n i x y.l.reverse), .bool (upR n i x y.l.reverse).isSome]))], .reg [(2, .no), (3, .no), (4, .no), (5, .no)]]) (.app ((.refl _)) (.app (.nil _) (.app (.nil _) (.app (.nil _) (.app (.nil _) (.app (hy) (.nil _))))))) (⟨gff (lt0_f i), ⟨gff (lt0_f i), ⟨gff (lt0_f i), ⟨(lt0_f i), ⟨gff (ge_f' h), ⟨gff (ge_f' h), ⟨gff (ge_f' h), ⟨(ge_f' h), ⟨(leB 64 hy0), ⟨ld_h32 x, ⟨t_up_any x _ n i y rfl (by omega) (by omega) h hn _ (by intro q h; simp [h]), fun _ => ⟨gtf (by show (upR n i x y.l.reverse).isSome = false; rw [hu]; rfl), ⟨gtf (by show (upR n i x y.l.reverse).isSome = false; rw [hu]; rfl), ⟨gtf (by show (upR n i x y.l.reverse).isSome = false; rw [hu]; rfl), ⟨(by show (upR n i x y.l.reverse).isSome = false; rw [hu]; rfl), ⟨(), ver_n h hu, nofun⟩⟩⟩⟩⟩⟩⟩⟩⟩⟩⟩⟩⟩⟩⟩⟩)
theorem t_ver_s (root x : Hx) (n i : Nat) (y : Hss) (A : Facts) (hy : Sub y.L A) (hn : n ≤ 9223372036854775807) (hy0 : y.n ≤ 64) (h : i < n) (r : Hx) (hu : (upR n i x y.l.reverse) = some r) : Gives Tryd.prog 22 [H8 root, .int .i64 n, .int .i64 i, H8 x, y.v] A (Unit) (fun _ => .bool (verB root n i x y.l)) (fun _ => []) :=
  gives_of_vcF Tryd.mixed good_pontageref8_Verify (args := [(H8 root, []), (.int .i64 n, []), (.int .i64 i, []), (H8 x, []), (y.v, y.L)]) (B := A) (O := [.reg [(3, .yes), (4, .yes), (5, .yes), (6, .no), (8, .yes), (9, .yes), (10, .yes), (11, .no)], .no, .reg [(2, .ld (H8 x)), (4, det (.tuple #[H8 (upJ n i x y.l.reverse), .bool (upR n i x y.l.reverse).isSome]))], .reg [(2, .yes), (3, .yes), (4, .yes), (5, .yes)]]) (.app ((.refl _)) (.app (.nil _) (.app (.nil _) (.app (.nil _) (.app (.nil _) (.app (hy) (.nil _))))))) (⟨gff (lt0_f i), ⟨gff (lt0_f i), ⟨gff (lt0_f i), ⟨(lt0_f i), ⟨gff (ge_f' h), ⟨gff (ge_f' h), ⟨gff (ge_f' h), ⟨(ge_f' h), ⟨(leB 64 hy0), ⟨ld_h32 x, ⟨t_up_any x _ n i y rfl (by omega) (by omega) h hn _ (by intro q h; simp [h]), fun _ => ⟨gtt (by show (upR n i x y.l.reverse).isSome = true; rw [hu]; rfl), ⟨gtt (by show (upR n i x y.l.reverse).isSome = true; rw [hu]; rfl), ⟨⟨gtt (by show (upR n i x y.l.reverse).isSome = true; rw [hu]; rfl), eqT_api_Hash rfl rfl⟩, ⟨(by show (upR n i x y.l.reverse).isSome = true; rw [hu]; rfl), ⟨(), by rw [← ver_s h hu, ← upJ_eq _ _ _ _ _ hu]; rfl, nofun⟩⟩⟩⟩⟩⟩⟩⟩⟩⟩⟩⟩⟩⟩⟩⟩)
theorem t_ver_any (root x : Hx) (n i : Int) (y : Hss) (A : Facts) (hy : Sub y.L A) (hn : n ≤ 9223372036854775807) (hy0 : y.n ≤ 64) : Gives Tryd.prog 22 [H8 root, .int .i64 n, .int .i64 i, H8 x, y.v] A Unit (fun _ => .bool (verB root n i x y.l)) (fun _ => []) := by
  by_cases h0 : i < 0
  · exact t_ver_o root x n i y A hy h0
  by_cases h : n ≤ i
  · exact t_ver_p root x n i y A hy h0 h
  obtain ⟨i, rfl⟩ := Int.eq_ofNat_of_zero_le (show 0 ≤ i by omega)
  obtain ⟨n, rfl⟩ := Int.eq_ofNat_of_zero_le (show 0 ≤ n by omega)
  cases hu : upR n i x y.l.reverse with
  | none => exact t_ver_n root x n i y A hy (by omega) hy0 (by omega) hu
  | some r => exact t_ver_s root x n i y A hy (by omega) hy0 (by omega) r hu
theorem eqh_t (y z : Hss) (he : y.l = z.l) (hn : y.n ≤ 1000000) (A : Facts) (hy : Sub y.L A) (hz : Sub z.L A) : Gives Tryd.prog 18 [y.v, z.v] A (Unit) (fun _ => .bool true) (fun _ => []) :=
  gives_of_vcF Tryd.mixed good_pontagelaw0_EqualHashes (args := [(y.v, y.L), (z.v, z.L)]) (B := []) (O := [.no, .inv (Upto y.n) (fun k : Upto y.n => ⟨26, [(0, .v y.v y.L), (1, .v z.v z.L), (5, .v (.int .i64 ((k.1 : Nat) : Int)) [])], [], 0⟩) (fun k => y.n - k.1) (fun k => [.both [.opt 6 [(3, .ld (H8 (y.l.getD k.1 H0))), (7, .ld (H8 (y.l.getD k.1 H0)))], .no] []])]) (.app (.nil _) (.app (hy) (.app (hz) (.nil _)))) (⟨(eqh_n he), ⟨⟨⟨0, Nat.zero_le _⟩, rfl, ⟨⟨rfl, fun _ h => h⟩, ⟨rfl, fun _ h => h⟩, ⟨rfl, nofun⟩, trivial⟩, trivial⟩, fun k => ⟨fun g => ⟨y.idx (Int.natCast_nonneg _) (Int.ofNat_lt.2 (lt_t g)), ⟨y.load k.1 rfl (lt_t g) (by intro q h; simp [h]), ⟨z.idx (Int.natCast_nonneg _) (by rw [← eqh_len he]; exact Int.ofNat_lt.2 (lt_t g)), ⟨eqh_l he k.1 (lt_t g) (by intro q h; simp [h]), ⟨eqT_api_Hash rfl rfl, ⟨(neq_self _), ⟨⟨k.1 + 1, lt_t g⟩, by have := lt_t g; show y.n - (k.1 + 1) < y.n - k.1; omega, rfl, ⟨⟨rfl, fun _ h => h⟩, ⟨rfl, fun _ h => h⟩, ⟨congrArg _ (add1 (by have := lt_t g; omega)), nofun⟩, trivial⟩, trivial⟩⟩⟩⟩⟩⟩⟩, fun g => ⟨(), rfl, nofun⟩⟩⟩⟩)
theorem hof_any (z : Int) : Det Tryd.prog 23 [.int .i64 z] (H8 (hof z)) :=
  det_of_vc Tryd.mixed good_pontagelaw0_HashOf (O := [.inv (Upto 8) (fun k : Upto 8 => ⟨19, [(0, .v (.int .i64 z) []), (2, .p 0 0), (3, .p 1 0), (4, .v (.int .i64 ((k.1 : Nat) : Int)) [])], [(0, ⟨28, bsc (fun _ => 0) 32, []⟩), (1, ⟨28, bsc (hofP z k.1) 32, []⟩)], 20⟩) (fun k => 8 - k.1) (fun k => [.both [.opt 5 [(4, .ld (.int .i64 ((8 * k.1 : Nat) : Int))), (5, .ld (.int .u64 ((8 * k.1 : Nat) : Int))), (7, .ld (v8 (zb z k.1))), (9, .mk 0)]] [.opt 6 [(0, .ld (H8 (hofP z k.1)))]]])]) fun _ => ⟨⟨⟨0, Nat.zero_le _⟩, rfl, ⟨⟨rfl, nofun⟩, ⟨rfl, rfl, rfl⟩, ⟨rfl, rfl, rfl⟩, ⟨rfl, nofun⟩, trivial⟩, ⟨rfl, rfl, nofun⟩, ⟨rfl, hof_0 z, nofun⟩, trivial⟩, fun k => ⟨fun g => ⟨ld_mul (mul8n (by have := (lt_t (n := 8) g); omega)) _, ⟨ld_touint (by have := (lt_t (n := 8) g); omega) _, ⟨Int.natCast_nonneg _, ⟨ld_conv64 (hof_b z (lt_t (n := 8) g)) _, ⟨⟨Int.natCast_nonneg _, by have := (lt_t (n := 8) g); omega⟩, ⟨cl_in (fun j => v8 (hofP z k.1 j)) (n := 32) (j := k.1) rfl (by have := (lt_t (n := 8) g); omega), ⟨⟨k.1 + 1, (lt_t (n := 8) g)⟩, (by have := (lt_t (n := 8) g); show 8 - (k.1 + 1) < 8 - k.1; omega), rfl, ⟨⟨rfl, nofun⟩, ⟨rfl, rfl, rfl⟩, ⟨rfl, rfl, rfl⟩, ⟨congrArg _ (add1 (by have := (lt_t (n := 8) g); omega)), nofun⟩, trivial⟩, ⟨rfl, rfl, nofun⟩, ⟨rfl, hof_s z (by have := (lt_t (n := 8) g); omega), nofun⟩, trivial⟩⟩⟩⟩⟩⟩⟩, fun g => ⟨ld_h32 _, ⟨(), hof_8 k.2 (lt_f (n := 8) g), nofun⟩⟩⟩⟩
theorem lv_own (v : Iss) (hn : v.n ≤ 1000000) (A : Facts) (hv : Sub v.L A) : GivesA Tryd.prog 16 [v.v] A Unit 28 32 (fun _ => hcs (lvs v.l)) :=
  givesA_of_vcF Tryd.mixed good_pontagelaw8_leaves (args := [(v.v, v.L)]) (B := []) (O := [.opt 1 [(0, .own Unit () 28 32 (fun _ => []))], .inv (Upto v.n) (fun k : Upto v.n => ⟨20, [(0, .v v.v v.L), (3, .a 1 1 32), (4, .v (.int .i64 ((k.1 : Nat) : Int)) [])], [(1, ⟨bufT 28 1, hcs (lvs (v.l.take k.1)), []⟩)], 20⟩) (fun k => v.n - k.1) (fun k => [.both [.reg [(4, .ld (.int .i64 (v.l.getD k.1 0))), (5, det (H8 (hof (v.l.getD k.1 0)))), (6, .call Nat 0 (fun m => .slice (some ⟨m, 0, none⟩) 1 1) (fun m => [(m, .cells (bsc (hof (v.l.getD k.1 0)) 32).toArray 28)])), (7, .app 1 (bsc (hof (v.l.getD k.1 0)) 32))]] []])]) (.app (.nil _) (.app (hv) (.nil _))) (⟨own_nil 28 32 _, fun _ => ⟨⟨⟨0, Nat.zero_le _⟩, rfl, ⟨⟨rfl, fun _ h => h⟩, ⟨rfl, rfl, rfl⟩, ⟨rfl, nofun⟩, trivial⟩, ⟨⟨rfl, rfl⟩, rfl, nofun⟩, trivial⟩, fun k => ⟨fun g => ⟨v.idx (Int.natCast_nonneg _) (Int.ofNat_lt.2 (lt_t g)), ⟨v.load k.1 rfl (lt_t g) (by intro q h; simp [h]), ⟨hof_any _ _, fun _ => ⟨build_h (hof (v.l.getD k.1 0)) _, fun m => ⟨⟨row_src m (hof (v.l.getD k.1 0)) (by intro z h; simp at h; simp [h]), by rw [hcs_len, bsc_len, List.length_map]; have := v.hl; simp; omega⟩, fun _ => ⟨⟨k.1 + 1, (lt_t g)⟩, (by have := (lt_t g); show v.n - (k.1 + 1) < v.n - k.1; omega), rfl, ⟨⟨rfl, fun _ h => h⟩, ⟨rfl, rfl, rfl⟩, ⟨congrArg _ (add1 (by have := (lt_t g); omega)), nofun⟩, trivial⟩, ⟨⟨rfl, rfl⟩, lv_next v (lt_t g), nofun⟩, trivial⟩⟩⟩⟩⟩⟩, fun g => ⟨(), lv_end v k.2 (lt_f g)⟩⟩⟩⟩)
theorem t_proof_0 (y : Hss) (i : Nat) (_hy0 : y.n ≤ 1000000) (_hi : i < y.n) (A : Facts) (hy : Sub y.L A) (h : y.n < 2) : CallT Tryd.prog 19 [y.v, .int .i64 (i : Int)] A (fun G => G = []) (FrX (hcs (proofF y.l i))) (fun x => .slice (frO x) (lenB (hcs (proofF y.l i)) 32) (frC 32 x)) (fun _ => []) (fun x G => G = frL 28 x ∧ FrOk 32 x) :=
  givesT_of_vcF Tryd.mixed good_pontageref8_Proof (args := [(y.v, y.L), (.int .i64 (i : Int), [])]) (B := A) (O := [.yes]) (.app ((.refl _)) (.app (hy) (.app (.nil _) (.nil _)))) (⟨(lt_dec (n := 2) h), ⟨.inl (⟨pr_nil y i h⟩, none), pr_sl y i h, nofun, fun _ g => ⟨g, trivial⟩, trivial⟩⟩)
theorem t_proof_l (y : Hss) (i : Nat) (hy0 : y.n ≤ 1000000) (_hi : i < y.n) (A : Facts) (hy : Sub y.L A) (h : 2 ≤ y.n) (hs : i < spl y.n) (IH : ∀ (z : Hss) (j : Nat), z.n < y.n → j < z.n → ∀ A, Sub z.L A → CallT Tryd.prog 19 [z.v, .int .i64 (j : Int)] A (fun G => G = []) (FrX (hcs (proofF z.l j))) (fun x => .slice (frO x) (lenB (hcs (proofF z.l j)) 32) (frC 32 x)) (fun _ => []) (fun x G => G = frL 28 x ∧ FrOk 32 x)) : CallT Tryd.prog 19 [y.v, .int .i64 (i : Int)] A (fun G => G = []) (FrX (hcs (proofF y.l i))) (fun x => .slice (frO x) (lenB (hcs (proofF y.l i)) 32) (frC 32 x)) (fun _ => []) (fun x G => G = frL 28 x ∧ FrOk 32 x) :=
  givesT_of_vcF Tryd.mixed good_pontageref8_Proof (args := [(y.v, y.L), (.int .i64 (i : Int), [])]) (B := A) (O := [.no, .reg [(2, det (.int .i64 ((spl y.n : Nat) : Int)))], .yes, .reg [(4, .thg 0 (FrX (hcs (proofF (y.sub 0 (spl y.n) (Nat.zero_le _) (Nat.le_of_lt (spl_lt h))).l i))) (.inr (0, [])) (fun x => .slice (frO x) (lenB (hcs (proofF (y.sub 0 (spl y.n) (Nat.zero_le _) (Nat.le_of_lt (spl_lt h))).l i)) 32) (frC 32 x)) (fun _ => []) (fun x G => G = frL 28 x ∧ FrOk 32 x)), (8, det (H8 (rootF (y.sub (spl y.n) y.n (Nat.le_of_lt (spl_lt h)) (Nat.le_refl _)).l))), (9, .call Nat 0 (fun m => .slice (some ⟨m, 0, none⟩) 1 1) (fun m => [(m, .cells (bsc (rootF (y.sub (spl y.n) y.n (Nat.le_of_lt (spl_lt h)) (Nat.le_refl _)).l) 32).toArray 28)])), (10, .thg 0 (FrX ((hcs (proofF (y.sub 0 (spl y.n) (Nat.zero_le _) (Nat.le_of_lt (spl_lt h))).l i)) ++ bsc (rootF (y.sub (spl y.n) y.n (Nat.le_of_lt (spl_lt h)) (Nat.le_refl _)).l) 32)) (.inr (0, [])) (fun x => .slice (frO x) (lenB ((hcs (proofF (y.sub 0 (spl y.n) (Nat.zero_le _) (Nat.le_of_lt (spl_lt h))).l i)) ++ bsc (rootF (y.sub (spl y.n) y.n (Nat.le_of_lt (spl_lt h)) (Nat.le_refl _)).l) 32) 32) (frC 32 x)) (fun _ => []) (fun x G => G = frL 28 x ∧ FrOk 32 x))]]) (.app ((.refl _)) (.app (hy) (.app (.nil _) (.nil _)))) (⟨(ge_dec (n := 2) h), ⟨t_sp y.n h (by omega) _, fun _ => ⟨(lt_dec hs), ⟨cut_l y h, ⟨callT_op (IH (y.sub 0 (spl y.n) (Nat.zero_le _) (Nat.le_of_lt (spl_lt h))) i (by show spl y.n - 0 < y.n; have := spl_lt h; omega) (by show i < spl y.n - 0; omega) _ (by intro q h; have h : q ∈ y.L := h; simp [h])) rfl rfl, fun x => ⟨cut_r y h, ⟨t_root_any _ (y.sub (spl y.n) y.n (Nat.le_of_lt (spl_lt h)) (Nat.le_refl _)) rfl (by show y.n - spl y.n ≤ _; omega) _ (by intro q h; have h : q ∈ y.L := h; simp [h]), fun _ => ⟨build_h (rootF (y.sub (spl y.n) y.n (Nat.le_of_lt (spl_lt h)) (Nat.le_refl _)).l) _, fun m => ⟨app_h (m := m) (by intro z h; simp at h; simp [h]) (pr_le (y.sub 0 (spl y.n) (Nat.zero_le _) (Nat.le_of_lt (spl_lt h))) i (by show spl y.n - 0 ≤ _; have := spl_lt h; omega)), fun w => ⟨frCast (pr_l y h hs) w, frS (pr_l y h hs) w, nofun, fun _ g => ⟨g.1.trans (frL_cast (pr_l y h hs) w _).symm, frOk_cast _ w _ g.2⟩, trivial⟩⟩⟩⟩⟩⟩⟩⟩⟩⟩)
theorem t_proof_r (y : Hss) (i : Nat) (hy0 : y.n ≤ 1000000) (hi : i < y.n) (A : Facts) (hy : Sub y.L A) (h : 2 ≤ y.n) (hs : spl y.n ≤ i) (IH : ∀ (z : Hss) (j : Nat), z.n < y.n → j < z.n → ∀ A, Sub z.L A → CallT Tryd.prog 19 [z.v, .int .i64 (j : Int)] A (fun G => G = []) (FrX (hcs (proofF z.l j))) (fun x => .slice (frO x) (lenB (hcs (proofF z.l j)) 32) (frC 32 x)) (fun _ => []) (fun x G => G = frL 28 x ∧ FrOk 32 x)) : CallT Tryd.prog 19 [y.v, .int .i64 (i : Int)] A (fun G => G = []) (FrX (hcs (proofF y.l i))) (fun x => .slice (frO x) (lenB (hcs (proofF y.l i)) 32) (frC 32 x)) (fun _ => []) (fun x G => G = frL 28 x ∧ FrOk 32 x) :=
  givesT_of_vcF Tryd.mixed good_pontageref8_Proof (args := [(y.v, y.L), (.int .i64 (i : Int), [])]) (B := A) (O := [.no, .reg [(2, det (.int .i64 ((spl y.n : Nat) : Int)))], .no, .reg [(5, .ld (.int .i64 ((i - spl y.n : Nat) : Int))), (6, .thg 0 (FrX (hcs (proofF (y.sub (spl y.n) y.n (Nat.le_of_lt (spl_lt h)) (Nat.le_refl _)).l (i - spl y.n)))) (.inr (0, [])) (fun x => .slice (frO x) (lenB (hcs (proofF (y.sub (spl y.n) y.n (Nat.le_of_lt (spl_lt h)) (Nat.le_refl _)).l (i - spl y.n))) 32) (frC 32 x)) (fun _ => []) (fun x G => G = frL 28 x ∧ FrOk 32 x)), (10, det (H8 (rootF (y.sub 0 (spl y.n) (Nat.zero_le _) (Nat.le_of_lt (spl_lt h))).l))), (11, .call Nat 0 (fun m => .slice (some ⟨m, 0, none⟩) 1 1) (fun m => [(m, .cells (bsc (rootF (y.sub 0 (spl y.n) (Nat.zero_le _) (Nat.le_of_lt (spl_lt h))).l) 32).toArray 28)])), (12, .thg 0 (FrX ((hcs (proofF (y.sub (spl y.n) y.n (Nat.le_of_lt (spl_lt h)) (Nat.le_refl _)).l (i - spl y.n))) ++ bsc (rootF (y.sub 0 (spl y.n) (Nat.zero_le _) (Nat.le_of_lt (spl_lt h))).l) 32)) (.inr (0, [])) (fun x => .slice (frO x) (lenB ((hcs (proofF (y.sub (spl y.n) y.n (Nat.le_of_lt (spl_lt h)) (Nat.le_refl _)).l (i - spl y.n))) ++ bsc (rootF (y.sub 0 (spl y.n) (Nat.zero_le _) (Nat.le_of_lt (spl_lt h))).l) 32) 32) (frC 32 x)) (fun _ => []) (fun x G => G = frL 28 x ∧ FrOk 32 x))]]) (.app ((.refl _)) (.app (hy) (.app (.nil _) (.nil _)))) (⟨(ge_dec (n := 2) h), ⟨t_sp y.n h (by omega) _, fun _ => ⟨(ge_dec hs), ⟨cut_r y h, ⟨ld_sub (sub_nat hs (by omega)) _, ⟨callT_op (IH (y.sub (spl y.n) y.n (Nat.le_of_lt (spl_lt h)) (Nat.le_refl _)) (i - spl y.n) (by show y.n - spl y.n < y.n; have := spl_pos y.n; omega) (by show i - spl y.n < y.n - spl y.n; omega) _ (by intro q h; have h : q ∈ y.L := h; simp [h])) rfl rfl, fun x => ⟨cut_l y h, ⟨t_root_any _ (y.sub 0 (spl y.n) (Nat.zero_le _) (Nat.le_of_lt (spl_lt h))) rfl (by show spl y.n - 0 ≤ _; omega) _ (by intro q h; have h : q ∈ y.L := h; simp [h]), fun _ => ⟨build_h (rootF (y.sub 0 (spl y.n) (Nat.zero_le _) (Nat.le_of_lt (spl_lt h))).l) _, fun m => ⟨app_h (m := m) (by intro z h; simp at h; simp [h]) (pr_le (y.sub (spl y.n) y.n (Nat.le_of_lt (spl_lt h)) (Nat.le_refl _)) (i - spl y.n) (by show y.n - spl y.n ≤ _; have := spl_lt h; omega)), fun w => ⟨frCast (pr_r y h hs) w, frS (pr_r y h hs) w, nofun, fun _ g => ⟨g.1.trans (frL_cast (pr_r y h hs) w _).symm, frOk_cast _ w _ g.2⟩, trivial⟩⟩⟩⟩⟩⟩⟩⟩⟩⟩⟩)
theorem t_proof_any : ∀ (k : Nat) (y : Hss) (i : Nat), y.n = k → y.n ≤ 1000000 → i < y.n → ∀ A, Sub y.L A → CallT Tryd.prog 19 [y.v, .int .i64 (i : Int)] A (fun G => G = []) (FrX (hcs (proofF y.l i))) (fun x => .slice (frO x) (lenB (hcs (proofF y.l i)) 32) (frC 32 x)) (fun _ => []) (fun x G => G = frL 28 x ∧ FrOk 32 x) := by
  intro k
  induction k using Nat.strongRecOn with
  | ind k ih =>
    intro y i hk hy0 hi A hy
    have IH := fun (z : Hss) (j : Nat) (hz : z.n < y.n) hj => ih z.n (by omega) z j rfl (by omega) hj
    rcases Nat.lt_or_ge y.n 2 with h | h
    · exact t_proof_0 y i hy0 hi A hy h
    · rcases Nat.lt_or_ge i (spl y.n) with hs | hs
      · exact t_proof_l y i hy0 hi A hy h hs IH
      · exact t_proof_r y i hy0 hi A hy h hs IH
end Go.Proofs.YtgbfolkpgmjaeaaDoor

