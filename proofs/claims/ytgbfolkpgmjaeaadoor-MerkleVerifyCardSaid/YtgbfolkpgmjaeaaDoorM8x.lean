/- Layer 8: the laws' own example, and what the laws want of numbers. Condition, where it is named: the table of round constants holds the round constants. -/
import Derived.Test.YtgbfolkpgmjaeaaDoorM8w
namespace Go.Proofs.YtgbfolkpgmjaeaaDoor
open Go.RowKit Sx
set_option maxRecDepth 100000

theorem eqh_of {a b : Hx} (h : a = b) : cellsEq (bsc a 32) (bsc b 32) = true := by rw [h]; exact bsc_self b 32
theorem rt_in {m : Nat} {l : List Hx} {F : Facts} (h : Tr m (hrows (lev l)) F) (hn : l.length ≤ 1000) (k : Nat) (hk : k ≤ l.length) (A : Facts) (hA : EnvF RC A) : CallR Tryd.prog 13 [.pointer (some ⟨m, 0, none⟩), .int .i64 (k : Int)] A F Unit (fun _ => htV (rootF (l.take k)) true) (fun _ => []) := by
  have := rt_r h hn (k : Int) A hA
  unfold rtV at this
  rw [if_pos (by omega), Int.toNat_natCast] at this
  exact this
theorem rt_out {m : Nat} {l : List Hx} {F : Facts} (h : Tr m (hrows (lev l)) F) (hn : l.length ≤ 1000) (k : Int) (hk : ¬ (0 ≤ k ∧ k ≤ (l.length : Int))) (A : Facts) (hA : EnvF RC A) : CallR Tryd.prog 13 [.pointer (some ⟨m, 0, none⟩), .int .i64 k] A F Unit (fun _ => htV H0 false) (fun _ => []) := by
  have := rt_r h hn k A hA
  unfold rtV at this
  rw [if_neg hk] at this
  exact this
/-- The example's leaves. -/
abbrev aw3 : List Hx := (([] ++ [hof 1]) ++ [hof 2]) ++ [hof 3]
theorem spl_2 : spl 2 = 1 := spl_eq (k := 0) (by decide) (by decide)
theorem spl_3 : spl 3 = 2 := spl_eq (k := 1) (by decide) (by decide)
theorem root_of2 (x y : Hx) : rootF [x, y] = nodeF x y := by
  rw [root_2 (by simp), show ([x, y] : List Hx).length = 2 from rfl, spl_2, root_1 (by rfl), root_1 (by rfl)]; rfl
theorem aw_root : rootF (aw3.take 3) = nodeF (nodeF (hof 1) (hof 2)) (hof 3) := by
  show rootF [hof 1, hof 2, hof 3] = _
  rw [root_2 (by simp), show ([hof 1, hof 2, hof 3] : List Hx).length = 3 from rfl, spl_3]
  show nodeF (rootF [hof 1, hof 2]) (rootF [hof 3]) = _
  rw [root_of2, root_1 rfl]; rfl
theorem aw_proof : proofF (aw3.take 3) 2 = [nodeF (hof 1) (hof 2)] := by
  show proofF [hof 1, hof 2, hof 3] 2 = _
  have e : ([hof 1, hof 2, hof 3] : List Hx).length = 3 := rfl
  rw [proof_r (by rw [e]; decide) (by rw [e, spl_3]; decide), e, spl_3]
  show proofF [hof 3] 0 ++ [rootF [hof 1, hof 2]] = _
  rw [proof_0 (by decide), root_of2]; rfl
theorem aw_len : (((lenB (hcs (proofF (aw3.take 3) 2)) 32 : Nat) : Int) == 1) = true := by rw [lenB_h, aw_proof]; rfl
theorem aw_p0 : (proofF (aw3.take 3) 2).getD 0 H0 = nodeF (hof 1) (hof 2) := by rw [aw_proof]; rfl
theorem aw_n : 0 < lenB (hcs (proofF (aw3.take 3) 2)) 32 := by rw [lenB_h, aw_proof]; decide
theorem lenB_0 {c : List Value} (h : c.length = 32) : c.length = (bsc H0 32).length := by rw [h, bsc_len]
theorem sr_h {c : List Value} (f : Hx) (h : c.length = 32) : setRange c 0 (bsc f 32) = bsc f 32 := sr_all (by rw [h, bsc_len])
theorem lv_snoc (v : Iss) {k : Nat} (hk : k < v.n) : lvs (v.l.take k) ++ [hof (v.l.getD k 0)] = lvs (v.l.take (k + 1)) := by
  have h : k < v.l.length := by rw [v.hl]; exact hk
  simp only [lvs, List.take_add_one, List.map_append]
  simp [h, List.getD]
theorem lv_all (v : Iss) {k : Nat} (h : v.n ≤ k) : lvs (v.l.take k) = lvs v.l := by rw [List.take_of_length_le (by rw [v.hl]; exact h)]
theorem lv_le (v : Iss) (k : Nat) (h : v.n ≤ 100) : (lvs (v.l.take k)).length ≤ 1000 := by rw [List.length_map, List.length_take, v.hl]; omega
theorem lvs_le (v : Iss) (h : v.n ≤ 100) : (lvs v.l).length ≤ 1000 := by rw [lvs_len]; omega
theorem tr_eq {m : Nat} {a b : List Hx} (e : a = b) : ∀ F, Tr m (hrows (lev a)) F → Tr m (hrows (lev b)) F := by subst e; exact fun _ g => g
theorem c_ver_t {root x : Hx} {n i : Int} {y : Hss} {b : Bool} (e : verB root n i x y.l = b) (A : Facts) (hA : EnvF RC A) (hy : Sub y.L A) (hn : n ≤ 9223372036854775807) (hy0 : y.n ≤ 64) : Gives Tryd.prog 21 [H8 root, .int .i64 n, .int .i64 i, H8 x, y.v] A Unit (fun _ => .bool b) (fun _ => []) := by
  subst e
  exact c_ver_any root x n i y A hA hy hn hy0
theorem pr_n {l : List Hx} {i k : Nat} (h : l.length ≤ k) (x : FrX (hcs (proofF l i))) : (Hss.fr (proofF l i) x).n ≤ k := by
  show lenB (hcs (proofF l i)) 32 ≤ k
  rw [lenB_h]; exact Nat.le_trans (proof_len _ l i rfl) h
theorem tk_len (v : Iss) {k : Nat} (h : k ≤ v.n) : (List.take k (lvs v.l)).length = k := by rw [List.length_take, lvs_len]; omega
theorem tk_get (v : Iss) {k j : Nat} (hj : j < k) (h : k ≤ v.n) : (List.take k (lvs v.l)).getD j H0 = hof (v.l.getD j 0) := by
  have e : (List.take k (lvs v.l)).getD j H0 = (lvs v.l).getD j H0 := by simp [List.getD, hj]
  rw [e, lv_get _ _ (by rw [v.hl]; omega)]
theorem sz_add {n : Nat} (h : n ≤ 100000) : IntKind.i64.wrap (1 + (n : Int)) = ((n + 1 : Nat) : Int) := by
  rw [show (1 : Int) + (n : Int) = ((n + 1 : Nat) : Int) by omega, wrap_nat (by omega)]
theorem sz_le (n : Int) {k : Nat} (h : 0 < k) : modI n k + 1 ≤ k := modI_lt n h
theorem take_app (a b : List Hx) (n : Nat) (h : a.length = n) : List.take n (a ++ b) = List.take n a := by rw [List.take_append_of_le_length (by omega)]
theorem co_ver (v : Iss) {s k : Nat} (hk : k < s) (hs : s ≤ v.n) (p : FrX (hcs (proofF (List.take s (lvs v.l)) k))) : verB (rootF (List.take s (lvs v.l))) (s : Int) (k : Int) (hof (v.l.getD k 0)) (Hss.fr (proofF (List.take s (lvs v.l)) k) p).l = true := by
  rw [← tk_get v hk hs]
  exact ver_true (tk_len v hs) hk rfl rfl
theorem l2_len (v w : Iss) {k : Nat} (hk : k ≤ w.n) : (lvs v.l ++ lvs (w.l.take k)).length = v.n + k := by rw [List.length_append, lvs_len, List.length_map, List.length_take, w.hl]; omega
theorem l2_eq (v w : Iss) {k : Nat} (hk : k ≤ w.n) (h : w.n ≤ k) : ((((lvs v.l ++ lvs (w.l.take k)).length : Nat) : Int) == ((v.n + w.n : Nat) : Int)) = true := by rw [l2_len v w hk, show k = w.n by omega]; simp
theorem l2_take (v w : Iss) (k : Nat) : List.take v.n (lvs v.l) = List.take v.n (lvs v.l ++ lvs (w.l.take k)) := (take_app _ _ _ (lvs_len v)).symm
theorem sub_c1 {y : Hss} {k : Nat} (hk : k ≤ y.n) : (0 : Int) ≤ 0 ∧ (0 : Int) ≤ (k : Int) ∧ (k : Int) ≤ (y.cap : Int) := by have := y.hc; omega
theorem sub_c2 {y : Hss} {k : Nat} (hk : k ≤ y.n) : (0 : Int) ≤ (k : Int) ∧ (k : Int) ≤ (y.n : Int) ∧ (y.n : Int) ≤ (y.cap : Int) := by have := y.hc; omega
/-- The list that MerkleSubtrees makes. -/
def subY (v : Iss) (h : Hx) (w : FrX (hcs (lvs v.l) ++ bsc h 32)) : Hss := Hss.ofFr (hcs (lvs v.l) ++ bsc h 32) (lvs v.l ++ [h]) (hcs_snoc _ _) w
theorem subY_n (v : Iss) (h : Hx) (w : FrX (hcs (lvs v.l) ++ bsc h 32)) : (subY v h w).n = v.n + 1 := by rw [← (subY v h w).hl]; show (lvs v.l ++ [h]).length = _; rw [List.length_append, lvs_len]; rfl
theorem sub_root (y : Hss) {k : Nat} (h : 2 ≤ y.n) (hk : k = spl y.n) (h1 : k ≤ y.n) : rootF y.l = nodeF (rootF (y.sub 0 k (Nat.zero_le _) h1).l) (rootF (y.sub k y.n h1 (Nat.le_refl _)).l) := by
  subst hk
  have h2 := spl_lt h
  rw [root_2 (l := y.l) (by rw [y.hl]; exact h)]
  show _ = nodeF (rootF ((y.l.drop 0).take (spl y.n - 0))) (rootF ((y.l.drop (spl y.n)).take (y.n - spl y.n)))
  rw [y.hl, List.drop_zero, Nat.sub_zero, List.take_of_length_le (l := y.l.drop (spl y.n)) (by simp [y.hl])]
theorem two_mul_lt {n j : Nat} (h : decide (((2 ^ (j + 1) : Nat) : Int) < (n : Int)) = true) : 2 ^ (j + 1) < n := by have := of_decide_eq_true h; omega
theorem two_mul_ge {n j : Nat} (h : decide (((2 ^ (j + 1) : Nat) : Int) < (n : Int)) = false) : n ≤ 2 ^ (j + 1) := by have := of_decide_eq_false h; omega
theorem cut_mul2 {n j : Nat} (h : 2 ^ j < n) (hn : n ≤ 1000) : IntKind.i64.wrap (2 * ((2 ^ j : Nat) : Int)) = ((2 ^ (j + 1) : Nat) : Int) := by
  rw [show (2 : Int) * ((2 ^ j : Nat) : Int) = ((2 ^ (j + 1) : Nat) : Int) by rw [Nat.pow_succ]; omega, wrap_nat (by rw [Nat.pow_succ]; omega)]
theorem cut_end {n j : Nat} (h1 : 2 ^ j < n) (h2 : n ≤ 2 ^ (j + 1)) : 2 ^ j = spl n := (spl_eq h1 (by rw [Nat.pow_succ] at h2; omega)).symm
theorem one_root (v : Iss) (h : Hx) (w : FrX (hcs (lvs v.l) ++ bsc h 32)) (hv : v.n = 0) : rootF (subY v h w).l = h := by
  show rootF (lvs v.l ++ [h]) = h
  rw [List.length_eq_zero_iff.1 ((lvs_len v).trans hv)]
  exact root_1 rfl
theorem st_len1 (v : Iss) (h : Hx) (w : FrX (hcs (lvs v.l) ++ bsc h 32)) (hv : v.n = 0) : (((lenB (hcs (lvs v.l) ++ bsc h 32) 32 : Nat) : Int) == 1) = true := by
  have := subY_n v h w
  exact eq_lit (k := 1) (this.trans (by omega))
theorem st_len (v : Iss) (h : Hx) (w : FrX (hcs (lvs v.l) ++ bsc h 32)) (hv : 0 < v.n) : (((lenB (hcs (lvs v.l) ++ bsc h 32) 32 : Nat) : Int) == 1) = false := by
  have := subY_n v h w
  exact ne_lit (k := 1) (by have e : lenB (hcs (lvs v.l) ++ bsc h 32) 32 = v.n + 1 := this; omega)
theorem rt_inZ {m : Nat} {l : List Hx} {F : Facts} (h : Tr m (hrows (lev l)) F) (hn : l.length ≤ 1000) (z : Int) (hz : 0 ≤ z ∧ z ≤ (l.length : Int)) (A : Facts) (hA : EnvF RC A) : CallR Tryd.prog 13 [.pointer (some ⟨m, 0, none⟩), .int .i64 z] A F Unit (fun _ => htV (rootF (l.take z.toNat)) true) (fun _ => []) := by
  obtain ⟨k, rfl⟩ := Int.eq_ofNat_of_zero_le hz.1
  exact rt_in h hn k (by omega) A hA
theorem pf_rZ {m : Nat} {l : List Hx} {F : Facts} (h : Tr m (hrows (lev l)) F) (hn : l.length ≤ 1000) (i n : Int) (hi : 0 ≤ i) (hk : i < n) (hl : n ≤ (l.length : Int)) (A : Facts) (hA : EnvF RC A) : CallR Tryd.prog 17 [.pointer (some ⟨m, 0, none⟩), .int .i64 i, .int .i64 n] A F (FrX (hcs (proofF (l.take n.toNat) i.toNat))) (fun x => .tuple #[.slice (frO x) (lenB (hcs (proofF (l.take n.toNat) i.toNat)) 32) (frC 32 x), .bool true]) (fun x => frL 28 x) := by
  obtain ⟨i, rfl⟩ := Int.eq_ofNat_of_zero_le hi
  obtain ⟨n, rfl⟩ := Int.eq_ofNat_of_zero_le (show 0 ≤ n by omega)
  exact pf_r h hn i n (by omega) (by omega) A hA
theorem tk_snoc (y : Hss) {k : Nat} (hk : k < y.n) : List.take k y.l ++ [y.l.getD k H0] = List.take (k + 1) y.l := by
  have h : k < y.l.length := by rw [y.hl]; exact hk
  rw [List.take_add_one]; simp [h, List.getD]
theorem tk_le (y : Hss) (k : Nat) (h : y.n ≤ 100) : (List.take k y.l).length ≤ 1000 := by rw [List.length_take, y.hl]; omega
theorem tk_all (y : Hss) {k : Nat} (h : y.n ≤ k) : List.take k y.l = y.l := List.take_of_length_le (by rw [y.hl]; exact h)
theorem ro_a (y : Hss) {k : Nat} (hk : k < y.n) : (!((((List.take k y.l).length : Nat) : Int) == (k : Int))) = false := by rw [List.length_take, y.hl, Nat.min_eq_left (Nat.le_of_lt hk)]; simp
theorem ro_b (y : Hss) {k : Nat} (hk : k < y.n) : (!((((List.take k y.l ++ [y.l.getD k H0]).length : Nat) : Int) == ((k + 1 : Nat) : Int))) = false := by rw [tk_snoc y hk, List.length_take, y.hl, Nat.min_eq_left hk]; simp
theorem ge0 (k : Nat) : decide ((k : Int) ≥ 0) = true := by apply decide_eq_true; omega
theorem le_t {a b : Nat} (h : a ≤ b) : decide ((a : Int) ≤ (b : Int)) = true := by apply decide_eq_true; omega
theorem le_f {a b : Nat} (h : b < a) : decide ((a : Int) ≤ (b : Int)) = false := by apply decide_eq_false; omega
theorem of_le {a b : Nat} (h : decide ((a : Int) ≤ (b : Int)) = true) : a ≤ b := by have := of_decide_eq_true h; omega
theorem of_nle {a b : Nat} (h : decide ((a : Int) ≤ (b : Int)) = false) : b < a := by have := of_decide_eq_false h; omega
theorem tne_t {b : Bool} (h : b = true) : (true != b) = false := by rw [h]; rfl
theorem fne_f {b : Bool} (h : b = false) : (false != b) = false := by rw [h]; rfl
theorem teq_t {b : Bool} (h : b = true) : (true == b) = true := by rw [h]; rfl
theorem feq_f {b : Bool} (h : b = false) : (false == b) = true := by rw [h]; rfl
theorem not_t {b : Bool} (h : b = true) : (!b) = false := by rw [h]; rfl
theorem not_f {b : Bool} (h : b = false) : (!b) = true := by rw [h]; rfl
theorem neqh_of {a b : Hx} (h : a = b) : (!(cellsEq (bsc a 32) (bsc b 32))) = false := by rw [eqh_of h]; rfl
theorem sub_take (y : Hss) {k : Nat} (hk : k ≤ y.n) : rootF (List.take k y.l) = rootF (y.sub 0 k (Nat.zero_le _) hk).l := by
  show _ = rootF ((y.l.drop 0).take (k - 0)); rw [List.drop_zero, Nat.sub_zero]
abbrev RoX (n : Nat) : Type := Option { k : Nat // k ≤ n + 2 }
def roM (n : Nat) : RoX n → Nat
  | none => n + 4
  | some k => n + 3 - k.1
def roZ {n : Nat} : RoX n → Int
  | none => -1
  | some k => (k.1 : Int)
theorem zle_t {z : Int} {b : Nat} (h : z ≤ (b : Int)) : decide (z ≤ (b : Int)) = true := decide_eq_true h
theorem zle_f {z : Int} {b : Nat} (h : ¬ z ≤ (b : Int)) : decide (z ≤ (b : Int)) = false := decide_eq_false h
theorem zge_t {z : Int} (h : ¬ z < 0) : decide (z ≥ 0) = true := by apply decide_eq_true; omega
theorem zge_f {z : Int} (h : z < 0) : decide (z ≥ 0) = false := by apply decide_eq_false; omega
theorem zlt_t {a b : Int} (h : ¬ b ≤ a) : decide (a < b) = true := by apply decide_eq_true; omega
theorem zlt_f {a b : Int} (h : b ≤ a) : decide (a < b) = false := by apply decide_eq_false; omega
theorem ro_y (y : Hss) : decide ((-1 : Int) ≤ ((y.n + 1 : Nat) : Int)) = true := by apply decide_eq_true; omega
theorem root_tk (y : Hss) {k : Nat} (hk : k ≤ y.n) (hn : y.n ≤ 1000) (A : Facts) (hy : Sub y.L A) : Gives Tryd.prog 14 [(y.sub 0 k (Nat.zero_le _) hk).v] A Unit (fun _ => H8 (rootF (List.take k y.l))) (fun _ => []) := by
  rw [sub_take y hk]
  exact t_root_any _ (y.sub 0 k (Nat.zero_le _) hk) rfl (by show k - 0 ≤ _; omega) A hy
theorem lv_fr (v : Iss) (z : FrX (hcs (lvs v.l))) : (Hss.fr (lvs v.l) z).n = v.n := by rw [← (Hss.fr (lvs v.l) z).hl]; exact lvs_len v
theorem lvH_snoc (l : List Hx) {k : Nat} (hk : k < l.length) : List.take k l ++ [l.getD k H0] = List.take (k + 1) l := by rw [List.take_add_one]; simp [hk, List.getD]
theorem lenB_l (v : Iss) : lenB (hcs (lvs v.l)) 32 = v.n := by rw [lenB_h, lvs_len]
/-- The reference's proof, of whole numbers. -/
theorem t_proofZ (y : Hss) (i n : Int) (hi : 0 ≤ i) (hk : i < n) (hl : n ≤ (y.n : Int)) (hn : y.n ≤ 1000) (A : Facts) (hy : Sub y.L A) :
    Gives Tryd.prog 19 [.slice (subO y.o y.cap 0 32) (n.toNat - 0) (y.cap - 0), .int .i64 i] A (FrX (hcs (proofF (List.take n.toNat y.l) i.toNat))) (fun x => .slice (frO x) (lenB (hcs (proofF (List.take n.toNat y.l) i.toNat)) 32) (frC 32 x)) (fun x => frL 28 x) := by
  obtain ⟨i, rfl⟩ := Int.eq_ofNat_of_zero_le hi
  obtain ⟨n, rfl⟩ := Int.eq_ofNat_of_zero_le (show 0 ≤ n by omega)
  have e : List.take n y.l = (y.sub 0 n (Nat.zero_le _) (by omega)).l := by show _ = (y.l.drop 0).take (n - 0); rw [List.drop_zero, Nat.sub_zero]
  rw [Int.toNat_natCast, Int.toNat_natCast, e]
  exact callT_gives_nil (t_proof_any _ (y.sub 0 n (Nat.zero_le _) (by omega)) i rfl (by show n - 0 ≤ _; omega) (by show i < n - 0; omega) A hy) (fun _ _ g => g.1)
theorem cutZ (y : Hss) {n : Int} (h0 : 0 ≤ n) (hl : n ≤ (y.n : Int)) : (0 : Int) ≤ 0 ∧ (0 : Int) ≤ n ∧ n ≤ (y.cap : Int) := by have := y.hc; omega
theorem lt_lvs (v : Iss) {k : Nat} (h : k < lenB (hcs (lvs v.l)) 32) : k < (lvs v.l).length := by rw [lenB_h] at h; exact h
theorem ge_lvs (v : Iss) {k : Nat} (h : lenB (hcs (lvs v.l)) 32 ≤ k) : (lvs v.l).length ≤ k := by rw [lenB_h] at h; exact h
theorem good_pontagelaw8_awake : Good Tryd.prog 9 Tryd.f9 0 := ⟨Tryd.func9, by kernel_rfl, by kernel_rfl⟩
theorem good_pontagelaw8_MerkleRoots : Good Tryd.prog 3 Tryd.f3 2 := ⟨Tryd.func3, by kernel_rfl, by kernel_rfl⟩
theorem good_pontagelaw8_MerkleProofs : Good Tryd.prog 4 Tryd.f4 3 := ⟨Tryd.func4, by kernel_rfl, by kernel_rfl⟩
theorem good_pontagelaw8_MerkleCompleteness : Good Tryd.prog 6 Tryd.f6 3 := ⟨Tryd.func6, by kernel_rfl, by kernel_rfl⟩
theorem good_pontagelaw8_MerkleAppendOnly : Good Tryd.prog 7 Tryd.f7 3 := ⟨Tryd.func7, by kernel_rfl, by kernel_rfl⟩
theorem good_pontagelaw8_MerkleSubtrees : Good Tryd.prog 8 Tryd.f8 2 := ⟨Tryd.func8, by kernel_rfl, by kernel_rfl⟩
theorem aw8 (A : Facts) (hA : EnvF RC A) : Gives Tryd.prog 9 [] A (Unit) (fun _ => .bool true) (fun _ => []) :=
  gives_of_vcF Tryd.mixed good_pontagelaw8_awake (args := []) (B := A) (O := [.reg [(0, det (H8 (hof 1))), (1, det (H8 (hof 2))), (2, det (H8 (hof 3)))], .reg [(0, .thg 0 Nat 0 (fun m => .pointer (some ⟨m, 0, none⟩)) (fun _ => []) (fun m => Tr m (hrows (lev []))))], .gen 3 (Nat) (fun m => ⟨76, [(1, .p 4 0), (2, .p 5 0), (3, .p 6 0), (4, .v (.pointer (some ⟨m, 0, none⟩)) [])], [(4, ⟨28, bsc (hof 1) 32, []⟩), (5, ⟨28, bsc (hof 2) 32, []⟩), (6, ⟨28, bsc (hof 3) 32, []⟩)], 60⟩) (fun m => [(0, Tr m (hrows (lev [])))]) (fun m => [.no, .reg [(1, .ld (H8 (hof 1))), (2, .thg 0 Unit () (fun _ => .int .i64 (([].length : Nat) : Int)) (fun _ => []) (fun _ => Tr m (hrows (lev ([] ++ [(hof 1)]))))), (4, .ld (H8 (hof 2))), (5, .thg 0 Unit () (fun _ => .int .i64 ((([] ++ [hof 1]).length : Nat) : Int)) (fun _ => []) (fun _ => Tr m (hrows (lev (([] ++ [hof 1]) ++ [(hof 2)]))))), (7, .ld (H8 (hof 3))), (8, .thg 0 Unit () (fun _ => .int .i64 (((([] ++ [hof 1]) ++ [hof 2]).length : Nat) : Int)) (fun _ => []) (fun _ => Tr m (hrows (lev ((([] ++ [hof 1]) ++ [hof 2]) ++ [(hof 3)])))))], .reg [(1, .rdT 0 Unit () (fun _ => htV (rootF (List.take 3 aw3)) true) (fun _ => []))], .reg [(1, .rdT 0 (FrX (hcs (proofF (List.take 3 aw3) 2))) (.inr (0, [])) (fun x => .tuple #[.slice (frO x) (lenB (hcs (proofF (List.take 3 aw3) 2)) 32) (frC 32 x), .bool true]) (fun x => frL 28 x))], .reg ((3, .yes) :: (4, .yes) :: (5, .yes) :: (7, .yes) :: (8, .yes) :: (9, .yes) :: (11, .yes) :: (12, .yes) :: (13, .yes) :: (14, det (H8 (nodeF (hof 1) (hof 2)))) :: (15, .yes) :: (16, det (H8 (nodeF (nodeF (hof 1) (hof 2)) (hof 3)))) :: (17, .yes) :: (18, .yes) :: (20, .yes) :: (21, .yes) :: (23, .yes) :: (24, .yes) :: (26, .yes) :: (27, .yes) :: (28, .yes) :: (29, .yes) :: (31, .yes) :: (32, .yes) :: (33, .ld (H8 ((proofF (List.take 3 aw3) 2).getD 0 H0))) :: (34, .yes) :: (35, .yes) :: (36, det (H8 (nodeF (hof 1) (hof 2)))) :: (37, .yes) :: (38, .yes) :: [])])]) (.app ((.refl _)) (.nil _)) (⟨hof_any 1 _, fun _ => ⟨hof_any 2 _, fun _ => ⟨hof_any 3 _, fun _ => ⟨callT_op (c_new _) rfl rfl, fun m0 => ⟨⟨m0, ⟨rfl, ⟨⟨rfl, rfl, rfl⟩, ⟨rfl, rfl, rfl⟩, ⟨rfl, rfl, rfl⟩, ⟨rfl, nofun⟩, trivial⟩, ⟨rfl, sr_h _ rfl, nofun⟩, ⟨rfl, sr_h _ rfl, nofun⟩, ⟨rfl, sr_h _ rfl, nofun⟩, trivial⟩, ⟨fun _ g => g, trivial⟩⟩, fun m => ⟨rfl, ⟨ld_h32 _, ⟨callT_op (c_tapp m [] (hof 1) (by decide) _ (hA.app _)) rfl rfl, fun _ => ⟨ld_h32 _, ⟨callT_op (c_tapp m ([] ++ [hof 1]) (hof 2) (by decide) _ (hA.app _)) rfl rfl, fun _ => ⟨ld_h32 _, ⟨callT_op (c_tapp m (([] ++ [hof 1]) ++ [hof 2]) (hof 3) (by decide) _ (hA.app _)) rfl rfl, fun _ => ⟨fun _ g => callR_op (rt_in g (by decide) 3 (by decide) _ (hA.app _)) rfl rfl, fun _ => ⟨fun _ g => callR_op (pf_r g (by decide) 2 3 (by decide) (by decide) _ (hA.app _)) rfl rfl, fun p => ⟨gtt rfl, ⟨gtt rfl, ⟨rfl, ⟨gtt rfl, ⟨gtt rfl, ⟨rfl, ⟨gtt rfl, ⟨gtt rfl, ⟨gtt rfl, ⟨⟨gtt rfl, c_nodeF (hof 1) (hof 2) _ (hA.app _)⟩, fun _ => ⟨gtt rfl, ⟨⟨gtt rfl, c_nodeF (nodeF (hof 1) (hof 2)) (hof 3) _ (hA.app _)⟩, fun _ => ⟨⟨gtt rfl, eqT_api_Hash rfl rfl⟩, ⟨rfl, ⟨gtt (eqh_of aw_root), ⟨(eqh_of aw_root), ⟨gtt rfl, ⟨rfl, ⟨gtt rfl, ⟨gtt rfl, ⟨gtt rfl, ⟨rfl, ⟨gtt aw_len, ⟨⟨gtt aw_len, (Hss.fr _ p).idx (by decide) (Int.ofNat_lt.2 aw_n)⟩, ⟨⟨gtt aw_len, (Hss.fr _ p).load 0 rfl aw_n (by intro q h; have h : q ∈ frL 28 p := h; simp [h])⟩, ⟨gtt aw_len, ⟨gtt aw_len, ⟨⟨gtt aw_len, c_nodeF (hof 1) (hof 2) _ (hA.app _)⟩, fun _ => ⟨⟨gtt aw_len, eqT_api_Hash rfl rfl⟩, ⟨aw_len, ⟨(), congrArg Value.bool (eqh_of aw_p0), nofun⟩⟩⟩⟩⟩⟩⟩⟩⟩⟩⟩⟩⟩⟩⟩⟩⟩⟩⟩⟩⟩⟩⟩⟩⟩⟩⟩⟩⟩⟩⟩⟩⟩⟩⟩⟩⟩⟩⟩⟩⟩⟩⟩⟩⟩)
end Go.Proofs.YtgbfolkpgmjaeaaDoor

