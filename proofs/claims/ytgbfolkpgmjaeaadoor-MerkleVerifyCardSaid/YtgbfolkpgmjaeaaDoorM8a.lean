/- Layer 8 without trees: package merkle and the reference: where lists are cut, roots, what a proof shows, Verify; hashes of numbers. Condition, where it is named: the table of round constants holds the round constants. -/
import Derived.Test.YtgbfolkpgmjaeaaDoorM8n
import Derived.Test.YtgbfolkpgmjaeaaDoorW6k
namespace Go.Proofs.YtgbfolkpgmjaeaaDoor
open Go.RowKit Sx
set_option maxRecDepth 100000

theorem d_len64 (n : Nat) (h : n < 18446744073709551616) : Det Tryd.prog 44 [.int .u64 (n : Int)] (.int .i64 ((blen n : Nat) : Int)) :=
  .of_calls ⟨_, Tryd.func44, by kernel_rfl, rfl⟩ fun w => (len64_any (n : Int) (by omega) (by omega) w).mono fun e w' ⟨h1, h2⟩ => by subst h2; exact ⟨by rw [h1, Int.toNat_natCast], .refl _ _⟩
theorem sub_nat {a b : Nat} (h : b ≤ a) (ha : a ≤ 9223372036854775807) : IntKind.i64.wrap ((a : Int) - (b : Int)) = ((a - b : Nat) : Int) := by
  rw [show (a : Int) - (b : Int) = ((a - b : Nat) : Int) by omega, wrap_nat (by omega)]
theorem add_nat {a b : Nat} (ha : a + b ≤ 9223372036854775807) : IntKind.i64.wrap ((a : Int) + (b : Int)) = ((a + b : Nat) : Int) := by
  rw [show (a : Int) + (b : Int) = ((a + b : Nat) : Int) by omega, wrap_nat (by omega)]
theorem log_lt {n : Nat} (h : 2 ≤ n) (hn : n ≤ 9223372036854775807) : Nat.log2 (n - 1) < 63 := by
  rw [Nat.log2_lt (by omega)]; omega
theorem lc_log {n : Nat} (h : 2 ≤ n) (hn : n ≤ 9223372036854775807) : IntKind.i64.wrap (((blen (n - 1) : Nat) : Int) - 1) = ((Nat.log2 (n - 1) : Nat) : Int) := by
  unfold blen
  rw [if_neg (by omega), show (((Nat.log2 (n - 1) + 1 : Nat) : Int) - 1) = ((Nat.log2 (n - 1) : Nat) : Int) by omega, wrap_nat (by have := log_lt h hn; omega)]
theorem lc_fin {n : Nat} (h : 2 ≤ n) (hn : n ≤ 9223372036854775807) : IntKind.i64.wrap (1 * 2 ^ (min ((Nat.log2 (n - 1) : Nat) : Int).toNat IntKind.i64.bits)) = ((spl n : Nat) : Int) := by
  have h1 := log_lt h hn
  rw [Int.toNat_natCast, Nat.min_eq_left (by show _ ≤ 64; omega)]
  have h2 := spl_lt h
  unfold spl at h2 ⊢
  rw [Int.one_mul, show ((2 : Int) ^ Nat.log2 (n - 1)) = ((2 ^ Nat.log2 (n - 1) : Nat) : Int) by simp, wrap_nat (by omega)]
abbrev Cut (n : Nat) : Type := { j : Nat // 2 ^ j < n }
theorem cut_mul {n j : Nat} (h : 2 ^ j < n - 2 ^ j) (hn : n ≤ 9223372036854775807) : IntKind.i64.wrap (2 * ((2 ^ j : Nat) : Int)) = ((2 ^ (j + 1) : Nat) : Int) := by
  rw [show (2 : Int) * ((2 ^ j : Nat) : Int) = ((2 ^ (j + 1) : Nat) : Int) by rw [Nat.pow_succ]; omega, wrap_nat (by rw [Nat.pow_succ]; omega)]
theorem cut_next {n j : Nat} (h : 2 ^ j < n - 2 ^ j) : 2 ^ (j + 1) < n := by rw [Nat.pow_succ]; omega
theorem cut_mu {n j : Nat} (h : 2 ^ j < n - 2 ^ j) : n - 2 ^ (j + 1) < n - 2 ^ j := by have := Nat.two_pow_pos j; rw [Nat.pow_succ]; omega
theorem cut_fin {n j : Nat} (h1 : 2 ^ j < n) (h2 : n - 2 ^ j ≤ 2 ^ j) : ((2 ^ j : Nat) : Int) = ((spl n : Nat) : Int) := by rw [spl_eq h1 (by omega)]
theorem eq_lit {n k : Nat} (h : n = k) : ((n : Int) == (k : Int)) = true := by subst h; simp
theorem ne_lit {n k : Nat} (h : n ≠ k) : ((n : Int) == (k : Int)) = false := by simp; omega
theorem root0_fin (y : Hss) (h : y.n = 0) : H8 emptyF = H8 (rootF y.l) := by
  have : y.l = [] := List.length_eq_zero_iff.1 (by rw [y.hl, h])
  rw [this, root_0]
theorem root1_fin (y : Hss) (h : y.n = 1) : H8 (y.l.getD 0 H0) = H8 (rootF y.l) := by rw [root_1 (by rw [y.hl, h])]
theorem root2_fin (y : Hss) (h : 2 ≤ y.n) : H8 (nodeF (rootF (y.sub 0 (spl y.n) (Nat.zero_le _) (Nat.le_of_lt (spl_lt h))).l) (rootF (y.sub (spl y.n) y.n (Nat.le_of_lt (spl_lt h)) (Nat.le_refl _)).l)) = H8 (rootF y.l) := by
  have h2 := spl_lt h
  conv => rhs; rw [root_2 (l := y.l) (by rw [y.hl]; exact h)]
  show H8 (nodeF (rootF ((y.l.drop 0).take (spl y.n - 0))) (rootF ((y.l.drop (spl y.n)).take (y.n - spl y.n)))) = _
  rw [y.hl, List.drop_zero, Nat.sub_zero, List.take_of_length_le (l := y.l.drop (spl y.n)) (by simp [y.hl])]
theorem cut_l (y : Hss) (h : 2 ≤ y.n) : (0 : Int) ≤ 0 ∧ (0 : Int) ≤ ((spl y.n : Nat) : Int) ∧ ((spl y.n : Nat) : Int) ≤ (y.cap : Int) := by have := spl_lt h; have := y.hc; omega
theorem cut_r (y : Hss) (h : 2 ≤ y.n) : (0 : Int) ≤ ((spl y.n : Nat) : Int) ∧ ((spl y.n : Nat) : Int) ≤ (y.n : Int) ∧ (y.n : Int) ≤ (y.cap : Int) := by have := spl_lt h; have := y.hc; omega
theorem c_nodeF (x y : Hx) (A : Facts) (hA : EnvF RC A) : Gives Tryd.prog 24 [H8 x, H8 y] A Unit (fun _ => H8 (nodeF x y)) (fun _ => []) := c_node x y A hA
theorem t_nodeF (x y : Hx) (A : Facts) : Gives Tryd.prog 29 [H8 x, H8 y] A Unit (fun _ => H8 (nodeF x y)) (fun _ => []) := t_node x y A

def lvH : List Leaf := [.i .u8, .i .u8, .i .u8, .i .u8, .i .u8, .i .u8, .i .u8, .i .u8, .i .u8, .i .u8, .i .u8, .i .u8, .i .u8, .i .u8, .i .u8, .i .u8, .i .u8, .i .u8, .i .u8, .i .u8, .i .u8, .i .u8, .i .u8, .i .u8, .i .u8, .i .u8, .i .u8, .i .u8, .i .u8, .i .u8, .i .u8, .i .u8]
theorem lvH_ok : leaves Tryd.prog 3 28 = some lvH := by kernel_rfl
theorem guardH : Tryd.prog.eqGuardType Tryd.prog.depth 28 = false := by kernel_rfl
theorem eqT_api_Hash {xs ys : Array Value} (hx : fitL lvH xs.toList = true) (hy : fitL lvH ys.toList = true) : EqRun Tryd.prog 28 (.agg xs) (.agg ys) (cellsEq xs.toList ys.toList) :=
  eqRun_of lvH_ok (by omega) (.inr ⟨_, _, Tryd.underlying28⟩) guardH hx hy
theorem sr_all {c v : List Value} (h : c.length = v.length) : setRange c 0 v = v := by
  unfold setRange
  rw [List.take_zero, List.nil_append, List.drop_of_length_le (by omega), List.append_nil]
/-- What was stored over the whole of a hash. -/
theorem ld_hs {t : TypeId} {L : Facts} (f : Hx) {c : List Value} (h : c.length = 32) : ldOwn Tryd.prog 28 ⟨t, setRange c 0 (bsc f 32), L⟩ 0 = some (H8 f) := by
  rw [sr_all (by rw [h, bsc_len])]; exact ld_h32 f
theorem rev_last (y : Hss) (h : 1 ≤ y.n) : y.l.reverse = y.l.getD (y.n - 1) H0 :: (y.sub 0 (y.n - 1) (Nat.zero_le _) (Nat.sub_le _ _)).l.reverse := by
  show _ = _ :: ((y.l.drop 0).take (y.n - 1 - 0)).reverse
  rw [List.drop_zero, Nat.sub_zero]
  have hl := y.hl
  generalize y.l = l at hl
  have e : l = l.take (y.n - 1) ++ [l.getD (y.n - 1) H0] := by
    apply List.ext_getElem?
    intro j
    by_cases hj : j < y.n - 1
    · rw [List.getElem?_append_left (by simp; omega), List.getElem?_take_of_lt hj]
    · by_cases hj2 : j = y.n - 1
      · subst hj2
        rw [List.getElem?_append_right (by simp; omega)]
        have : y.n - 1 < l.length := by omega
        simp [List.getD, this]
        rw [Nat.min_eq_left (by omega), Nat.sub_self]; rfl
      · rw [List.getElem?_eq_none (by omega), List.getElem?_eq_none (by simp; omega)]
  conv => lhs; rw [e]
  rw [List.reverse_append, List.reverse_singleton, List.singleton_append]
def upV (o : Option Hx) : Value := .tuple #[H8 (o.getD H0), .bool o.isSome]
/-- What the reference returns with it. -/
def upJ : Nat → Nat → Hx → List Hx → Hx
  | _, _, x, [] => x
  | n, i, x, y :: q => if n = 1 then x else if i < spl n then nodeF (upJ (spl n) i x q) y else nodeF y (upJ (n - spl n) (i - spl n) x q)
theorem upJ_eq : ∀ (q : List Hx) (n i : Nat) (x r : Hx), upR n i x q = some r → upJ n i x q = r
  | [], n, i, x, r, h => by
    unfold upR at h
    split at h
    · exact Option.some.inj h
    · cases h
  | y :: q, n, i, x, r, h => by
    unfold upR at h
    unfold upJ
    split at h
    · cases h
    · rename_i hn
      rw [if_neg hn]
      split at h
      · rename_i hi
        rw [if_pos hi]
        obtain ⟨r', h1, rfl⟩ := Option.map_eq_some_iff.1 h
        rw [upJ_eq q _ _ _ _ h1]
      · rename_i hi
        rw [if_neg hi]
        obtain ⟨r', h1, rfl⟩ := Option.map_eq_some_iff.1 h
        rw [upJ_eq q _ _ _ _ h1]
theorem l_nil {y : Hss} (h : y.n = 0) : y.l.reverse = [] := by rw [List.length_eq_zero_iff.1 (y.hl.trans h)]; rfl
theorem up_a {y : Hss} (i : Nat) (x : Hx) (h : y.n = 0) : some x = upR 1 i x y.l.reverse := by rw [l_nil h]; rfl
theorem up_b {y : Hss} (i : Nat) (x : Hx) (h : y.n ≠ 0) : none = upR 1 i x y.l.reverse := by rw [rev_last y (by omega)]; rfl
theorem up_c {y : Hss} {n : Nat} (i : Nat) (x : Hx) (hn : n ≠ 1) (h : y.n = 0) : none = upR n i x y.l.reverse := by rw [l_nil h, upR, if_neg hn]
theorem up_l {y : Hss} {n i : Nat} (x : Hx) (hn : n ≠ 1) (h : 1 ≤ y.n) (hi : i < spl n) : upR n i x y.l.reverse = (upR (spl n) i x (y.sub 0 (y.n - 1) (Nat.zero_le _) (Nat.sub_le _ _)).l.reverse).map (nodeF · (y.l.getD (y.n - 1) H0)) := by
  rw [rev_last y h, upR, if_neg hn, if_pos hi]
theorem up_r {y : Hss} {n i : Nat} (x : Hx) (hn : n ≠ 1) (h : 1 ≤ y.n) (hi : spl n ≤ i) : upR n i x y.l.reverse = (upR (n - spl n) (i - spl n) x (y.sub 0 (y.n - 1) (Nat.zero_le _) (Nat.sub_le _ _)).l.reverse).map (nodeF (y.l.getD (y.n - 1) H0) ·) := by
  rw [rev_last y h, upR, if_neg hn, if_neg (by omega)]
theorem map_no {o : Option Hx} {f : Hx → Hx} {u : Option Hx} (e : u = o.map f) (h : (!o.isSome) = true) : none = u := by
  cases o with
  | none => exact e.symm
  | some r => cases h
theorem map_yes {o : Option Hx} {f : Hx → Hx} {u : Option Hx} (e : u = o.map f) (h : (!o.isSome) = false) : some (f (o.getD H0)) = u := by
  cases o with
  | none => cases h
  | some r => exact e.symm
theorem upJ_l {y : Hss} {n i : Nat} (x : Hx) (hn : n ≠ 1) (h : 1 ≤ y.n) (hi : i < spl n) : nodeF (upJ (spl n) i x (y.sub 0 (y.n - 1) (Nat.zero_le _) (Nat.sub_le _ _)).l.reverse) (y.l.getD (y.n - 1) H0) = upJ n i x y.l.reverse := by
  rw [rev_last y h, upJ, if_neg hn, if_pos hi]
theorem upJ_r {y : Hss} {n i : Nat} (x : Hx) (hn : n ≠ 1) (h : 1 ≤ y.n) (hi : spl n ≤ i) : nodeF (y.l.getD (y.n - 1) H0) (upJ (n - spl n) (i - spl n) x (y.sub 0 (y.n - 1) (Nat.zero_le _) (Nat.sub_le _ _)).l.reverse) = upJ n i x y.l.reverse := by
  rw [rev_last y h, upJ, if_neg hn, if_neg (by omega)]
theorem is_map {o : Option Hx} {f : Hx → Hx} {u : Option Hx} (e : u = o.map f) : o.isSome = u.isSome := by subst e; cases o <;> rfl
theorem tup2 {a b : Hx} {p q : Bool} (e : a = b) (h : p = q) : Value.tuple #[H8 a, .bool p] = .tuple #[H8 b, .bool q] := by subst e h; rfl
theorem upJ_1 {y : Hss} (i : Nat) (x : Hx) : x = upJ 1 i x y.l.reverse := by
  cases y.l.reverse with
  | nil => rfl
  | cons a q => rfl
theorem upJ_0 {y : Hss} (n i : Nat) (x : Hx) (h : y.n = 0) : x = upJ n i x y.l.reverse := by rw [l_nil h]; rfl
theorem cut_p (y : Hss) (_h : 1 ≤ y.n) : (0 : Int) ≤ 0 ∧ (0 : Int) ≤ ((y.n - 1 : Nat) : Int) ∧ ((y.n - 1 : Nat) : Int) ≤ (y.cap : Int) := by have := y.hc; omega
theorem idx_p (y : Hss) (h : 1 ≤ y.n) : idxOk y.o ((y.n - 1 : Nat) : Int) y.n := y.idx (Int.natCast_nonneg _) (by omega)
theorem eq1_f {n : Nat} (h : n ≠ 1) : ((n : Int) == 1) = false := ne_lit (k := 1) h
theorem lt_dec {i n : Nat} (h : i < n) : decide ((i : Int) < (n : Int)) = true := by apply decide_eq_true; omega
theorem ge_dec {i n : Nat} (h : n ≤ i) : decide ((i : Int) < (n : Int)) = false := by apply decide_eq_false; omega
theorem spl_le63 {n : Nat} (h : 2 ≤ n) (hn : n ≤ 9223372036854775807) : spl n ≤ 9223372036854775807 := by have := spl_lt h; omega
theorem big_le {y : Hss} (h : y.n ≤ 1000000) : y.n ≤ 9223372036854775807 := by omega
theorem good_bits_Len : Good Tryd.prog 36 Tryd.f36 1 := ⟨Tryd.func36, by kernel_rfl, by kernel_rfl⟩
theorem good_merkle_leftCount : Good Tryd.prog 31 Tryd.f31 1 := ⟨Tryd.func31, by kernel_rfl, by kernel_rfl⟩
theorem good_pontageref8_SplitPoint : Good Tryd.prog 28 Tryd.f28 1 := ⟨Tryd.func28, by kernel_rfl, by kernel_rfl⟩
theorem good_merkle_RootOf : Good Tryd.prog 15 Tryd.f15 1 := ⟨Tryd.func15, by kernel_rfl, by kernel_rfl⟩
theorem good_pontageref8_RootOf : Good Tryd.prog 14 Tryd.f14 1 := ⟨Tryd.func14, by kernel_rfl, by kernel_rfl⟩
theorem good_merkle_rootFromProof : Good Tryd.prog 33 Tryd.f33 4 := ⟨Tryd.func33, by kernel_rfl, by kernel_rfl⟩
theorem good_pontageref8_up : Good Tryd.prog 34 Tryd.f34 4 := ⟨Tryd.func34, by kernel_rfl, by kernel_rfl⟩
theorem good_merkle_Verify : Good Tryd.prog 21 Tryd.f21 5 := ⟨Tryd.func21, by kernel_rfl, by kernel_rfl⟩
theorem good_pontageref8_Verify : Good Tryd.prog 22 Tryd.f22 5 := ⟨Tryd.func22, by kernel_rfl, by kernel_rfl⟩
theorem good_pontageref8_Proof : Good Tryd.prog 19 Tryd.f19 2 := ⟨Tryd.func19, by kernel_rfl, by kernel_rfl⟩
theorem good_pontagelaw0_HashOf : Good Tryd.prog 23 Tryd.f23 1 := ⟨Tryd.func23, by kernel_rfl, by kernel_rfl⟩
theorem good_pontagelaw0_EqualHashes : Good Tryd.prog 18 Tryd.f18 2 := ⟨Tryd.func18, by kernel_rfl, by kernel_rfl⟩
theorem good_pontagelaw8_leaves : Good Tryd.prog 16 Tryd.f16 1 := ⟨Tryd.func16, by kernel_rfl, by kernel_rfl⟩
theorem c_len (n : Nat) (h : n < 18446744073709551616) : Det Tryd.prog 36 [.int .u64 (n : Int)] (.int .i64 ((blen n : Nat) : Int)) :=
  det_of_vc Tryd.mixed good_bits_Len (O := [.no, .reg [(1, det (.int .i64 ((blen n : Nat) : Int)))]]) fun _ => ⟨rfl, ⟨d_len64 n h _, fun _ => ⟨(), rfl, nofun⟩⟩⟩
theorem c_lc (n : Nat) (h : 2 ≤ n) (hn : n ≤ 9223372036854775807) : Det Tryd.prog 31 [.int .i64 (n : Int)] (.int .i64 ((spl n : Nat) : Int)) :=
  det_of_vc Tryd.mixed good_merkle_leftCount (O := [.reg [(1, .ld (.int .i64 ((n - 1 : Nat) : Int))), (2, .ld (.int .u64 ((n - 1 : Nat) : Int))), (3, det (.int .i64 ((blen (n - 1) : Nat) : Int))), (4, .ld (.int .i64 ((Nat.log2 (n - 1) : Nat) : Int)))]]) fun _ => ⟨ld_sub (sub_nat (b := 1) (by omega) hn) _, ⟨ld_touint (by omega) _, ⟨c_len (n - 1) (by omega) _, fun _ => ⟨ld_sub (lc_log h hn) _, ⟨Int.natCast_nonneg _, ⟨(), congrArg _ (lc_fin h hn), nofun⟩⟩⟩⟩⟩⟩
theorem t_sp (n : Nat) (h : 2 ≤ n) (hn : n ≤ 9223372036854775807) : Det Tryd.prog 28 [.int .i64 (n : Int)] (.int .i64 ((spl n : Nat) : Int)) :=
  det_of_vc Tryd.mixed good_pontageref8_SplitPoint (O := [.inv (Cut n) (fun j : Cut n => ⟨12, [(0, .v (.int .i64 (n : Int)) []), (3, .v (.int .i64 ((2 ^ j.1 : Nat) : Int)) [])], [], 0⟩) (fun j => n - 2 ^ j.1) (fun j => [.opt 2 [(3, .ld (.int .i64 ((n - 2 ^ j.1 : Nat) : Int)))], .both [.opt 3 [(1, .ld (.int .i64 ((2 ^ (j.1 + 1) : Nat) : Int)))]] []])]) fun _ => ⟨⟨⟨0, by show 1 < n; omega⟩, rfl, ⟨⟨rfl, nofun⟩, ⟨rfl, nofun⟩, trivial⟩, trivial⟩, fun j => ⟨ld_sub (sub_nat (Nat.le_of_lt j.2) hn) _, ⟨fun g => ⟨ld_mul (cut_mul (lt_t g) hn) _, ⟨⟨j.1 + 1, cut_next (lt_t g)⟩, cut_mu (lt_t g), rfl, ⟨⟨rfl, nofun⟩, ⟨rfl, nofun⟩, trivial⟩, trivial⟩⟩, fun g => ⟨(), congrArg _ (cut_fin j.2 (lt_f g)), nofun⟩⟩⟩⟩
theorem c_root_0 (y : Hss) (_hy0 : y.n ≤ 1000000) (A : Facts) (hA : EnvF RC A) (hy : Sub y.L A) (h : y.n = 0) : Gives Tryd.prog 15 [y.v] A (Unit) (fun _ => H8 (rootF y.l)) (fun _ => []) :=
  gives_of_vcF Tryd.mixed good_merkle_RootOf (args := [(y.v, y.L)]) (B := A) (O := [.yes, .reg [(0, det (H8 emptyF))]]) (.app ((.refl _)) (.app (hy) (.nil _))) (⟨(eq_lit h), ⟨c_sum (Byt.nil) (by decide) _ (hA.app _) (.nil _), fun _ => ⟨(), root0_fin y h, nofun⟩⟩⟩)
theorem c_root_1 (y : Hss) (_hy0 : y.n ≤ 1000000) (A : Facts) (_hA : EnvF RC A) (hy : Sub y.L A) (h : y.n = 1) : Gives Tryd.prog 15 [y.v] A (Unit) (fun _ => H8 (rootF y.l)) (fun _ => []) :=
  gives_of_vcF Tryd.mixed good_merkle_RootOf (args := [(y.v, y.L)]) (B := A) (O := [.no, .yes, .opt 5 [(2, .ld (H8 (y.l.getD 0 H0)))]]) (.app ((.refl _)) (.app (hy) (.nil _))) (⟨(ne_lit (k := 0) (by omega)), ⟨(eq_lit h), ⟨y.idx (by decide) (by omega), ⟨y.load 0 rfl (by omega) (by intro q h; simp [h]), ⟨(), root1_fin y h, nofun⟩⟩⟩⟩⟩)
theorem c_root_2 (y : Hss) (hy0 : y.n ≤ 1000000) (A : Facts) (hA : EnvF RC A) (hy : Sub y.L A) (h : 2 ≤ y.n) (IH : ∀ z : Hss, z.n < y.n → ∀ A, EnvF RC A → Sub z.L A → Gives Tryd.prog 15 [z.v] A Unit (fun _ => H8 (rootF z.l)) (fun _ => [])) : Gives Tryd.prog 15 [y.v] A (Unit) (fun _ => H8 (rootF y.l)) (fun _ => []) :=
  gives_of_vcF Tryd.mixed good_merkle_RootOf (args := [(y.v, y.L)]) (B := A) (O := [.no, .no, .reg [(2, det (.int .i64 ((spl y.n : Nat) : Int)))], .reg [(3, det (H8 (rootF (y.sub 0 (spl y.n) (Nat.zero_le _) (Nat.le_of_lt (spl_lt h))).l))), (7, det (H8 (rootF (y.sub (spl y.n) y.n (Nat.le_of_lt (spl_lt h)) (Nat.le_refl _)).l))), (8, det (H8 (nodeF (rootF (y.sub 0 (spl y.n) (Nat.zero_le _) (Nat.le_of_lt (spl_lt h))).l) (rootF (y.sub (spl y.n) y.n (Nat.le_of_lt (spl_lt h)) (Nat.le_refl _)).l))))]]) (.app ((.refl _)) (.app (hy) (.nil _))) (⟨(ne_lit (k := 0) (by omega)), ⟨(ne_lit (k := 1) (by omega)), ⟨c_lc y.n h (by omega) _, fun _ => ⟨cut_l y h, ⟨IH (y.sub 0 (spl y.n) (Nat.zero_le _) (Nat.le_of_lt (spl_lt h))) (by show spl y.n - 0 < y.n; have := spl_lt h; omega) _ (hA.app _) (by intro q h; have h : q ∈ y.L := h; simp [h]), fun _ => ⟨cut_r y h, ⟨IH (y.sub (spl y.n) y.n (Nat.le_of_lt (spl_lt h)) (Nat.le_refl _)) (by show y.n - spl y.n < y.n; have := spl_pos y.n; omega) _ (hA.app _) (by intro q h; have h : q ∈ y.L := h; simp [h]), fun _ => ⟨c_nodeF (rootF (y.sub 0 (spl y.n) (Nat.zero_le _) (Nat.le_of_lt (spl_lt h))).l) (rootF (y.sub (spl y.n) y.n (Nat.le_of_lt (spl_lt h)) (Nat.le_refl _)).l) _ (hA.app _), fun _ => ⟨(), root2_fin y h, nofun⟩⟩⟩⟩⟩⟩⟩⟩⟩)
theorem c_root_any : ∀ (k : Nat) (y : Hss), y.n = k → y.n ≤ 1000000 → ∀ A, EnvF RC A → Sub y.L A → Gives Tryd.prog 15 [y.v] A Unit (fun _ => H8 (rootF y.l)) (fun _ => []) := by
  intro k
  induction k using Nat.strongRecOn with
  | ind k ih =>
    intro y hk hy0 A hA hy
    rcases Nat.lt_or_ge y.n 2 with h | h
    · rcases Nat.lt_or_ge y.n 1 with h1 | h1
      · exact c_root_0 y hy0 A hA hy (by omega)
      · exact c_root_1 y hy0 A hA hy (by omega)
    · exact c_root_2 y hy0 A hA hy h (fun z hz A hA hz => ih z.n (by omega) z rfl (by omega) A hA hz)
theorem t_root_0 (y : Hss) (_hy0 : y.n ≤ 1000000) (A : Facts) (hy : Sub y.L A) (h : y.n = 0) : Gives Tryd.prog 14 [y.v] A (Unit) (fun _ => H8 (rootF y.l)) (fun _ => []) :=
  gives_of_vcF Tryd.mixed good_pontageref8_RootOf (args := [(y.v, y.L)]) (B := A) (O := [.yes, .reg [(0, det (H8 emptyF))]]) (.app ((.refl _)) (.app (hy) (.nil _))) (⟨(eq_lit h), ⟨t_sum (Byt.nil) (by decide) _ (.nil _), fun _ => ⟨(), root0_fin y h, nofun⟩⟩⟩)
theorem t_root_1 (y : Hss) (_hy0 : y.n ≤ 1000000) (A : Facts) (hy : Sub y.L A) (h : y.n = 1) : Gives Tryd.prog 14 [y.v] A (Unit) (fun _ => H8 (rootF y.l)) (fun _ => []) :=
  gives_of_vcF Tryd.mixed good_pontageref8_RootOf (args := [(y.v, y.L)]) (B := A) (O := [.no, .yes, .opt 4 [(2, .ld (H8 (y.l.getD 0 H0)))]]) (.app ((.refl _)) (.app (hy) (.nil _))) (⟨(ne_lit (k := 0) (by omega)), ⟨(eq_lit h), ⟨y.idx (by decide) (by omega), ⟨y.load 0 rfl (by omega) (by intro q h; simp [h]), ⟨(), root1_fin y h, nofun⟩⟩⟩⟩⟩)
theorem t_root_2 (y : Hss) (hy0 : y.n ≤ 1000000) (A : Facts) (hy : Sub y.L A) (h : 2 ≤ y.n) (IH : ∀ z : Hss, z.n < y.n → ∀ A, Sub z.L A → Gives Tryd.prog 14 [z.v] A Unit (fun _ => H8 (rootF z.l)) (fun _ => [])) : Gives Tryd.prog 14 [y.v] A (Unit) (fun _ => H8 (rootF y.l)) (fun _ => []) :=
  gives_of_vcF Tryd.mixed good_pontageref8_RootOf (args := [(y.v, y.L)]) (B := A) (O := [.no, .no, .reg [(2, det (.int .i64 ((spl y.n : Nat) : Int)))], .reg [(3, det (H8 (rootF (y.sub 0 (spl y.n) (Nat.zero_le _) (Nat.le_of_lt (spl_lt h))).l))), (7, det (H8 (rootF (y.sub (spl y.n) y.n (Nat.le_of_lt (spl_lt h)) (Nat.le_refl _)).l))), (8, det (H8 (nodeF (rootF (y.sub 0 (spl y.n) (Nat.zero_le _) (Nat.le_of_lt (spl_lt h))).l) (rootF (y.sub (spl y.n) y.n (Nat.le_of_lt (spl_lt h)) (Nat.le_refl _)).l))))]]) (.app ((.refl _)) (.app (hy) (.nil _))) (⟨(ne_lit (k := 0) (by omega)), ⟨(ne_lit (k := 1) (by omega)), ⟨t_sp y.n h (by omega) _, fun _ => ⟨cut_l y h, ⟨IH (y.sub 0 (spl y.n) (Nat.zero_le _) (Nat.le_of_lt (spl_lt h))) (by show spl y.n - 0 < y.n; have := spl_lt h; omega) _ (by intro q h; have h : q ∈ y.L := h; simp [h]), fun _ => ⟨cut_r y h, ⟨IH (y.sub (spl y.n) y.n (Nat.le_of_lt (spl_lt h)) (Nat.le_refl _)) (by show y.n - spl y.n < y.n; have := spl_pos y.n; omega) _ (by intro q h; have h : q ∈ y.L := h; simp [h]), fun _ => ⟨t_nodeF (rootF (y.sub 0 (spl y.n) (Nat.zero_le _) (Nat.le_of_lt (spl_lt h))).l) (rootF (y.sub (spl y.n) y.n (Nat.le_of_lt (spl_lt h)) (Nat.le_refl _)).l) _, fun _ => ⟨(), root2_fin y h, nofun⟩⟩⟩⟩⟩⟩⟩⟩⟩)
theorem t_root_any : ∀ (k : Nat) (y : Hss), y.n = k → y.n ≤ 1000000 → ∀ A, Sub y.L A → Gives Tryd.prog 14 [y.v] A Unit (fun _ => H8 (rootF y.l)) (fun _ => []) := by
  intro k
  induction k using Nat.strongRecOn with
  | ind k ih =>
    intro y hk hy0 A hy
    rcases Nat.lt_or_ge y.n 2 with h | h
    · rcases Nat.lt_or_ge y.n 1 with h1 | h1
      · exact t_root_0 y hy0 A hy (by omega)
      · exact t_root_1 y hy0 A hy (by omega)
    · exact t_root_2 y hy0 A hy h (fun z hz A hz => ih z.n (by omega) z rfl (by omega) A hz)
theorem c_rfp_a (i : Nat) (x : Hx) (y : Hss) (A : Facts) (_hA : EnvF RC A) (hy : Sub y.L A) (h : y.n = 0) : Gives Tryd.prog 33 [.int .i64 1, .int .i64 (i : Int), H8 x, y.v] A (Unit) (fun _ => upV (upR 1 i x y.l.reverse)) (fun _ => []) :=
  gives_of_vcF Tryd.mixed good_merkle_rootFromProof (args := [(.int .i64 1, []), (.int .i64 (i : Int), []), (H8 x, []), (y.v, y.L)]) (B := A) (O := [.reg [(3, .yes), (4, .yes), (5, .yes), (6, .yes)], .yes, .opt 2 [(0, .ld (H8 x))]]) (.app ((.refl _)) (.app (.nil _) (.app (.nil _) (.app (.nil _) (.app (hy) (.nil _)))))) (⟨gtt rfl, ⟨gtt rfl, ⟨gtt rfl, ⟨rfl, ⟨(eq_lit h), ⟨ld_h32 x, ⟨(), congrArg upV (up_a i x h), nofun⟩⟩⟩⟩⟩⟩⟩)
theorem c_rfp_b (i : Nat) (x : Hx) (y : Hss) (A : Facts) (_hA : EnvF RC A) (hy : Sub y.L A) (h : y.n ≠ 0) : Gives Tryd.prog 33 [.int .i64 1, .int .i64 (i : Int), H8 x, y.v] A (Unit) (fun _ => upV (upR 1 i x y.l.reverse)) (fun _ => []) :=
  gives_of_vcF Tryd.mixed good_merkle_rootFromProof (args := [(.int .i64 1, []), (.int .i64 (i : Int), []), (H8 x, []), (y.v, y.L)]) (B := A) (O := [.reg [(3, .yes), (4, .yes), (5, .yes), (6, .yes)], .no, .reg [(3, .no), (4, .no), (5, .no), (6, .yes)], .yes]) (.app ((.refl _)) (.app (.nil _) (.app (.nil _) (.app (.nil _) (.app (hy) (.nil _)))))) (⟨gtt rfl, ⟨gtt rfl, ⟨gtt rfl, ⟨rfl, ⟨(ne_lit (k := 0) h), ⟨gft rfl, ⟨gft rfl, ⟨gft rfl, ⟨rfl, ⟨rfl, ⟨(), congrArg upV (up_b i x h), nofun⟩⟩⟩⟩⟩⟩⟩⟩⟩⟩⟩)
theorem c_rfp_c (n i : Nat) (x : Hx) (y : Hss) (A : Facts) (_hA : EnvF RC A) (hy : Sub y.L A) (hn : n ≠ 1) (h : y.n = 0) : Gives Tryd.prog 33 [.int .i64 (n : Int), .int .i64 (i : Int), H8 x, y.v] A (Unit) (fun _ => upV (upR n i x y.l.reverse)) (fun _ => []) :=
  gives_of_vcF Tryd.mixed good_merkle_rootFromProof (args := [(.int .i64 (n : Int), []), (.int .i64 (i : Int), []), (H8 x, []), (y.v, y.L)]) (B := A) (O := [.reg [(3, .no), (4, .no), (5, .no), (6, .no)], .no, .reg [(3, .yes), (4, .yes), (5, .yes), (6, .no)], .yes]) (.app ((.refl _)) (.app (.nil _) (.app (.nil _) (.app (.nil _) (.app (hy) (.nil _)))))) (⟨gtf (eq1_f hn), ⟨gtf (eq1_f hn), ⟨gtf (eq1_f hn), ⟨(eq1_f hn), ⟨rfl, ⟨gff (eq1_f hn), ⟨gff (eq1_f hn), ⟨gff (eq1_f hn), ⟨(eq1_f hn), ⟨(eq_lit h), ⟨(), congrArg upV (up_c i x hn h), nofun⟩⟩⟩⟩⟩⟩⟩⟩⟩⟩⟩)
theorem c_rfp_l (n i : Nat) (x : Hx) (y : Hss) (A : Facts) (hA : EnvF RC A) (hy : Sub y.L A) (hn : n ≤ 9223372036854775807) (hy0 : y.n ≤ 1000000) (h2 : 2 ≤ n) (h1 : 1 ≤ y.n) (hi : i < spl n) (IH : ∀ (n i : Nat) (z : Hss), z.n < y.n → 1 ≤ n → i < n → n ≤ 9223372036854775807 → ∀ A, EnvF RC A → Sub z.L A → Gives Tryd.prog 33 [.int .i64 (n : Int), .int .i64 (i : Int), H8 x, z.v] A Unit (fun _ => upV (upR n i x z.l.reverse)) (fun _ => [])) : Gives Tryd.prog 33 [.int .i64 (n : Int), .int .i64 (i : Int), H8 x, y.v] A (Unit) (fun _ => upV (upR n i x y.l.reverse)) (fun _ => []) :=
  gives_of_vcF Tryd.mixed good_merkle_rootFromProof (args := [(.int .i64 (n : Int), []), (.int .i64 (i : Int), []), (H8 x, []), (y.v, y.L)]) (B := A) (O := [.reg [(3, .no), (4, .no), (5, .no), (6, .no)], .no, .reg [(3, .yes), (4, .yes), (5, .yes), (6, .no)], .no, .opt 5 [(3, .ld (.int .i64 ((y.n - 1 : Nat) : Int))), (8, .ld (.int .i64 ((y.n - 1 : Nat) : Int))), (10, .ld (H8 (y.l.getD (y.n - 1) H0)))], .reg [(1, det (.int .i64 ((spl n : Nat) : Int)))], .yes, .reg [(2, .ld (H8 x)), (4, det (upV (upR (spl n) i x (y.sub 0 (y.n - 1) (Nat.zero_le _) (Nat.sub_le _ _)).l.reverse)))], .both [] [.reg [(0, .ld (H8 ((upR (spl n) i x (y.sub 0 (y.n - 1) (Nat.zero_le _) (Nat.sub_le _ _)).l.reverse).getD H0))), (1, .ld (H8 (y.l.getD (y.n - 1) H0))), (2, det (H8 (nodeF ((upR (spl n) i x (y.sub 0 (y.n - 1) (Nat.zero_le _) (Nat.sub_le _ _)).l.reverse).getD H0) (y.l.getD (y.n - 1) H0))))]]]) (.app ((.refl _)) (.app (.nil _) (.app (.nil _) (.app (.nil _) (.app (hy) (.nil _)))))) (⟨gtf (eq1_f (by omega)), ⟨gtf (eq1_f (by omega)), ⟨gtf (eq1_f (by omega)), ⟨(eq1_f (by omega)), ⟨rfl, ⟨gff (eq1_f (by omega)), ⟨gff (eq1_f (by omega)), ⟨gff (eq1_f (by omega)), ⟨(eq1_f (by omega)), ⟨(ne_lit (k := 0) (by omega)), ⟨ld_sub (sub_nat (b := 1) h1 (big_le hy0)) _, ⟨cut_p y h1, ⟨ld_sub (sub_nat (b := 1) h1 (big_le hy0)) _, ⟨idx_p y h1, ⟨y.load (y.n - 1) rfl (by omega) (by intro q h; simp [h]), ⟨c_lc n h2 hn _, fun _ => ⟨(lt_dec hi), ⟨ld_h32 x, ⟨IH (spl n) i (y.sub 0 (y.n - 1) (Nat.zero_le _) (Nat.sub_le _ _)) (by show y.n - 1 - 0 < y.n; omega) (spl_pos n) hi (spl_le63 h2 hn) _ (hA.app _) (by intro q h; have h : q ∈ y.L := h; simp [h]), fun _ => ⟨fun g => ⟨(), congrArg upV (map_no (up_l x (by omega) h1 hi) g), nofun⟩, fun g => ⟨ld_hs ((upR (spl n) i x (y.sub 0 (y.n - 1) (Nat.zero_le _) (Nat.sub_le _ _)).l.reverse).getD H0) rfl, ⟨ld_hs (y.l.getD (y.n - 1) H0) rfl, ⟨c_nodeF ((upR (spl n) i x (y.sub 0 (y.n - 1) (Nat.zero_le _) (Nat.sub_le _ _)).l.reverse).getD H0) (y.l.getD (y.n - 1) H0) _ (hA.app _), fun _ => ⟨(), congrArg upV (map_yes (up_l x (by omega) h1 hi) g), nofun⟩⟩⟩⟩⟩⟩⟩⟩⟩⟩⟩⟩⟩⟩⟩⟩⟩⟩⟩⟩⟩⟩⟩⟩)
theorem c_rfp_r (n i : Nat) (x : Hx) (y : Hss) (A : Facts) (hA : EnvF RC A) (hy : Sub y.L A) (hn : n ≤ 9223372036854775807) (hy0 : y.n ≤ 1000000) (h2 : 2 ≤ n) (h1 : 1 ≤ y.n) (h0 : i < n) (hi : spl n ≤ i) (IH : ∀ (n i : Nat) (z : Hss), z.n < y.n → 1 ≤ n → i < n → n ≤ 9223372036854775807 → ∀ A, EnvF RC A → Sub z.L A → Gives Tryd.prog 33 [.int .i64 (n : Int), .int .i64 (i : Int), H8 x, z.v] A Unit (fun _ => upV (upR n i x z.l.reverse)) (fun _ => [])) : Gives Tryd.prog 33 [.int .i64 (n : Int), .int .i64 (i : Int), H8 x, y.v] A (Unit) (fun _ => upV (upR n i x y.l.reverse)) (fun _ => []) :=
  gives_of_vcF Tryd.mixed good_merkle_rootFromProof (args := [(.int .i64 (n : Int), []), (.int .i64 (i : Int), []), (H8 x, []), (y.v, y.L)]) (B := A) (O := [.reg [(3, .no), (4, .no), (5, .no), (6, .no)], .no, .reg [(3, .yes), (4, .yes), (5, .yes), (6, .no)], .no, .opt 5 [(3, .ld (.int .i64 ((y.n - 1 : Nat) : Int))), (8, .ld (.int .i64 ((y.n - 1 : Nat) : Int))), (10, .ld (H8 (y.l.getD (y.n - 1) H0)))], .reg [(1, det (.int .i64 ((spl n : Nat) : Int)))], .no, .reg [(2, .ld (.int .i64 ((n - spl n : Nat) : Int))), (5, .ld (.int .i64 ((i - spl n : Nat) : Int))), (6, .ld (H8 x)), (8, det (upV (upR (n - spl n) (i - spl n) x (y.sub 0 (y.n - 1) (Nat.zero_le _) (Nat.sub_le _ _)).l.reverse)))], .both [] [.reg [(0, .ld (H8 (y.l.getD (y.n - 1) H0))), (1, .ld (H8 ((upR (n - spl n) (i - spl n) x (y.sub 0 (y.n - 1) (Nat.zero_le _) (Nat.sub_le _ _)).l.reverse).getD H0))), (2, det (H8 (nodeF (y.l.getD (y.n - 1) H0) ((upR (n - spl n) (i - spl n) x (y.sub 0 (y.n - 1) (Nat.zero_le _) (Nat.sub_le _ _)).l.reverse).getD H0))))]]]) (.app ((.refl _)) (.app (.nil _) (.app (.nil _) (.app (.nil _) (.app (hy) (.nil _)))))) (⟨gtf (eq1_f (by omega)), ⟨gtf (eq1_f (by omega)), ⟨gtf (eq1_f (by omega)), ⟨(eq1_f (by omega)), ⟨rfl, ⟨gff (eq1_f (by omega)), ⟨gff (eq1_f (by omega)), ⟨gff (eq1_f (by omega)), ⟨(eq1_f (by omega)), ⟨(ne_lit (k := 0) (by omega)), ⟨ld_sub (sub_nat (b := 1) h1 (big_le hy0)) _, ⟨cut_p y h1, ⟨ld_sub (sub_nat (b := 1) h1 (big_le hy0)) _, ⟨idx_p y h1, ⟨y.load (y.n - 1) rfl (by omega) (by intro q h; simp [h]), ⟨c_lc n h2 hn _, fun _ => ⟨(ge_dec hi), ⟨ld_sub (sub_nat (Nat.le_of_lt (spl_lt h2)) hn) _, ⟨ld_sub (sub_nat hi (by omega)) _, ⟨ld_h32 x, ⟨IH (n - spl n) (i - spl n) (y.sub 0 (y.n - 1) (Nat.zero_le _) (Nat.sub_le _ _)) (by show y.n - 1 - 0 < y.n; omega) (by have := spl_lt h2; omega) (by omega) (by omega) _ (hA.app _) (by intro q h; have h : q ∈ y.L := h; simp [h]), fun _ => ⟨fun g => ⟨(), congrArg upV (map_no (up_r x (by omega) h1 hi) g), nofun⟩, fun g => ⟨ld_hs (y.l.getD (y.n - 1) H0) rfl, ⟨ld_hs ((upR (n - spl n) (i - spl n) x (y.sub 0 (y.n - 1) (Nat.zero_le _) (Nat.sub_le _ _)).l.reverse).getD H0) rfl, ⟨c_nodeF (y.l.getD (y.n - 1) H0) ((upR (n - spl n) (i - spl n) x (y.sub 0 (y.n - 1) (Nat.zero_le _) (Nat.sub_le _ _)).l.reverse).getD H0) _ (hA.app _), fun _ => ⟨(), congrArg upV (map_yes (up_r x (by omega) h1 hi) g), nofun⟩⟩⟩⟩⟩⟩⟩⟩⟩⟩⟩⟩⟩⟩⟩⟩⟩⟩⟩⟩⟩⟩⟩⟩⟩⟩)
theorem c_rfp_any (x : Hx) : ∀ (k : Nat) (n i : Nat) (y : Hss), y.n = k → y.n ≤ 1000000 → 1 ≤ n → i < n → n ≤ 9223372036854775807 → ∀ A, EnvF RC A → Sub y.L A → Gives Tryd.prog 33 [.int .i64 (n : Int), .int .i64 (i : Int), H8 x, y.v] A Unit (fun _ => upV (upR n i x y.l.reverse)) (fun _ => []) := by
  intro k
  induction k using Nat.strongRecOn with
  | ind k ih =>
    intro n i y hk hy0 h0 hi hn A hA hy
    by_cases h1 : n = 1
    · subst h1
      by_cases h : y.n = 0
      · exact c_rfp_a i x y A hA hy h
      · exact c_rfp_b i x y A hA hy h
    · by_cases h : y.n = 0
      · exact c_rfp_c n i x y A hA hy h1 h
      · have IH := fun (n i : Nat) (z : Hss) (hz : z.n < y.n) h1 h2 h3 => ih z.n (by omega) n i z rfl (by omega) h1 h2 h3
        by_cases hs : i < spl n
        · exact c_rfp_l n i x y A hA hy hn hy0 (by omega) (by omega) hs IH
        · exact c_rfp_r n i x y A hA hy hn hy0 (by omega) (by omega) hi (by omega) IH
theorem t_up_a (i : Nat) (x : Hx) (y : Hss) (A : Facts) (hy : Sub y.L A) (h : y.n = 0) : Gives Tryd.prog 34 [.int .i64 1, .int .i64 (i : Int), H8 x, y.v] A (Unit) (fun _ => .tuple #[H8 (upJ 1 i x y.l.reverse), .bool (upR 1 i x y.l.reverse).isSome]) (fun _ => []) :=
  gives_of_vcF Tryd.mixed good_pontageref8_up (args := [(.int .i64 1, []), (.int .i64 (i : Int), []), (H8 x, []), (y.v, y.L)]) (B := A) (O := [.yes, .opt 2 [(0, .ld (H8 x))]]) (.app ((.refl _)) (.app (.nil _) (.app (.nil _) (.app (.nil _) (.app (hy) (.nil _)))))) (⟨rfl, ⟨ld_h32 x, ⟨(), tup2 (upJ_1 i x) (by rw [← up_a i x h, h]; rfl), nofun⟩⟩⟩)
theorem t_up_b (i : Nat) (x : Hx) (y : Hss) (A : Facts) (hy : Sub y.L A) (h : y.n ≠ 0) : Gives Tryd.prog 34 [.int .i64 1, .int .i64 (i : Int), H8 x, y.v] A (Unit) (fun _ => .tuple #[H8 (upJ 1 i x y.l.reverse), .bool (upR 1 i x y.l.reverse).isSome]) (fun _ => []) :=
  gives_of_vcF Tryd.mixed good_pontageref8_up (args := [(.int .i64 1, []), (.int .i64 (i : Int), []), (H8 x, []), (y.v, y.L)]) (B := A) (O := [.yes, .opt 2 [(0, .ld (H8 x))]]) (.app ((.refl _)) (.app (.nil _) (.app (.nil _) (.app (.nil _) (.app (hy) (.nil _)))))) (⟨rfl, ⟨ld_h32 x, ⟨(), tup2 (upJ_1 i x) (by rw [← up_b i x h]; exact ne_lit (k := 0) h), nofun⟩⟩⟩)
theorem t_up_c (n i : Nat) (x : Hx) (y : Hss) (A : Facts) (hy : Sub y.L A) (hn : n ≠ 1) (h : y.n = 0) : Gives Tryd.prog 34 [.int .i64 (n : Int), .int .i64 (i : Int), H8 x, y.v] A (Unit) (fun _ => .tuple #[H8 (upJ n i x y.l.reverse), .bool (upR n i x y.l.reverse).isSome]) (fun _ => []) :=
  gives_of_vcF Tryd.mixed good_pontageref8_up (args := [(.int .i64 (n : Int), []), (.int .i64 (i : Int), []), (H8 x, []), (y.v, y.L)]) (B := A) (O := [.no, .yes, .opt 4 [(0, .ld (H8 x))]]) (.app ((.refl _)) (.app (.nil _) (.app (.nil _) (.app (.nil _) (.app (hy) (.nil _)))))) (⟨(eq1_f hn), ⟨(eq_lit h), ⟨ld_h32 x, ⟨(), tup2 (upJ_0 n i x h) (by rw [← up_c i x hn h]; rfl), nofun⟩⟩⟩⟩)
theorem t_up_l (n i : Nat) (x : Hx) (y : Hss) (A : Facts) (hy : Sub y.L A) (hn : n ≤ 9223372036854775807) (hy0 : y.n ≤ 1000000) (h2 : 2 ≤ n) (h1 : 1 ≤ y.n) (hi : i < spl n) (IH : ∀ (n i : Nat) (z : Hss), z.n < y.n → 1 ≤ n → i < n → n ≤ 9223372036854775807 → ∀ A, Sub z.L A → Gives Tryd.prog 34 [.int .i64 (n : Int), .int .i64 (i : Int), H8 x, z.v] A Unit (fun _ => .tuple #[H8 (upJ n i x z.l.reverse), .bool (upR n i x z.l.reverse).isSome]) (fun _ => [])) : Gives Tryd.prog 34 [.int .i64 (n : Int), .int .i64 (i : Int), H8 x, y.v] A (Unit) (fun _ => .tuple #[H8 (upJ n i x y.l.reverse), .bool (upR n i x y.l.reverse).isSome]) (fun _ => []) :=
  gives_of_vcF Tryd.mixed good_pontageref8_up (args := [(.int .i64 (n : Int), []), (.int .i64 (i : Int), []), (H8 x, []), (y.v, y.L)]) (B := A) (O := [.no, .no, .opt 5 [(3, .ld (.int .i64 ((y.n - 1 : Nat) : Int))), (5, .ld (H8 (y.l.getD (y.n - 1) H0)))], .reg [(1, det (.int .i64 ((spl n : Nat) : Int)))], .yes, .reg [(2, .ld (H8 x)), (6, .ld (.int .i64 ((y.n - 1 : Nat) : Int))), (8, det (.tuple #[H8 (upJ (spl n) i x (y.sub 0 (y.n - 1) (Nat.zero_le _) (Nat.sub_le _ _)).l.reverse), .bool (upR (spl n) i x (y.sub 0 (y.n - 1) (Nat.zero_le _) (Nat.sub_le _ _)).l.reverse).isSome]))], .reg [(0, .ld (H8 (upJ (spl n) i x (y.sub 0 (y.n - 1) (Nat.zero_le _) (Nat.sub_le _ _)).l.reverse))), (1, .ld (H8 (y.l.getD (y.n - 1) H0))), (2, det (H8 (nodeF (upJ (spl n) i x (y.sub 0 (y.n - 1) (Nat.zero_le _) (Nat.sub_le _ _)).l.reverse) (y.l.getD (y.n - 1) H0))))]]) (.app ((.refl _)) (.app (.nil _) (.app (.nil _) (.app (.nil _) (.app (hy) (.nil _)))))) (⟨(eq1_f (by omega)), ⟨(ne_lit (k := 0) (by omega)), ⟨ld_sub (sub_nat (b := 1) h1 (big_le hy0)) _, ⟨idx_p y h1, ⟨y.load (y.n - 1) rfl (by omega) (by intro q h; simp [h]), ⟨t_sp n h2 hn _, fun _ => ⟨(lt_dec hi), ⟨ld_h32 x, ⟨ld_sub (sub_nat (b := 1) h1 (big_le hy0)) _, ⟨cut_p y h1, ⟨IH (spl n) i (y.sub 0 (y.n - 1) (Nat.zero_le _) (Nat.sub_le _ _)) (by show y.n - 1 - 0 < y.n; omega) (spl_pos n) hi (spl_le63 h2 hn) _ (by intro q h; have h : q ∈ y.L := h; simp [h]), fun _ => ⟨ld_hs (upJ (spl n) i x (y.sub 0 (y.n - 1) (Nat.zero_le _) (Nat.sub_le _ _)).l.reverse) rfl, ⟨ld_hs (y.l.getD (y.n - 1) H0) rfl, ⟨t_nodeF (upJ (spl n) i x (y.sub 0 (y.n - 1) (Nat.zero_le _) (Nat.sub_le _ _)).l.reverse) (y.l.getD (y.n - 1) H0) _, fun _ => ⟨(), tup2 (upJ_l x (by omega) h1 hi) (is_map (up_l x (by omega) h1 hi)), nofun⟩⟩⟩⟩⟩⟩⟩⟩⟩⟩⟩⟩⟩⟩⟩)
theorem t_up_r (n i : Nat) (x : Hx) (y : Hss) (A : Facts) (hy : Sub y.L A) (hn : n ≤ 9223372036854775807) (hy0 : y.n ≤ 1000000) (h2 : 2 ≤ n) (h1 : 1 ≤ y.n) (h0 : i < n) (hi : spl n ≤ i) (IH : ∀ (n i : Nat) (z : Hss), z.n < y.n → 1 ≤ n → i < n → n ≤ 9223372036854775807 → ∀ A, Sub z.L A → Gives Tryd.prog 34 [.int .i64 (n : Int), .int .i64 (i : Int), H8 x, z.v] A Unit (fun _ => .tuple #[H8 (upJ n i x z.l.reverse), .bool (upR n i x z.l.reverse).isSome]) (fun _ => [])) : Gives Tryd.prog 34 [.int .i64 (n : Int), .int .i64 (i : Int), H8 x, y.v] A (Unit) (fun _ => .tuple #[H8 (upJ n i x y.l.reverse), .bool (upR n i x y.l.reverse).isSome]) (fun _ => []) :=
  gives_of_vcF Tryd.mixed good_pontageref8_up (args := [(.int .i64 (n : Int), []), (.int .i64 (i : Int), []), (H8 x, []), (y.v, y.L)]) (B := A) (O := [.no, .no, .opt 5 [(3, .ld (.int .i64 ((y.n - 1 : Nat) : Int))), (5, .ld (H8 (y.l.getD (y.n - 1) H0)))], .reg [(1, det (.int .i64 ((spl n : Nat) : Int)))], .no, .reg [(2, .ld (.int .i64 ((n - spl n : Nat) : Int))), (5, .ld (.int .i64 ((i - spl n : Nat) : Int))), (6, .ld (H8 x)), (10, .ld (.int .i64 ((y.n - 1 : Nat) : Int))), (12, det (.tuple #[H8 (upJ (n - spl n) (i - spl n) x (y.sub 0 (y.n - 1) (Nat.zero_le _) (Nat.sub_le _ _)).l.reverse), .bool (upR (n - spl n) (i - spl n) x (y.sub 0 (y.n - 1) (Nat.zero_le _) (Nat.sub_le _ _)).l.reverse).isSome]))], .reg [(0, .ld (H8 (y.l.getD (y.n - 1) H0))), (1, .ld (H8 (upJ (n - spl n) (i - spl n) x (y.sub 0 (y.n - 1) (Nat.zero_le _) (Nat.sub_le _ _)).l.reverse))), (2, det (H8 (nodeF (y.l.getD (y.n - 1) H0) (upJ (n - spl n) (i - spl n) x (y.sub 0 (y.n - 1) (Nat.zero_le _) (Nat.sub_le _ _)).l.reverse))))]]) (.app ((.refl _)) (.app (.nil _) (.app (.nil _) (.app (.nil _) (.app (hy) (.nil _)))))) (⟨(eq1_f (by omega)), ⟨(ne_lit (k := 0) (by omega)), ⟨ld_sub (sub_nat (b := 1) h1 (big_le hy0)) _, ⟨idx_p y h1, ⟨y.load (y.n - 1) rfl (by omega) (by intro q h; simp [h]), ⟨t_sp n h2 hn _, fun _ => ⟨(ge_dec hi), ⟨ld_sub (sub_nat (Nat.le_of_lt (spl_lt h2)) hn) _, ⟨ld_sub (sub_nat hi (by omega)) _, ⟨ld_h32 x, ⟨ld_sub (sub_nat (b := 1) h1 (big_le hy0)) _, ⟨cut_p y h1, ⟨IH (n - spl n) (i - spl n) (y.sub 0 (y.n - 1) (Nat.zero_le _) (Nat.sub_le _ _)) (by show y.n - 1 - 0 < y.n; omega) (by have := spl_lt h2; omega) (by omega) (by omega) _ (by intro q h; have h : q ∈ y.L := h; simp [h]), fun _ => ⟨ld_hs (y.l.getD (y.n - 1) H0) rfl, ⟨ld_hs (upJ (n - spl n) (i - spl n) x (y.sub 0 (y.n - 1) (Nat.zero_le _) (Nat.sub_le _ _)).l.reverse) rfl, ⟨t_nodeF (y.l.getD (y.n - 1) H0) (upJ (n - spl n) (i - spl n) x (y.sub 0 (y.n - 1) (Nat.zero_le _) (Nat.sub_le _ _)).l.reverse) _, fun _ => ⟨(), tup2 (upJ_r x (by omega) h1 hi) (is_map (up_r x (by omega) h1 hi)), nofun⟩⟩⟩⟩⟩⟩⟩⟩⟩⟩⟩⟩⟩⟩⟩⟩⟩)
theorem t_up_any (x : Hx) : ∀ (k : Nat) (n i : Nat) (y : Hss), y.n = k → y.n ≤ 1000000 → 1 ≤ n → i < n → n ≤ 9223372036854775807 → ∀ A, Sub y.L A → Gives Tryd.prog 34 [.int .i64 (n : Int), .int .i64 (i : Int), H8 x, y.v] A Unit (fun _ => .tuple #[H8 (upJ n i x y.l.reverse), .bool (upR n i x y.l.reverse).isSome]) (fun _ => []) := by
  intro k
  induction k using Nat.strongRecOn with
  | ind k ih =>
    intro n i y hk hy0 h0 hi hn A hy
    by_cases h1 : n = 1
    · subst h1
      by_cases h : y.n = 0
      · exact t_up_a i x y A hy h
      · exact t_up_b i x y A hy h
    · by_cases h : y.n = 0
      · exact t_up_c n i x y A hy h1 h
      · have IH := fun (n i : Nat) (z : Hss) (hz : z.n < y.n) h1 h2 h3 => ih z.n (by omega) n i z rfl (by omega) h1 h2 h3
        by_cases hs : i < spl n
        · exact t_up_l n i x y A hy hn hy0 (by omega) (by omega) hs IH
        · exact t_up_r n i x y A hy hn hy0 (by omega) (by omega) hi (by omega) IH
end Go.Proofs.YtgbfolkpgmjaeaaDoor

