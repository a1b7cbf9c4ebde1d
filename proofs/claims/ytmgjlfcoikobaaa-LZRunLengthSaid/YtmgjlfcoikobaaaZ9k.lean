/- The law LZRunLength. No conditions. -/
import Derived.Test.YtmgjlfcoikobaaaZ9l
namespace Go.Proofs.Ytmgjlfcoikobaaa
open Go.RowKit Sx
set_option maxRecDepth 100000

/-- A row that is filled from its beginning. -/
def fillB (b : UInt8) (k j : Nat) : Bs := List.replicate j b ++ List.replicate (k - j) 0
theorem fill_0 (b : UInt8) (k : Nat) : List.replicate k (Value.int .u8 0) = bcs (fillB b k 0) := by
  unfold fillB bcs
  rw [List.replicate_zero, List.nil_append, List.map_replicate, Nat.sub_zero]; rfl
theorem fill_len (b : UInt8) {k j : Nat} (h : j ≤ k) : (fillB b k j).length = k := by
  unfold fillB; rw [List.length_append, List.length_replicate, List.length_replicate]; omega
theorem fill_end (b : UInt8) {k j : Nat} (h : k ≤ j) (hj : j ≤ k) : fillB b k j = List.replicate k b := by
  unfold fillB; rw [show j = k by omega, Nat.sub_self, List.replicate_zero, List.append_nil]
theorem fill_next (b : UInt8) {k j : Nat} (h : j < k) : (fillB b k j).set j b = fillB b k (j + 1) := by
  unfold fillB
  rw [List.set_append_right _ _ (by rw [List.length_replicate]; exact Nat.le_refl _), List.length_replicate, Nat.sub_self]
  obtain ⟨r, hr⟩ : ∃ r, k - j = r + 1 := ⟨k - j - 1, by omega⟩
  rw [hr, show k - (j + 1) = r by omega, List.replicate_succ, List.set_cons_zero, List.replicate_succ', List.append_assoc]
  rfl
theorem fill_set (b : UInt8) {k j : Nat} (h : j < k) : setRange (bcs (fillB b k j)) (0 + (j : Int).toNat * 1) [.int .u8 (b.toNat : Int)] = bcs (fillB b k (j + 1)) := by
  have := bcs_set (fillB b k j) j b (by rw [fill_len b (Nat.le_of_lt h)]; exact h) []
  rw [List.append_nil, List.append_nil, fill_next b h] at this
  rw [Nat.zero_add, Nat.mul_one, Int.toNat_natCast]
  exact this
theorem fill_in (b : UInt8) {k j : Nat} (h : j < k) : (0 + (j : Int).toNat * 1) + 1 ≤ (bcs (fillB b k j)).length := by
  rw [bcs_length, fill_len b (Nat.le_of_lt h), Nat.zero_add, Nat.mul_one, Int.toNat_natCast]; exact h
/-- A row of its own, its length named. -/
def Byt.rowk (m : Nat) (l : Bs) (k : Nat) (hk : l.length = k) : Byt where
  o := some ⟨m, 0, none⟩
  n := k
  cap := k
  l := l
  L := [(m, .cells (bcs l).toArray 5)]
  hl := hk
  hc := Nat.le_refl _
  hs := fun _ => rfl
  h := fun w hw i hi => (Byt.row m l).h w hw i (by rw [← hk] at hi; exact hi)
abbrev runK (n : Int) : Nat := 1 + modI n 3000
theorem runK_le (n : Int) : 1 ≤ runK n ∧ runK n ≤ 3000 := by
  have := modI_lt n (n := 3000) (by decide)
  show 1 ≤ 1 + modI n 3000 ∧ 1 + modI n 3000 ≤ 3000
  omega
theorem mk_1 (n : Int) : 1 * runK n ≤ 281474976710656 := by have := runK_le n; omega
theorem q131 {k : Nat} (h : k ≤ 3000) : IntKind.i64.wrap (3 * IntKind.i64.wrap (((k - 1 : Nat) : Int).tdiv 131)) = ((3 * ((k - 1) / 131) : Nat) : Int) := by
  rw [show (((k - 1 : Nat) : Int).tdiv 131) = (((k - 1) / 131 : Nat) : Int) from rfl, wrap_nat (by omega), show (3 * (((k - 1) / 131 : Nat) : Int)) = ((3 * ((k - 1) / 131) : Nat) : Int) by omega, wrap_nat (by omega)]
theorem geq4_t {a : Nat} (h : decide (((a : Int).tmod 131) ≥ 4) = true) : 4 ≤ a % 131 := by
  have h := of_decide_eq_true h
  rw [show ((a : Int).tmod 131) = ((a % 131 : Nat) : Int) from rfl] at h; omega
theorem geq4_f {a : Nat} (h : decide (((a : Int).tmod 131) ≥ 4) = false) : a % 131 < 4 := by
  have h := of_decide_eq_false h
  rw [show ((a : Int).tmod 131) = ((a % 131 : Nat) : Int) from rfl] at h; omega
theorem rem0_t {a : Nat} (h : 0 < a % 131) : decide (((a : Int).tmod 131) > 0) = true := by
  rw [show ((a : Int).tmod 131) = ((a % 131 : Nat) : Int) from rfl]; apply decide_eq_true; omega
theorem rem0_f {a : Nat} (h : ¬ 0 < a % 131) : decide (((a : Int).tmod 131) > 0) = false := by
  rw [show ((a : Int).tmod 131) = ((a % 131 : Nat) : Int) from rfl]; apply decide_eq_false; omega
theorem quo0_t {k : Nat} (hk : k ≤ 3000) (h : decide (IntKind.i64.wrap (((k - 1 : Nat) : Int).tdiv 131) > 0) = true) : 0 < (k - 1) / 131 := by
  have h := of_decide_eq_true h
  rw [show (((k - 1 : Nat) : Int).tdiv 131) = (((k - 1) / 131 : Nat) : Int) from rfl, wrap_nat (by omega)] at h; omega
theorem quo0_f {k : Nat} (hk : k ≤ 3000) (h : decide (IntKind.i64.wrap (((k - 1 : Nat) : Int).tdiv 131) > 0) = false) : ¬ 0 < (k - 1) / 131 := by
  have h := of_decide_eq_false h
  rw [show (((k - 1 : Nat) : Int).tdiv 131) = (((k - 1) / 131 : Nat) : Int) from rfl, wrap_nat (by omega)] at h; omega
theorem add_rem {a k : Nat} (h : a + k ≤ 100000) : IntKind.i64.wrap ((a : Int) + (k : Int).tmod 131) = ((a + k % 131 : Nat) : Int) := by
  rw [show ((k : Int).tmod 131) = ((k % 131 : Nat) : Int) from rfl, show ((a : Int) + ((k % 131 : Nat) : Int)) = ((a + k % 131 : Nat) : Int) by omega, wrap_nat (by omega)]
theorem eqn_t {a b : Nat} (h : a = b) : ((a : Int) == (b : Int)) = true := by subst h; simp
section
variable {l : Bs} {b : UInt8} {k : Nat} (e : l = List.replicate k b) (h : 1 ≤ k)
include e h
theorem rl_1 : (comp l).getD 1 0 = b := by rw [e]; exact (rep_comp b h).2
theorem rl_2 : 2 ≤ (comp l).length := by rw [e, (rep_comp b h).1]; omega
theorem rl_a (h4 : 4 ≤ (k - 1) % 131) : (comp l).length = 2 + 3 * ((k - 1) / 131) + 3 := by rw [e, (rep_comp b h).1, if_pos h4]
theorem rl_b (h4 : (k - 1) % 131 < 4) (h0 : 0 < (k - 1) % 131) (h1 : 0 < (k - 1) / 131) : (comp l).length = 2 + 3 * ((k - 1) / 131) + 1 + (k - 1) % 131 := by rw [e, (rep_comp b h).1, if_neg (by omega), if_pos ⟨h0, h1⟩]; omega
theorem rl_c (h4 : (k - 1) % 131 < 4) (h0 : ¬ (0 < (k - 1) % 131 ∧ 0 < (k - 1) / 131)) : (comp l).length = 2 + 3 * ((k - 1) / 131) + (k - 1) % 131 := by rw [e, (rep_comp b h).1, if_neg (by omega), if_neg h0]
end
theorem good_pontagelaw9_LZRunLength : Good Try.prog 7 Try.f7 2 := ⟨Try.func7, by kernel_rfl, by kernel_rfl⟩
theorem l_rl (b : UInt8) (n : Int) (A : Facts) : Gives Try.prog 7 [.int .u8 (b.toNat : Int), .int .i64 n] A (Unit) (fun _ => .bool true) (fun _ => []) :=
  gives_of_vcF Try.mixed good_pontagelaw9_LZRunLength (args := [(.int .u8 (b.toNat : Int), []), (.int .i64 n, [])]) (B := A) (O := [.reg [(1, det (.int .i64 ((modI n 3000 : Nat) : Int))), (2, .ld (.int .i64 (((runK n) : Nat) : Int)))], .opt 2 [(1, .mk (runK n))], .inv (Upto (runK n)) (fun x : Upto (runK n) => ⟨71, [(0, .v (.int .u8 (b.toNat : Int)) []), (5, .v (.int .i64 (((runK n) : Nat) : Int)) []), (6, .s 6 0 (runK n) (runK n)), (7, .v (.int .i64 ((x.1 : Nat) : Int)) [])], [(6, ⟨5, bcs (fillB b (runK n) x.1), []⟩)], 60⟩) (fun x => (runK n) - x.1) (fun x => [.both [.opt 6 [(4, .mk 0)]] [.pub 7 [6] (fun | [p6] => [.reg [(1, .call (PV (comp (fillB b (runK n) x.1))) (pv0 _) (fun p => bV (comp (fillB b (runK n) x.1)) p) (fun p => pL (comp (fillB b (runK n) x.1)) p.1))], .reg [(4, .yes), (5, .yes), (6, .ld (.int .u8 (b.toNat : Int))), (7, .yes), (8, .yes), (9, .no)], .no, .opt 10 [(1, .ld (.int .i64 (((runK n) - 1 : Nat) : Int))), (4, .ld (.int .i64 (((runK n) - 1 : Nat) : Int)))], .opt 11 [(1, .ld (.int .i64 ((3 * (((runK n) - 1) / 131) : Nat) : Int))), (2, .ld (.int .i64 (((2 + 3 * (((runK n) - 1) / 131)) : Nat) : Int)))], .both [.opt 13 [(1, .ld (.int .i64 (((2 + 3 * (((runK n) - 1) / 131)) + 3 : Nat) : Int)))], .reg [(5, det (.bool true)), (6, .yes)]] [.alt [(0 < ((runK n) - 1) % 131, [(3, .yes), (4, .yes), (5, .yes)], [.both [.opt 15 [(1, .ld (.int .i64 (((2 + 3 * (((runK n) - 1) / 131)) + 1 : Nat) : Int))), (3, .ld (.int .i64 (((2 + 3 * (((runK n) - 1) / 131)) + 1 + ((runK n) - 1) % 131 : Nat) : Int)))], .reg [(5, det (.bool true)), (6, .yes)]] [.opt 16 [(2, .ld (.int .i64 (((2 + 3 * (((runK n) - 1) / 131)) + ((runK n) - 1) % 131 : Nat) : Int)))], .reg [(5, det (.bool true)), (6, .yes)]]]), (True, [(3, .no), (4, .no), (5, .no)], [.no, .opt 16 [(2, .ld (.int .i64 (((2 + 3 * (((runK n) - 1) / 131)) + ((runK n) - 1) % 131 : Nat) : Int)))], .reg [(5, det (.bool true)), (6, .yes)]])]]] | _ => [])]])]) (.app ((.refl _)) (.app (.nil _) (.app (.nil _) (.nil _)))) (⟨mod_raw n 3000 (by decide) (by decide) _, fun _ => ⟨ld_add (add_n9 (a := 1) (by have := modI_lt n (n := 3000) (by decide); omega)) _, ⟨⟨rfl, rfl, mk_1 n, by have := (runK_le n); omega⟩, fun _ => ⟨⟨⟨0, Nat.zero_le _⟩, rfl, ⟨⟨rfl, nofun⟩, ⟨rfl, nofun⟩, ⟨rfl, rfl, rfl, rfl, rfl⟩, ⟨rfl, nofun⟩, trivial⟩, ⟨⟨rfl, fill_0 b _, nofun⟩, trivial⟩⟩, fun x => ⟨fun g => ⟨⟨Int.natCast_nonneg _, Int.ofNat_lt.2 (lt_t g)⟩, ⟨fill_in b (lt_t g), ⟨⟨x.1 + 1, lt_t g⟩, (by have := lt_t g; show (runK n) - (x.1 + 1) < (runK n) - x.1; omega), rfl, ⟨⟨rfl, nofun⟩, ⟨rfl, nofun⟩, ⟨rfl, rfl, rfl, rfl, rfl⟩, ⟨congrArg _ (add1 (by have := x.2; have := (runK_le n); omega)), nofun⟩, trivial⟩, ⟨⟨rfl, fill_set b (lt_t g), nofun⟩, trivial⟩⟩⟩⟩, fun g => fun p6 => ⟨zc_comp (Byt.rowk p6 (fillB b (runK n) x.1) (runK n) (fill_len b x.2)) (by have := (runK_le n); show (runK n) ≤ _; omega) _ (by intro zz h; obtain rfl := List.mem_singleton.1 h; simp), fun p => ⟨gff (ltn_f (b := 2) (rl_2 (fill_end b (lt_f g) x.2) (runK_le n).1)), ⟨⟨gff (ltn_f (b := 2) (rl_2 (fill_end b (lt_f g) x.2) (runK_le n).1)), (Byt.ofP (comp (fillB b (runK n) x.1)) p).idx (by decide) (Int.ofNat_lt.2 (rl_2 (fill_end b (lt_f g) x.2) (runK_le n).1))⟩, ⟨⟨gff (ltn_f (b := 2) (rl_2 (fill_end b (lt_f g) x.2) (runK_le n).1)), (congrArg (fun t : UInt8 => Value.int .u8 (t.toNat : Int)) (rl_1 (fill_end b (lt_f g) x.2) (runK_le n).1)) ▸ (Byt.ofP (comp (fillB b (runK n) x.1)) p).load 1 rfl (rl_2 (fill_end b (lt_f g) x.2) (runK_le n).1) (by intro zz h; have h : zz ∈ pL (comp (fillB b (runK n) x.1)) p.1 := h; simp [h])⟩, ⟨gff (ltn_f (b := 2) (rl_2 (fill_end b (lt_f g) x.2) (runK_le n).1)), ⟨gff (ltn_f (b := 2) (rl_2 (fill_end b (lt_f g) x.2) (runK_le n).1)), ⟨(ltn_f (b := 2) (rl_2 (fill_end b (lt_f g) x.2) (runK_le n).1)), ⟨(ne_self _), ⟨ld_sub (sub_n9 (b := 1) (runK_le n).1 (by have := (runK_le n); omega)) _, ⟨⟨by decide, rfl⟩, ⟨ld_sub (sub_n9 (b := 1) (runK_le n).1 (by have := (runK_le n); omega)) _, ⟨⟨by decide, rfl⟩, ⟨ld_mul9 (q131 (runK_le n).2) _, ⟨ld_add (add_n9 (a := 2) (by have := (runK_le n); omega)) _, ⟨fun g1 => ⟨ld_add (add_n9 (b := 3) (by have := (runK_le n); omega)) _, ⟨⟨gtt (eqn_t (rl_a (fill_end b (lt_f g) x.2) (runK_le n).1 (geq4_t g1))), z_aw0 _⟩, fun _ => ⟨(eqn_t (rl_a (fill_end b (lt_f g) x.2) (runK_le n).1 (geq4_t g1))), ⟨(), rfl, nofun⟩⟩⟩⟩, fun g1 => ⟨fun h2 => ⟨gtt (rem0_t h2), ⟨gtt (rem0_t h2), ⟨(rem0_t h2), ⟨fun g3 => ⟨ld_add (add_n9 (b := 1) (by have := (runK_le n); omega)) _, ⟨ld_add (add_rem (by have := (runK_le n); omega)) _, ⟨⟨gtt (eqn_t (rl_b (fill_end b (lt_f g) x.2) (runK_le n).1 (geq4_f g1) h2 (quo0_t (runK_le n).2 g3))), z_aw0 _⟩, fun _ => ⟨(eqn_t (rl_b (fill_end b (lt_f g) x.2) (runK_le n).1 (geq4_f g1) h2 (quo0_t (runK_le n).2 g3))), ⟨(), rfl, nofun⟩⟩⟩⟩⟩, fun g3 => ⟨ld_add (add_rem (by have := (runK_le n); omega)) _, ⟨⟨gtt (eqn_t (rl_c (fill_end b (lt_f g) x.2) (runK_le n).1 (geq4_f g1) (fun t => quo0_f (runK_le n).2 g3 t.2))), z_aw0 _⟩, fun _ => ⟨(eqn_t (rl_c (fill_end b (lt_f g) x.2) (runK_le n).1 (geq4_f g1) (fun t => quo0_f (runK_le n).2 g3 t.2))), ⟨(), rfl, nofun⟩⟩⟩⟩⟩⟩⟩⟩, fun h2 => ⟨fun h3 => ⟨gtf (rem0_f h2), ⟨gtf (rem0_f h2), ⟨(rem0_f h2), ⟨rfl, ⟨ld_add (add_rem (by have := (runK_le n); omega)) _, ⟨⟨gtt (eqn_t (rl_c (fill_end b (lt_f g) x.2) (runK_le n).1 (geq4_f g1) (fun t => h2 t.1))), z_aw0 _⟩, fun _ => ⟨(eqn_t (rl_c (fill_end b (lt_f g) x.2) (runK_le n).1 (geq4_f g1) (fun t => h2 t.1))), ⟨(), rfl, nofun⟩⟩⟩⟩⟩⟩⟩⟩, fun h => (h trivial).elim⟩⟩⟩⟩⟩⟩⟩⟩⟩⟩⟩⟩⟩⟩⟩⟩⟩⟩⟩⟩⟩⟩)
theorem l_rl9 (x n : Int) (hx : 0 ≤ x ∧ x < 256) : Gives Try.prog 7 [.int .u8 x, .int .i64 n] [] Unit (fun _ => .bool true) (fun _ => []) := by
  obtain ⟨k, rfl⟩ := Int.eq_ofNat_of_zero_le hx.1
  have := l_rl (UInt8.ofNat k) n []
  rwa [ofNat_lt (by omega)] at this
end Go.Proofs.Ytmgjlfcoikobaaa

