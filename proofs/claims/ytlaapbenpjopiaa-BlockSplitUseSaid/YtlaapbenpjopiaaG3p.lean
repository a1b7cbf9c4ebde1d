/- Package backlog over this translation and its reference: the backlog with gas added, less a product; the same results for both; the example of layer 13. No conditions. -/
import Derived.Test.YtlaapbenpjopiaaSxr
import Derived.Test.YtlaapbenpjopiaaSxw
namespace Go.Proofs.Ytlaapbenpjopiaa
open Go.RowKit Sx
set_option maxRecDepth 100000

abbrev wd (n : Nat) : Value := .int .u64 (n : Int)
/-- The backlog with gas added: at most the greatest number. -/
def sumS (b g : Nat) : Nat := min (b + g) 18446744073709551615
/-- The backlog less a product: no less than 0. -/
def resS (b x y : Nat) : Nat := b - x * y
theorem sumS_lt (b g : Nat) : sumS b g < 18446744073709551616 := by unfold sumS; omega
theorem resS_le (b x y : Nat) : resS b x y ≤ b := Nat.sub_le _ _
theorem resS_lt {b : Nat} (h : b < 18446744073709551616) (x y : Nat) : resS b x y < 18446744073709551616 := Nat.lt_of_le_of_lt (resS_le b x y) h
theorem nz_k {k : Nat} (h : ((k : Int) != 0) = true) : k ≠ 0 := by simpa using h
theorem ez_k {k : Nat} (h : ((k : Int) != 0) = false) : k = 0 := by simpa using h
section
variable {a b x y : Nat}
theorem ad_1 (h : ((((a + b) / 18446744073709551616 : Nat) : Int) != 0) = true) : Value.int .u64 18446744073709551615 = wd (sumS a b) := by
  have h1 := nz_k h
  have h2 : sumS a b = 18446744073709551615 := by unfold sumS; omega
  rw [h2]
  rfl
theorem ad_2 (h : ((((a + b) / 18446744073709551616 : Nat) : Int) != 0) = false) : Value.int .u64 (((a + b) % 18446744073709551616 : Nat) : Int) = wd (sumS a b) := by
  have h1 := ez_k h
  have h2 : (a + b) % 18446744073709551616 = sumS a b := by unfold sumS; omega
  rw [h2]
theorem ls_hi (h : ¬ x * y / 18446744073709551616 = 0) : (((x * y / 18446744073709551616 : Nat) : Int) != 0) = true := by simp; omega
theorem ls_lo (h : x * y / 18446744073709551616 = 0) : (((x * y / 18446744073709551616 : Nat) : Int) != 0) = false := by rw [h]; rfl
theorem ls_1 (hb : b < 18446744073709551616) (h : ¬ x * y / 18446744073709551616 = 0) : Value.int .u64 0 = wd (resS b x y) := by
  have h2 : resS b x y = 0 := by unfold resS; generalize x * y = z at h ⊢; omega
  rw [h2]
  rfl
theorem ls_2 (h : x * y / 18446744073709551616 = 0) (g : decide (((x * y % 18446744073709551616 : Nat) : Int) > (b : Int)) = true) : Value.int .u64 0 = wd (resS b x y) := by
  have g1 := of_decide_eq_true g
  have h2 : resS b x y = 0 := by unfold resS; generalize x * y = z at h g1 ⊢; omega
  rw [h2]
  rfl
theorem ls_3 (hb : b < 18446744073709551616) (h : x * y / 18446744073709551616 = 0) (g : decide (((x * y % 18446744073709551616 : Nat) : Int) > (b : Int)) = false) : IntKind.u64.wrap ((b : Int) - ((x * y % 18446744073709551616 : Nat) : Int)) = ((resS b x y : Nat) : Int) := by
  have g1 := of_decide_eq_false g
  unfold resS
  generalize x * y = z at h g1 ⊢
  rw [wn_sub (by omega) hb]
  omega
theorem le_c (g : decide (cmpI b (x * y) ≤ 0) = true) : Value.int .u64 0 = wd (resS b x y) := by
  have g1 := of_decide_eq_true g
  have h2 : resS b x y = 0 := by
    unfold resS
    unfold cmpI at g1
    generalize x * y = z at g1 ⊢
    split at g1
    · omega
    · split at g1
      · omega
      · omega
  rw [h2]
  rfl
theorem gt_c (g : decide (cmpI b (x * y) ≤ 0) = false) : x * y ≤ b := by
  have g1 := of_decide_eq_false g
  unfold cmpI at g1
  generalize x * y = z at g1 ⊢
  split at g1
  · omega
  · split at g1
    · omega
    · omega
theorem mul_B (hx : x < 18446744073709551616) (hy : y < 18446744073709551616) : x * y < B256 := by
  have : x * y < 18446744073709551616 * 18446744073709551616 := Nat.mul_lt_mul'' hx hy
  unfold B256
  omega
theorem su_1 (h : (!decide (a + b < 18446744073709551616)) = true) : Value.int .u64 18446744073709551615 = wd (sumS a b) := by
  have h1 : ¬ a + b < 18446744073709551616 := by simpa using h
  have h2 : sumS a b = 18446744073709551615 := by unfold sumS; omega
  rw [h2]
  rfl
theorem su_2 (h : (!decide (a + b < 18446744073709551616)) = false) : Value.int .u64 ((lowN (a + b) : Nat) : Int) = wd (sumS a b) := by
  have h1 : a + b < 18446744073709551616 := by simpa using h
  have h2 : lowN (a + b) = sumS a b := by unfold sumS lowN; rw [if_pos h1]; omega
  rw [h2]
theorem sum_B (ha : a < 18446744073709551616) (hb : b < 18446744073709551616) : a + b < B256 := by unfold B256; omega
end
theorem good_backlog_Excess : Good Try.prog 37 Try.f37 3 := ⟨Try.func37, by kernel_rfl, by kernel_rfl⟩
theorem good_backlog_lessProduct : Good Try.prog 51 Try.f51 3 := ⟨Try.func51, by kernel_rfl, by kernel_rfl⟩
theorem good_pontageref13_Excess : Good Try.prog 28 Try.f28 3 := ⟨Try.func28, by kernel_rfl, by kernel_rfl⟩
theorem good_pontageref13_rest : Good Try.prog 42 Try.f42 3 := ⟨Try.func42, by kernel_rfl, by kernel_rfl⟩
theorem p_less13 (b x y : Nat) (hb : b < 18446744073709551616) (hx : x < 18446744073709551616) (hy : y < 18446744073709551616) : Det Try.prog 51 [wd b, wd x, wd y] (wd (resS b x y)) :=
  det_of_vc Try.mixed good_backlog_lessProduct (O := [.reg [(2, det (.tuple #[wd (x * y / 18446744073709551616), wd (x * y % 18446744073709551616)]))], .alt [(¬ x * y / 18446744073709551616 = 0, [(3, .no), (4, .no), (5, .no), (6, .yes)], [.yes]), (True, [(3, .yes), (4, .yes), (5, .yes), (6, .no)], [.both [] []])]]) fun _ => ⟨w_mul64 x y hx hy _, fun _ => ⟨fun h => ⟨gft (ls_hi h), ⟨gft (ls_hi h), ⟨gft (ls_hi h), ⟨(ls_hi h), ⟨rfl, ⟨(), ls_1 hb h, nofun⟩⟩⟩⟩⟩⟩, fun h => ⟨fun _ => ⟨gff (ls_lo (Decidable.not_not.1 h)), ⟨gff (ls_lo (Decidable.not_not.1 h)), ⟨gff (ls_lo (Decidable.not_not.1 h)), ⟨(ls_lo (Decidable.not_not.1 h)), ⟨fun g => ⟨(), ls_2 (Decidable.not_not.1 h) g, nofun⟩, fun g => ⟨(), congrArg _ (ls_3 hb (Decidable.not_not.1 h) g), nofun⟩⟩⟩⟩⟩⟩, fun h => (h trivial).elim⟩⟩⟩
theorem p_exc13 (b x y : Nat) (hb : b < 18446744073709551616) (hx : x < 18446744073709551616) (hy : y < 18446744073709551616) : Det Try.prog 37 [wd b, wd x, wd y] (wd (resS b x y)) :=
  det_of_vc Try.mixed good_backlog_Excess (O := [.reg [(3, det (wd (resS b x y)))]]) fun _ => ⟨p_less13 b x y hb hx hy _, fun _ => ⟨(), rfl, nofun⟩⟩
theorem r_rest13 (b x y : Nat) (hb : b < 18446744073709551616) (hx : x < 18446744073709551616) (hy : y < 18446744073709551616) : Det Try.prog 42 [wd b, wd x, wd y] (wd (resS b x y)) :=
  det_of_vc Try.mixed good_pontageref13_rest (O := [.reg [(1, big b), (3, big x), (5, big y), (6, big (x * y))], .reg [(2, det (.int .i64 (cmpI b (x * y))))], .both [] [.reg [(2, big (b - x * y)), (3, det (U (b - x * y)))]]]) fun _ => ⟨c_from64 b hb _, fun xb => ⟨c_from64 x hx _, fun xx => ⟨c_from64 y hy _, fun xy => ⟨c_mul xx xy (Nat.le_succ_of_le (nd_256 (lt_B hx))) (Nat.le_succ_of_le (nd_256 (lt_B hy))) _ (by intro q h; simp [h]) (by intro q h; simp [h]), fun z => ⟨c_cmp xb z _ (by intro q h; simp [h]) (by intro q h; simp [h]), fun _ => ⟨fun g => ⟨(), le_c g, nofun⟩, fun g => ⟨c_sub xb z (Nat.le_succ_of_le (nd_256 (lt_B hb))) (gt_c g) _ (by intro q h; simp [h]) (by intro q h; simp [h]), fun s => ⟨c_to s (lt_B (resS_lt hb x y)) _ (by intro q h; simp [h]), fun _ => ⟨⟨by decide, by decide⟩, ⟨(), congrArg _ (limb_self (resS_lt hb x y)), nofun⟩⟩⟩⟩⟩⟩⟩⟩⟩⟩
theorem r_exc13 (b x y : Nat) (hb : b < 18446744073709551616) (hx : x < 18446744073709551616) (hy : y < 18446744073709551616) : Det Try.prog 28 [wd b, wd x, wd y] (wd (resS b x y)) :=
  det_of_vc Try.mixed good_pontageref13_Excess (O := [.reg [(3, det (wd (resS b x y)))]]) fun _ => ⟨r_rest13 b x y hb hx hy _, fun _ => ⟨(), rfl, nofun⟩⟩
theorem aw_1 : (((resS 100 7 20 : Nat) : Int) == 0) = true := by decide +kernel
theorem aw_2 : (((resS 100 7 10 : Nat) : Int) == 30) = true := by decide +kernel
theorem aw_3 : (((sumS 18446744073709551615 5 : Nat) : Int) == 18446744073709551615) = true := by decide +kernel
end Go.Proofs.Ytlaapbenpjopiaa

