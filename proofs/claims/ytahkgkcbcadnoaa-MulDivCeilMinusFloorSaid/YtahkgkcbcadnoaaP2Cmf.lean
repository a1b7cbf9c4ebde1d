/- The law MulDivCeilMinusFloor holds: for all numbers a, b and c the call returns true, and its arguments read afterwards as they read before. No conditions. -/
import Derived.Test.YtahkgkcbcadnoaaAwake2
import Derived.Test.YtahkgkcbcadnoaaLaw2d
import Derived.Test.YtahkgkcbcadnoaaMin
import Derived.Test.YtahkgkcbcadnoaaOpen
namespace Go.Proofs.Ytahkgkcbcadnoaa
open Go.ChangeShapes Go.WideShapes Go.ChangeAt Go.RowKit

theorem maxU : U (B256 - 1) = .agg #[.int .u64 18446744073709551615, .int .u64 18446744073709551615, .int .u64 18446744073709551615, .int .u64 18446744073709551615] := by
  obtain ⟨y0, y1, y2, y3⟩ := limb_of (n := B256 - 1) (x0 := 18446744073709551615) (x1 := 18446744073709551615) (x2 := 18446744073709551615) (x3 := 18446744073709551615) (by omega) (by omega) (by omega) (by omega) (by omega) (by omega) (by omega) (by omega) (by unfold B256; omega)
  rw [U, ← y0, ← y1, ← y2, ← y3]
theorem max256_any (w : World) : Calls Try.prog 24 #[] w fun e w' => e = .returned (U (B256 - 1)) ∧ Below w.heap.size w w' := by
  rw [maxU]
  go_enter Try.func24, Try.ntmps24
  go_wp2
  refine bodyPost_ret (v := .agg #[.int .u64 18446744073709551615, .int .u64 18446744073709551615, .int .u64 18446744073709551615, .int .u64 18446744073709551615]) (by simp [results, Try.results24, go_sem]) rfl ⟨rfl, ?_⟩
  go_grown

theorem cmf_law (a b c : Nat) (ha : a < B256) (hb : b < B256) (hc : c < B256) (w : World) : Calls Try.prog 8 #[U a, U b, U c] w fun e w' => e = .returned (.bool true) ∧ Below w.heap.size w w' := by
  have hm := mdmul_any a b ha hb
  have hd := d512_any (a * b % B256) (a * b / B256) c (lo_lt _) (hi_lt ha hb) hc
  rw [join_n] at hd
  have hf := floor_any a b c ha hb hc
  have hu := ceil_any a b c ha hb hc
  by_cases h0 : c = 0
  · subst h0
    exact cmf_zero a b _ _ w hf hu (fun w => awake2_any w)
  have hqE : ∀ k, quoE c k = chkE k := fun k => if_neg h0
  have hqR : ∀ k, quoR c k = chkR k := fun k => if_neg h0
  rw [hqE, hqR] at hf hu hd
  by_cases hq : a * b / c < B256
  case neg =>
    have hq2 : ¬ cdiv (a * b) c < B256 := by unfold cdiv; omega
    rw [show chkE (a * b / c) = 4 from if_neg hq] at hf hd
    rw [show chkE (cdiv (a * b) c) = 4 from if_neg hq2] at hu
    exact cmf_over a b c _ _ _ _ _ _ hc h0 w hf hu hm hd (fun w => awake2_any w)
  have hrl : a * b % c < c := Nat.mod_lt _ (by omega)
  have hrb : a * b % c < B256 := Nat.lt_trans hrl hc
  rw [show chkE (a * b / c) = 0 from if_pos hq, show chkR (a * b / c) = a * b / c from if_pos hq] at hf hd
  rw [show remR c (a * b / c) (a * b % c) = a * b % c by unfold remR; rw [if_neg h0, if_pos hq]] at hd
  by_cases hr : a * b % c = 0
  · have hcd : cdiv (a * b) c = a * b / c := by unfold cdiv; rw [if_pos hr, Nat.add_zero]
    rw [hcd, show chkE (a * b / c) = 0 from if_pos hq, show chkR (a * b / c) = a * b / c from if_pos hq] at hu
    rw [hr] at hd
    refine cmf_even a b c _ _ _ _ _ (-1) (by omega) hc h0 w hf hu hm hd ?_ ?_ (fun w => awake2_any w)
    · intro w
      have k := satsub_any (a * b / c) (a * b / c) hq hq w
      rw [show subR (a * b / c) (a * b / c) = 0 by unfold subR; rw [if_pos (Nat.le_refl _), Nat.sub_self]] at k
      exact k
    · intro w
      have k := cmp_any 0 1 B256_pos (small_lt (by omega)) w
      rw [show cmpI 0 1 = -1 from rfl, U_1] at k
      exact k
  have hcd : cdiv (a * b) c = a * b / c + 1 := by unfold cdiv; rw [if_neg hr]
  rw [hcd] at hu
  by_cases hq1 : a * b / c + 1 < B256
  · rw [show chkE (a * b / c + 1) = 0 from if_pos hq1, show chkR (a * b / c + 1) = a * b / c + 1 from if_pos hq1] at hu
    refine cmf_odd a b c _ _ _ _ _ _ 1 0 (by omega) hrb hr (small_lt (by omega)) (by omega) hc h0 w hf hu hm hd ?_ ?_ (fun w => awake2_any w)
    · intro w
      have k := satsub_any (a * b / c + 1) (a * b / c) hq1 hq w
      rw [show subR (a * b / c + 1) (a * b / c) = 1 by unfold subR; rw [if_pos (Nat.le_succ _)]; omega] at k
      exact k
    · intro w
      have k := cmp_any 1 1 (small_lt (by omega)) (small_lt (by omega)) w
      rw [show cmpI 1 1 = 0 from rfl, U_1] at k
      exact k
  · have hqe : a * b / c = B256 - 1 := by omega
    rw [show chkE (a * b / c + 1) = 4 from if_neg hq1] at hu
    rw [hqe] at hf hd
    exact cmf_edge a b c _ _ _ _ _ _ (by unfold B256; omega) hrb hr hc h0 w hf hu hm hd (fun w => max256_any w) (fun w => awake2_any w)

set_option maxRecDepth 100000 in
theorem mulDivCeilMinusFloor_lifted (os : Os) (started : os.Started) (H : Type) (enc : TypeId × Value → H) :
    ReturnsInHanded {} Try.checked os 8 .any (Rows.mulDivCeilMinusFloorSpec.pre6 enc Try.prog Try.f8 Rows.mulDivCeilMinusFloorRow.domain false) (Rows.mulDivCeilMinusFloorSpec.post enc Try.prog Try.f8 false true false false) := by
  refine returnsInHanded_of_change (C := Try.checked) Try.own started (by kernel_rfl) Try.func8
    (ChangeSpec.witness6 (enc := enc) (C := Try.checked) false ⟨#[], #[.agg #[.int .u64 0, .int .u64 0, .int .u64 0, .int .u64 0], .agg #[.int .u64 0, .int .u64 0, .int .u64 0, .int .u64 0], .agg #[.int .u64 0, .int .u64 0, .int .u64 0, .int .u64 0]], []⟩ 8 (by kernel_rfl) (by kernel_rfl) (by kernel_rfl) (by kernel_rfl)) ?_
  intro W base args ds gs before hval0 hW hcnd _
  have hval : ∀ (j : Nat) t v, Try.f8.params[j]? = some t → args[j]? = some v → Value.okWide Try.prog W .any base t v := hval0
  have hW' := hW
  obtain ⟨p, q, hA0, hV, rfl, hfz, hnd⟩ := hW
  have hA : DataW.TrodAll enc Try.prog W 0 (fun _ => true) true Try.f8.params.toList args.toList ds p := hA0
  rw [Try.params8] at hA hval
  obtain ⟨v0, vs0, d0, ds0, p0, q0, hargs, rfl, rfl, h0, r0⟩ := trodAll_cons hA
  obtain ⟨v1, vs1, d1, ds1, p1, q1, rfl, rfl, rfl, h1, r1⟩ := trodAll_cons r0
  obtain ⟨v2, vs2, d2, ds2, p2, q2, rfl, rfl, rfl, h2, r2⟩ := trodAll_cons r1
  obtain ⟨rfl, rfl, rfl⟩ := trodAll_nil r2
  obtain ⟨rfl, rfl⟩ := trodVars_none hV
  obtain rfl : args = #[v0, v1, v2] := by cases args; simp_all
  obtain ⟨a, ha, rfl, rfl, rfl⟩ := open_U (hval 0 24 v0 rfl rfl) h0
  obtain ⟨b, hb, rfl, rfl, rfl⟩ := open_U (hval 1 24 v1 rfl rfl) h1
  obtain ⟨c, hc, rfl, rfl, rfl⟩ := open_U (hval 2 24 v2 rfl rfl) h2
  clear hA0 hval0
  simp only [List.append_nil] at hW'
  refine (cmf_law a b c ha hb hc W).mono fun e W' ⟨he, hw⟩ => ?_
  subst he
  exact ⟨_, rfl, _, _, _, [], [], [], hW', trodAll_mk1 (shut_bool Try.underlying4 _), (trodAll_cons_mk (p := []) (shut_U _ _ _ _) (trodAll_cons_mk (p := []) (shut_U _ _ _ _) (trodAll_cons_mk (p := []) (shut_U _ _ _ _) trodAll_mk0))), rfl, hw.frame _, fun h => by cases h⟩

theorem cmf_holds : Rows.MulDivCeilMinusFloorSaid :=
  OpenClaim.holds_of_wide 8 Try.f8 rfl rfl rfl rfl rfl rfl rfl ⟨rfl, rfl, rfl, rfl, rfl⟩ rfl rfl rfl rfl rfl (by kernel_rfl) Try.func8 (by kernel_rfl)
    (of_decide_eq_true (by kernel_rfl)) (by unfold Func.isWrapper; rw [if_neg (of_decide_eq_false (by kernel_rfl))]; exact ⟨rfl, rfl⟩)
    (fun os started H enc _ => mulDivCeilMinusFloor_lifted os started H enc)
#print axioms cmf_holds

end Go.Proofs.Ytahkgkcbcadnoaa
