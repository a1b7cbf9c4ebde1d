/- The law MuldivIdentities holds: for all numbers a, b and c the call returns true, and its arguments read afterwards as they read before. No conditions. -/
import Derived.Test.YtahkgkcbcadnoaaAwake2
import Derived.Test.YtahkgkcbcadnoaaOpen
namespace Go.Proofs.Ytahkgkcbcadnoaa
open Go.ChangeShapes Go.WideShapes Go.ChangeAt Go.RowKit

theorem quo_one (n : Nat) : quoR 1 (n / 1) = chkR n ∧ quoE 1 (n / 1) = chkE n ∧ quoR 1 (cdiv n 1) = chkR n ∧ quoE 1 (cdiv n 1) = chkE n := by
  have h : cdiv n 1 = n := by unfold cdiv; rw [Nat.div_one, Nat.mod_one, if_pos rfl, Nat.add_zero]
  rw [h, Nat.div_one]
  unfold quoR quoE
  rw [if_neg (by omega), if_neg (by omega)]
  exact ⟨rfl, rfl, rfl, rfl⟩
theorem ident_law (a b c : Nat) (ha : a < B256) (hb : b < B256) (hc : c < B256) (w : World) : Calls Try.prog 9 #[U a, U b, U c] w fun e w' => e = .returned (.bool true) ∧ Below w.heap.size w w' := by
  obtain ⟨q1, q2, q3, q4⟩ := quo_one (a * b)
  have h1 : (1 : Nat) < B256 := small_lt (by omega)
  have c1 : ∀ w, Calls Try.prog 16 #[U a, U b, .agg #[.int .u64 1, .int .u64 0, .int .u64 0, .int .u64 0]] w fun e w' => e = .returned (.tuple #[U (mulR a b), .int .i64 (mulE a b)]) ∧ Below w.heap.size w w' := fun w => by
    have k := floor_any a b 1 ha hb h1 w
    rw [q1, q2, U_1] at k
    exact k
  have c3 : ∀ w, Calls Try.prog 18 #[U a, U b, .agg #[.int .u64 1, .int .u64 0, .int .u64 0, .int .u64 0]] w fun e w' => e = .returned (.tuple #[U (mulR a b), .int .i64 (mulE a b)]) ∧ Below w.heap.size w w' := fun w => by
    have k := ceil_any a b 1 ha hb h1 w
    rw [q3, q4, U_1] at k
    exact k
  have c5 : ∀ w, Calls Try.prog 13 #[U a, (.agg #[.int .u64 0, .int .u64 0, .int .u64 0, .int .u64 0]), U c] w fun e w' => e = .returned (.tuple #[U (quoR c (a / c)), U (remR c (a / c) (a % c)), .int .i64 (quoE c (a / c))]) ∧ Below w.heap.size w w' := fun w => by
    have k := d512_any a 0 c ha B256_pos hc w
    rw [Nat.zero_mul, Nat.add_zero, U_zero] at k
    exact k
  have hr : remR c (a / c) (a % c) < B256 := remR_lt _ _ _ fun h0 => Nat.lt_trans (Nat.mod_lt _ (by omega)) hc
  by_cases h0 : c = 0
  · subst h0
    exact ident_zero a b _ _ _ _ _ (mulR_lt a b) (quoR_lt _ _) hr w c1 (mul_any a b ha hb) c3 (dm_any a 0 ha hc) c5 (fun w => awake2_any w)
  · refine ident_pos a b c _ _ _ _ _ ha hc h0 (mulR_lt a b) (quoR_lt _ _) hr w c1 (mul_any a b ha hb) c3 (dm_any a c ha hc) c5 ?_ ?_ (fun w => awake2_any w)
    · intro w
      have k := floor_any a c c ha hc hc w
      rw [Nat.mul_div_cancel _ (by omega)] at k
      rw [show quoR c a = a by unfold quoR chkR; rw [if_neg h0, if_pos ha], show quoE c a = 0 by unfold quoE chkE; rw [if_neg h0, if_pos ha]] at k
      exact k
    · intro w
      have k := ceil_any c a c hc ha hc w
      rw [show cdiv (c * a) c = a by unfold cdiv; rw [Nat.mul_mod_right, if_pos rfl, Nat.mul_div_cancel_left _ (by omega), Nat.add_zero]] at k
      rw [show quoR c a = a by unfold quoR chkR; rw [if_neg h0, if_pos ha], show quoE c a = 0 by unfold quoE chkE; rw [if_neg h0, if_pos ha]] at k
      exact k

set_option maxRecDepth 100000 in
theorem muldivIdentities_lifted (os : Os) (started : os.Started) (H : Type) (enc : TypeId × Value → H) :
    ReturnsInHanded {} Try.checked os 9 .any (Rows.muldivIdentitiesSpec.pre6 enc Try.prog Try.f9 Rows.muldivIdentitiesRow.domain false) (Rows.muldivIdentitiesSpec.post enc Try.prog Try.f9 false true false false) := by
  refine returnsInHanded_of_change (C := Try.checked) Try.own started (by kernel_rfl) Try.func9
    (ChangeSpec.witness6 (enc := enc) (C := Try.checked) false ⟨#[], #[.agg #[.int .u64 0, .int .u64 0, .int .u64 0, .int .u64 0], .agg #[.int .u64 0, .int .u64 0, .int .u64 0, .int .u64 0], .agg #[.int .u64 0, .int .u64 0, .int .u64 0, .int .u64 0]], []⟩ 8 (by kernel_rfl) (by kernel_rfl) (by kernel_rfl) (by kernel_rfl)) ?_
  intro W base args ds gs before hval0 hW hcnd _
  have hval : ∀ (j : Nat) t v, Try.f9.params[j]? = some t → args[j]? = some v → Value.okWide Try.prog W .any base t v := hval0
  have hW' := hW
  obtain ⟨p, q, hA0, hV, rfl, hfz, hnd⟩ := hW
  have hA : DataW.TrodAll enc Try.prog W 0 (fun _ => true) true Try.f9.params.toList args.toList ds p := hA0
  rw [Try.params9] at hA hval
  obtain ⟨v0, vs0, d0, ds0, p0, q0, hargs, rfl, rfl, h0, r0⟩ := trodAll_cons hA
  obtain ⟨v1, vs1, d1, ds1, p1, q1, rfl, rfl, rfl, h1, r1⟩ := trodAll_cons r0
  obtain ⟨v2, vs2, d2, ds2, p2, q2, rfl, rfl, rfl, h2, r2⟩ := trodAll_cons r1
  obtain ⟨rfl, rfl, rfl⟩ := trodAll_nil r2
  obtain ⟨rfl, rfl⟩ := trodVars_none hV
  obtain rfl : args = #[v0, v1, v2] := by cases args; simp_all
  obtain ⟨a, ha, rfl, rfl, rfl⟩ := open_U (hval 0 24 v0 rfl rfl) h0
  obtain ⟨b, hb, rfl, rfl, rfl⟩ := open_U (hval 1 24 v1 rfl rfl) h1
  obtain ⟨c, hc, rfl, rfl, rfl⟩ := open_U (hval 2 24 v2 rfl rfl) h2
  clear hA0 hval0
  simp only [List.append_nil] at hW'
  refine (ident_law a b c ha hb hc W).mono fun e W' ⟨he, hw⟩ => ?_
  subst he
  exact ⟨_, rfl, _, _, _, [], [], [], hW', trodAll_mk1 (shut_bool Try.underlying4 _), (trodAll_cons_mk (p := []) (shut_U _ _ _ _) (trodAll_cons_mk (p := []) (shut_U _ _ _ _) (trodAll_cons_mk (p := []) (shut_U _ _ _ _) trodAll_mk0))), rfl, hw.frame _, fun h => by cases h⟩

theorem ident_holds : Rows.MuldivIdentitiesSaid :=
  OpenClaim.holds_of_wide 9 Try.f9 rfl rfl rfl rfl rfl rfl rfl ⟨rfl, rfl, rfl, rfl, rfl⟩ rfl rfl rfl rfl rfl (by kernel_rfl) Try.func9 (by kernel_rfl)
    (of_decide_eq_true (by kernel_rfl)) (by unfold Func.isWrapper; rw [if_neg (of_decide_eq_false (by kernel_rfl))]; exact ⟨rfl, rfl⟩)
    (fun os started H enc _ => muldivIdentities_lifted os started H enc)
#print axioms ident_holds

end Go.Proofs.Ytahkgkcbcadnoaa
