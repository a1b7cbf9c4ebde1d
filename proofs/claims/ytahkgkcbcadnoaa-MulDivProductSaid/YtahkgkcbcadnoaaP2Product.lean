/- The law MulDivProduct holds: for all numbers a and b the call returns true, and its arguments read afterwards as they read before. No conditions. -/
import Derived.Test.YtahkgkcbcadnoaaAwake2
import Derived.Test.YtahkgkcbcadnoaaRefm
import Derived.Test.YtahkgkcbcadnoaaOpen
namespace Go.Proofs.Ytahkgkcbcadnoaa
open Go.ChangeShapes Go.WideShapes Go.ChangeAt Go.RowKit

theorem product_law (a b : Nat) (ha : a < B256) (hb : b < B256) (w : World) : Calls Try.prog 3 #[U a, U b] w fun e w' => e = .returned (.bool true) ∧ Below w.heap.size w w' :=
  product_core a b _ _ (lo_lt _) (hi_lt ha hb) w (mdmul_any a b ha hb) (rmul512_any a b ha hb) (fun w => awake2_any w)

set_option maxRecDepth 100000 in
theorem mulDivProduct_lifted (os : Os) (started : os.Started) (H : Type) (enc : TypeId × Value → H) :
    ReturnsInHanded {} Try.checked os 3 .any (Rows.mulDivProductSpec.pre6 enc Try.prog Try.f3 Rows.mulDivProductRow.domain false) (Rows.mulDivProductSpec.post enc Try.prog Try.f3 false true false false) := by
  refine returnsInHanded_of_change (C := Try.checked) Try.own started (by kernel_rfl) Try.func3
    (ChangeSpec.witness6 (enc := enc) (C := Try.checked) false ⟨#[], #[.agg #[.int .u64 0, .int .u64 0, .int .u64 0, .int .u64 0], .agg #[.int .u64 0, .int .u64 0, .int .u64 0, .int .u64 0]], []⟩ 8 (by kernel_rfl) (by kernel_rfl) (by kernel_rfl) (by kernel_rfl)) ?_
  intro W base args ds gs before hval0 hW hcnd _
  have hval : ∀ (j : Nat) t v, Try.f3.params[j]? = some t → args[j]? = some v → Value.okWide Try.prog W .any base t v := hval0
  have hW' := hW
  obtain ⟨p, q, hA0, hV, rfl, hfz, hnd⟩ := hW
  have hA : DataW.TrodAll enc Try.prog W 0 (fun _ => true) true Try.f3.params.toList args.toList ds p := hA0
  rw [Try.params3] at hA hval
  obtain ⟨v0, vs0, d0, ds0, p0, q0, hargs, rfl, rfl, h0, r0⟩ := trodAll_cons hA
  obtain ⟨v1, vs1, d1, ds1, p1, q1, rfl, rfl, rfl, h1, r1⟩ := trodAll_cons r0
  obtain ⟨rfl, rfl, rfl⟩ := trodAll_nil r1
  obtain ⟨rfl, rfl⟩ := trodVars_none hV
  obtain rfl : args = #[v0, v1] := by cases args; simp_all
  obtain ⟨a, ha, rfl, rfl, rfl⟩ := open_U (hval 0 24 v0 rfl rfl) h0
  obtain ⟨b, hb, rfl, rfl, rfl⟩ := open_U (hval 1 24 v1 rfl rfl) h1
  clear hA0 hval0
  simp only [List.append_nil] at hW'
  refine (product_law a b ha hb W).mono fun e W' ⟨he, hw⟩ => ?_
  subst he
  exact ⟨_, rfl, _, _, _, [], [], [], hW', trodAll_mk1 (shut_bool Try.underlying4 _), (trodAll_cons_mk (p := []) (shut_U _ _ _ _) (trodAll_cons_mk (p := []) (shut_U _ _ _ _) trodAll_mk0)), rfl, hw.frame _, fun h => by cases h⟩

theorem product_holds : Rows.MulDivProductSaid :=
  OpenClaim.holds_of_wide 3 Try.f3 rfl rfl rfl rfl rfl rfl rfl ⟨rfl, rfl, rfl, rfl, rfl⟩ rfl rfl rfl rfl rfl (by kernel_rfl) Try.func3 (by kernel_rfl)
    (of_decide_eq_true (by kernel_rfl)) (by unfold Func.isWrapper; rw [if_neg (of_decide_eq_false (by kernel_rfl))]; exact ⟨rfl, rfl⟩)
    (fun os started H enc _ => mulDivProduct_lifted os started H enc)
#print axioms product_holds

end Go.Proofs.Ytahkgkcbcadnoaa
