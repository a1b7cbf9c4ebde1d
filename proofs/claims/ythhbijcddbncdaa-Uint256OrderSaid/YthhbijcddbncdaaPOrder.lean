/- The law Uint256Order holds: for all numbers a and b, every 64-bit number n and every slice of numbers the call returns true, and its arguments read afterwards as they read before. No conditions. -/
import Derived.Test.YthhbijcddbncdaaLaw1d
import Derived.Test.YthhbijcddbncdaaOpens
namespace Go.Proofs.Ythhbijcddbncdaa
open Go.ChangeShapes Go.WideShapes Go.ChangeAt Go.RowKit

set_option maxRecDepth 100000 in
theorem uint256Order_lifted (os : Os) (started : os.Started) (H : Type) (enc : TypeId × Value → H) :
    ReturnsInHanded {} Try.checked os 5 .any (Rows.uint256OrderSpec.pre6 enc Try.prog Try.f5 Rows.uint256OrderRow.domain false) (Rows.uint256OrderSpec.post enc Try.prog Try.f5 false true false false) := by
  refine returnsInHanded_of_change (C := Try.checked) Try.own started (by kernel_rfl) Try.func5
    (ChangeSpec.witness6 (enc := enc) (C := Try.checked) false ⟨#[], #[.agg #[.int .u64 0, .int .u64 0, .int .u64 0, .int .u64 0], .agg #[.int .u64 0, .int .u64 0, .int .u64 0, .int .u64 0], .int .u64 0, .slice none 0 0], []⟩ 8 (by kernel_rfl) (by kernel_rfl) (by kernel_rfl) (by kernel_rfl)) ?_
  intro W base args ds gs before hval0 hW hcnd _
  have hval : ∀ (j : Nat) t v, Try.f5.params[j]? = some t → args[j]? = some v → Value.okWide Try.prog W .any base t v := hval0
  have hW' := hW
  obtain ⟨p, q, hA0, hV, rfl, hfz, hnd⟩ := hW
  have hA : DataW.TrodAll enc Try.prog W 0 (fun _ => true) true Try.f5.params.toList args.toList ds p := hA0
  rw [Try.params5] at hA hval
  obtain ⟨v0, v1, v2, v3, d0, d1, d2, d3, p0, p1, p2, p3, rfl, rfl, rfl, h0, h1, h2, h3⟩ := trodAll_four hA
  obtain ⟨rfl, rfl⟩ := trodVars_none hV
  obtain ⟨a, ha, rfl, rfl, rfl⟩ := open_U (hval 0 24 v0 rfl rfl) h0
  obtain ⟨b, hb, rfl, rfl, rfl⟩ := open_U (hval 1 24 v1 rfl rfl) h1
  obtain ⟨x, rfl, rfl, rfl, wx⟩ := open_int Try.underlying22 (hval 2 22 v2 rfl rfl) h2
  obtain ⟨A, len, cap, rfl, hU⟩ := open_Us (hval 3 30 v3 rfl rfl) h3
  clear hA0 hval0
  simp only [List.append_nil, List.nil_append] at hW'
  have hlt : ∀ y ∈ p3, y.block < W.heap.size := fun y hy => by simpa using hW'.lt y hy
  obtain ⟨n, rfl⟩ := Int.eq_ofNat_of_zero_le (word_of_wf wx).1
  have hn : n < 18446744073709551616 := by have := (word_of_wf wx).2; omega
  have key : Calls Try.prog 5 #[U a, U b, .int .u64 n, .slice A len cap] W fun e w' => e = .returned (.bool true) ∧ Below W.heap.size W w' := by
    by_cases hl : len ≤ 50
    · obtain ⟨l, rfl, hl'⟩ := hU (by omega)
      exact order_law a b n cap A l W ha hb hn hl hl'
    · exact order_long a b n len cap A W (by omega)
  refine key.mono fun e W' ⟨he, hw⟩ => ?_
  subst he
  refine ⟨_, rfl, _, _, _, [], p3, [], hW', trodAll_mk1 (shut_bool Try.underlying4 _), ?_, rfl, hw.frame _, fun h => by cases h⟩
  exact trodAll_mk4 (p := []) (p' := []) (p'' := []) (shut_U _ _ _ _) (shut_U _ _ _ _) (shut_int Try.underlying22 wx) (Below.trod Try.laidOut (by kernel_rfl) (of_decide_eq_true (by kernel_rfl)) h3 hw hlt)

theorem order_holds : Rows.Uint256OrderSaid :=
  OpenClaim.holds_of_wide 5 Try.f5 rfl rfl rfl rfl rfl rfl rfl ⟨rfl, rfl, rfl, rfl, rfl⟩ rfl rfl rfl rfl rfl (by kernel_rfl) Try.func5 (by kernel_rfl)
    (of_decide_eq_true (by kernel_rfl)) (by unfold Func.isWrapper; rw [if_neg (of_decide_eq_false (by kernel_rfl))]; exact ⟨rfl, rfl⟩)
    (fun os started H enc _ => uint256Order_lifted os started H enc)
#print axioms order_holds

end Go.Proofs.Ythhbijcddbncdaa
