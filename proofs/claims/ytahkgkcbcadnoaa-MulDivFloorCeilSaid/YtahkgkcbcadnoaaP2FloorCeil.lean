/- The law MulDivFloorCeil holds: for all numbers a, b and c and every 64-bit number the call returns true, and its arguments read afterwards as they read before. No conditions. -/
import Derived.Test.YtahkgkcbcadnoaaAwake2
import Derived.Test.YtahkgkcbcadnoaaRefp
import Derived.Test.YtahkgkcbcadnoaaRefq
import Derived.Test.YtahkgkcbcadnoaaOpen
namespace Go.Proofs.Ytahkgkcbcadnoaa
open Go.ChangeShapes Go.WideShapes Go.ChangeAt Go.RowKit

theorem floorceil_law (a b c n : Nat) (ha : a < B256) (hb : b < B256) (hc : c < B256) (hn : n < 18446744073709551616) (w : World) : Calls Try.prog 5 #[U a, U b, U c, .int .u64 (n : Int)] w fun e w' => e = .returned (.bool true) ∧ Below w.heap.size w w' := by
  refine floorceil_core a b c _ _ (quoR b (a * n / b)) n _ _ (quoE b (a * n / b)) (quoR_lt _ _) (quoR_lt _ _) (quoR_lt _ _) w (floor_any a b c ha hb hc) (rfloor_any a b c ha hb hc) (ceil_any a b c ha hb hc) (rceil_any a b c ha hb hc) ?_ ?_ (fun w => awake2_any w)
  · intro w
    have k := floor_any a n b ha (small_lt hn) hb w
    rw [U_small n hn] at k
    exact k
  · intro w
    have k := rfloor_any a n b ha (small_lt hn) hb w
    rw [U_small n hn] at k
    exact k

theorem floorceil_law_int (a b c : Nat) (n : Int) (h0 : a < B256) (h1 : b < B256) (h2 : c < B256) (h3 : 0 ≤ n) (h4 : n < 18446744073709551616) (w : World) : Calls Try.prog 5 #[U a, U b, U c, .int .u64 n] w fun e w' => e = .returned (.bool true) ∧ Below w.heap.size w w' := by
  obtain ⟨n, rfl⟩ := Int.eq_ofNat_of_zero_le h3
  exact floorceil_law a b c n h0 h1 h2 (by omega) w

set_option maxRecDepth 100000 in
theorem mulDivFloorCeil_lifted (os : Os) (started : os.Started) (H : Type) (enc : TypeId × Value → H) :
    ReturnsInHanded {} Try.checked os 5 .any (Rows.mulDivFloorCeilSpec.pre6 enc Try.prog Try.f5 Rows.mulDivFloorCeilRow.domain false) (Rows.mulDivFloorCeilSpec.post enc Try.prog Try.f5 false true false false) := by
  refine returnsInHanded_of_change (C := Try.checked) Try.own started (by kernel_rfl) Try.func5
    (ChangeSpec.witness6 (enc := enc) (C := Try.checked) false ⟨#[], #[.agg #[.int .u64 0, .int .u64 0, .int .u64 0, .int .u64 0], .agg #[.int .u64 0, .int .u64 0, .int .u64 0, .int .u64 0], .agg #[.int .u64 0, .int .u64 0, .int .u64 0, .int .u64 0], .int .u64 0], []⟩ 8 (by kernel_rfl) (by kernel_rfl) (by kernel_rfl) (by kernel_rfl)) ?_
  intro W base args ds gs before hval0 hW hcnd _
  have hval : ∀ (j : Nat) t v, Try.f5.params[j]? = some t → args[j]? = some v → Value.okWide Try.prog W .any base t v := hval0
  have hW' := hW
  obtain ⟨p, q, hA0, hV, rfl, hfz, hnd⟩ := hW
  have hA : DataW.TrodAll enc Try.prog W 0 (fun _ => true) true Try.f5.params.toList args.toList ds p := hA0
  rw [Try.params5] at hA hval
  obtain ⟨v0, vs0, d0, ds0, p0, q0, hargs, rfl, rfl, h0, r0⟩ := trodAll_cons hA
  obtain ⟨v1, vs1, d1, ds1, p1, q1, rfl, rfl, rfl, h1, r1⟩ := trodAll_cons r0
  obtain ⟨v2, vs2, d2, ds2, p2, q2, rfl, rfl, rfl, h2, r2⟩ := trodAll_cons r1
  obtain ⟨v3, vs3, d3, ds3, p3, q3, rfl, rfl, rfl, h3, r3⟩ := trodAll_cons r2
  obtain ⟨rfl, rfl, rfl⟩ := trodAll_nil r3
  obtain ⟨rfl, rfl⟩ := trodVars_none hV
  obtain rfl : args = #[v0, v1, v2, v3] := by cases args; simp_all
  obtain ⟨a, ha, rfl, rfl, rfl⟩ := open_U (hval 0 24 v0 rfl rfl) h0
  obtain ⟨b, hb, rfl, rfl, rfl⟩ := open_U (hval 1 24 v1 rfl rfl) h1
  obtain ⟨c, hc, rfl, rfl, rfl⟩ := open_U (hval 2 24 v2 rfl rfl) h2
  obtain ⟨n, rfl, rfl, rfl, wn⟩ := open_int Try.underlying22 (hval 3 22 v3 rfl rfl) h3
  clear hA0 hval0
  simp only [List.append_nil] at hW'
  refine (floorceil_law_int a b c n ha hb hc (word_of_wf wn).1 (word_of_wf wn).2 W).mono fun e W' ⟨he, hw⟩ => ?_
  subst he
  exact ⟨_, rfl, _, _, _, [], [], [], hW', trodAll_mk1 (shut_bool Try.underlying4 _), (trodAll_cons_mk (p := []) (shut_U _ _ _ _) (trodAll_cons_mk (p := []) (shut_U _ _ _ _) (trodAll_cons_mk (p := []) (shut_U _ _ _ _) (trodAll_cons_mk (p := []) (shut_int Try.underlying22 wn) trodAll_mk0)))), rfl, hw.frame _, fun h => by cases h⟩

theorem floorceil_holds : Rows.MulDivFloorCeilSaid :=
  OpenClaim.holds_of_wide 5 Try.f5 rfl rfl rfl rfl rfl rfl rfl ⟨rfl, rfl, rfl, rfl, rfl⟩ rfl rfl rfl rfl rfl (by kernel_rfl) Try.func5 (by kernel_rfl)
    (of_decide_eq_true (by kernel_rfl)) (by unfold Func.isWrapper; rw [if_neg (of_decide_eq_false (by kernel_rfl))]; exact ⟨rfl, rfl⟩)
    (fun os started H enc _ => mulDivFloorCeil_lifted os started H enc)
#print axioms floorceil_holds

end Go.Proofs.Ytahkgkcbcadnoaa
