/- The law MulDivBoundaries holds: for all arguments the call returns true, and its arguments read afterwards as they read before. No conditions. -/
import Derived.Test.YtahkgkcbcadnoaaAwake2
import Derived.Test.YtahkgkcbcadnoaaRefo
import Derived.Test.YtahkgkcbcadnoaaRefp
import Derived.Test.YtahkgkcbcadnoaaRefq
import Derived.Test.YtahkgkcbcadnoaaEdge
import Derived.Test.YtahkgkcbcadnoaaOpen
namespace Go.Proofs.Ytahkgkcbcadnoaa
open Go.ChangeShapes Go.WideShapes Go.ChangeAt Go.RowKit

theorem bound2_law (a b s t u : Int) (a0 : 0 ≤ a) (a1 : a < 18446744073709551616) (b0 : 0 ≤ b) (b1 : b < 18446744073709551616) (w : World) : Calls Try.prog 6 #[.int .u64 a, .int .u64 b, .int .i64 s, .int .i64 t, .int .i64 u] w fun e w' => e = .returned (.bool true) ∧ Below w.heap.size w w' := by
  refine bound2_core a b s t u a0 a1 b0 b1 w ?_ ?_ ?_ ?_ (fun w => awake2_any w)
  · intro a b s w a0 a1 b0 b1
    exact edge_any a b s w a0 a1 b0 b1
  · intro x y z hx hy hz
    exact ⟨_, _, quoR_lt _ _, floor_any x y z hx hy hz, rfloor_any x y z hx hy hz⟩
  · intro x y z hx hy hz
    exact ⟨_, _, quoR_lt _ _, ceil_any x y z hx hy hz, rceil_any x y z hx hy hz⟩
  · intro x y z hx hy hz
    exact ⟨_, _, _, quoR_lt _ _, remR_lt _ _ _ fun h0 => Nat.lt_trans (Nat.mod_lt _ (by omega)) hz, d512_any x y z hx hy hz, rdiv512_any x y z hx hy hz⟩

set_option maxRecDepth 100000 in
theorem mulDivBoundaries_lifted (os : Os) (started : os.Started) (H : Type) (enc : TypeId × Value → H) :
    ReturnsInHanded {} Try.checked os 6 .any (Rows.mulDivBoundariesSpec.pre6 enc Try.prog Try.f6 Rows.mulDivBoundariesRow.domain false) (Rows.mulDivBoundariesSpec.post enc Try.prog Try.f6 false true false false) := by
  refine returnsInHanded_of_change (C := Try.checked) Try.own started (by kernel_rfl) Try.func6
    (ChangeSpec.witness6 (enc := enc) (C := Try.checked) false ⟨#[], #[.int .u64 0, .int .u64 0, .int .i64 0, .int .i64 0, .int .i64 0], []⟩ 8 (by kernel_rfl) (by kernel_rfl) (by kernel_rfl) (by kernel_rfl)) ?_
  intro W base args ds gs before hval0 hW hcnd _
  have hval : ∀ (j : Nat) t v, Try.f6.params[j]? = some t → args[j]? = some v → Value.okWide Try.prog W .any base t v := hval0
  have hW' := hW
  obtain ⟨p, q, hA0, hV, rfl, hfz, hnd⟩ := hW
  have hA : DataW.TrodAll enc Try.prog W 0 (fun _ => true) true Try.f6.params.toList args.toList ds p := hA0
  rw [Try.params6] at hA hval
  obtain ⟨v0, vs0, d0, ds0, p0, q0, hargs, rfl, rfl, h0, r0⟩ := trodAll_cons hA
  obtain ⟨v1, vs1, d1, ds1, p1, q1, rfl, rfl, rfl, h1, r1⟩ := trodAll_cons r0
  obtain ⟨v2, vs2, d2, ds2, p2, q2, rfl, rfl, rfl, h2, r2⟩ := trodAll_cons r1
  obtain ⟨v3, vs3, d3, ds3, p3, q3, rfl, rfl, rfl, h3, r3⟩ := trodAll_cons r2
  obtain ⟨v4, vs4, d4, ds4, p4, q4, rfl, rfl, rfl, h4, r4⟩ := trodAll_cons r3
  obtain ⟨rfl, rfl, rfl⟩ := trodAll_nil r4
  obtain ⟨rfl, rfl⟩ := trodVars_none hV
  obtain rfl : args = #[v0, v1, v2, v3, v4] := by cases args; simp_all
  obtain ⟨a, rfl, rfl, rfl, wa⟩ := open_int Try.underlying22 (hval 0 22 v0 rfl rfl) h0
  obtain ⟨b, rfl, rfl, rfl, wb⟩ := open_int Try.underlying22 (hval 1 22 v1 rfl rfl) h1
  obtain ⟨s, rfl, rfl, rfl, ws⟩ := open_int Try.underlying3 (hval 2 3 v2 rfl rfl) h2
  obtain ⟨t, rfl, rfl, rfl, wt⟩ := open_int Try.underlying3 (hval 3 3 v3 rfl rfl) h3
  obtain ⟨u, rfl, rfl, rfl, wu⟩ := open_int Try.underlying3 (hval 4 3 v4 rfl rfl) h4
  clear hA0 hval0
  simp only [List.append_nil] at hW'
  refine (bound2_law a b s t u (word_of_wf wa).1 (word_of_wf wa).2 (word_of_wf wb).1 (word_of_wf wb).2 W).mono fun e W' ⟨he, hw⟩ => ?_
  subst he
  exact ⟨_, rfl, _, _, _, [], [], [], hW', trodAll_mk1 (shut_bool Try.underlying4 _), (trodAll_cons_mk (p := []) (shut_int Try.underlying22 wa) (trodAll_cons_mk (p := []) (shut_int Try.underlying22 wb) (trodAll_cons_mk (p := []) (shut_int Try.underlying3 ws) (trodAll_cons_mk (p := []) (shut_int Try.underlying3 wt) (trodAll_cons_mk (p := []) (shut_int Try.underlying3 wu) trodAll_mk0))))), rfl, hw.frame _, fun h => by cases h⟩

theorem bound2_holds : Rows.MulDivBoundariesSaid :=
  OpenClaim.holds_of_wide 6 Try.f6 rfl rfl rfl rfl rfl rfl rfl ⟨rfl, rfl, rfl, rfl, rfl⟩ rfl rfl rfl rfl rfl (by kernel_rfl) Try.func6 (by kernel_rfl)
    (of_decide_eq_true (by kernel_rfl)) (by unfold Func.isWrapper; rw [if_neg (of_decide_eq_false (by kernel_rfl))]; exact ⟨rfl, rfl⟩)
    (fun os started H enc _ => mulDivBoundaries_lifted os started H enc)
#print axioms bound2_holds

end Go.Proofs.Ytahkgkcbcadnoaa
