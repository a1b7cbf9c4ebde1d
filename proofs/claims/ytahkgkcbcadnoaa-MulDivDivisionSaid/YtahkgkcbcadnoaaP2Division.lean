/- The law MulDivDivision holds: for all numbers low, high and c and every 64-bit number the call returns true, and its arguments read afterwards as they read before. No conditions. -/
import Derived.Test.YtahkgkcbcadnoaaAwake2
import Derived.Test.YtahkgkcbcadnoaaRefo
import Derived.Test.YtahkgkcbcadnoaaOpen
namespace Go.Proofs.Ytahkgkcbcadnoaa
open Go.ChangeShapes Go.WideShapes Go.ChangeAt Go.RowKit

theorem division_law (l h c s : Nat) (hl : l < B256) (hh : h < B256) (hc : c < B256) (hs : s < 18446744073709551616) (w : World) : Calls Try.prog 4 #[U l, U h, U c, .int .u64 (s : Int)] w fun e w' => e = .returned (.bool true) ∧ Below w.heap.size w w' := by
  refine division_core l h c _ _ _ _ s _ (quoE s (l / s)) (quoR_lt _ _) (remR_lt _ _ _ fun h0 => Nat.lt_trans (Nat.mod_lt _ (by omega)) hc) (quoR_lt s (l / s)) (remR_lt s (l / s) (l % s) fun h0 => Nat.lt_trans (Nat.mod_lt _ (by omega)) (small_lt hs)) w (d512_any l h c hl hh hc) (rdiv512_any l h c hl hh hc) ?_ ?_ (fun w => awake2_any w)
  · intro w
    have k := dm_any l s hl (small_lt hs) w
    rw [U_small s hs] at k
    exact k
  · intro w
    have k := rdiv512_any l 0 s hl B256_pos (small_lt hs) w
    rw [Nat.zero_mul, Nat.add_zero, U_zero, U_small s hs] at k
    exact k

theorem division_law_int (l h c : Nat) (s : Int) (h0 : l < B256) (h1 : h < B256) (h2 : c < B256) (h3 : 0 ≤ s) (h4 : s < 18446744073709551616) (w : World) : Calls Try.prog 4 #[U l, U h, U c, .int .u64 s] w fun e w' => e = .returned (.bool true) ∧ Below w.heap.size w w' := by
  obtain ⟨n, rfl⟩ := Int.eq_ofNat_of_zero_le h3
  exact division_law l h c n h0 h1 h2 (by omega) w

set_option maxRecDepth 100000 in
theorem mulDivDivision_lifted (os : Os) (started : os.Started) (H : Type) (enc : TypeId × Value → H) :
    ReturnsInHanded {} Try.checked os 4 .any (Rows.mulDivDivisionSpec.pre6 enc Try.prog Try.f4 Rows.mulDivDivisionRow.domain false) (Rows.mulDivDivisionSpec.post enc Try.prog Try.f4 false true false false) := by
  refine returnsInHanded_of_change (C := Try.checked) Try.own started (by kernel_rfl) Try.func4
    (ChangeSpec.witness6 (enc := enc) (C := Try.checked) false ⟨#[], #[.agg #[.int .u64 0, .int .u64 0, .int .u64 0, .int .u64 0], .agg #[.int .u64 0, .int .u64 0, .int .u64 0, .int .u64 0], .agg #[.int .u64 0, .int .u64 0, .int .u64 0, .int .u64 0], .int .u64 0], []⟩ 8 (by kernel_rfl) (by kernel_rfl) (by kernel_rfl) (by kernel_rfl)) ?_
  intro W base args ds gs before hval0 hW hcnd _
  have hval : ∀ (j : Nat) t v, Try.f4.params[j]? = some t → args[j]? = some v → Value.okWide Try.prog W .any base t v := hval0
  have hW' := hW
  obtain ⟨p, q, hA0, hV, rfl, hfz, hnd⟩ := hW
  have hA : DataW.TrodAll enc Try.prog W 0 (fun _ => true) true Try.f4.params.toList args.toList ds p := hA0
  rw [Try.params4] at hA hval
  obtain ⟨v0, vs0, d0, ds0, p0, q0, hargs, rfl, rfl, h0, r0⟩ := trodAll_cons hA
  obtain ⟨v1, vs1, d1, ds1, p1, q1, rfl, rfl, rfl, h1, r1⟩ := trodAll_cons r0
  obtain ⟨v2, vs2, d2, ds2, p2, q2, rfl, rfl, rfl, h2, r2⟩ := trodAll_cons r1
  obtain ⟨v3, vs3, d3, ds3, p3, q3, rfl, rfl, rfl, h3, r3⟩ := trodAll_cons r2
  obtain ⟨rfl, rfl, rfl⟩ := trodAll_nil r3
  obtain ⟨rfl, rfl⟩ := trodVars_none hV
  obtain rfl : args = #[v0, v1, v2, v3] := by cases args; simp_all
  obtain ⟨l, hl, rfl, rfl, rfl⟩ := open_U (hval 0 24 v0 rfl rfl) h0
  obtain ⟨h, hh, rfl, rfl, rfl⟩ := open_U (hval 1 24 v1 rfl rfl) h1
  obtain ⟨c, hc, rfl, rfl, rfl⟩ := open_U (hval 2 24 v2 rfl rfl) h2
  obtain ⟨s, rfl, rfl, rfl, ws⟩ := open_int Try.underlying22 (hval 3 22 v3 rfl rfl) h3
  clear hA0 hval0
  simp only [List.append_nil] at hW'
  refine (division_law_int l h c s hl hh hc (word_of_wf ws).1 (word_of_wf ws).2 W).mono fun e W' ⟨he, hw⟩ => ?_
  subst he
  exact ⟨_, rfl, _, _, _, [], [], [], hW', trodAll_mk1 (shut_bool Try.underlying4 _), (trodAll_cons_mk (p := []) (shut_U _ _ _ _) (trodAll_cons_mk (p := []) (shut_U _ _ _ _) (trodAll_cons_mk (p := []) (shut_U _ _ _ _) (trodAll_cons_mk (p := []) (shut_int Try.underlying22 ws) trodAll_mk0)))), rfl, hw.frame _, fun h => by cases h⟩

theorem division_holds : Rows.MulDivDivisionSaid :=
  OpenClaim.holds_of_wide 4 Try.f4 rfl rfl rfl rfl rfl rfl rfl ⟨rfl, rfl, rfl, rfl, rfl⟩ rfl rfl rfl rfl rfl (by kernel_rfl) Try.func4 (by kernel_rfl)
    (of_decide_eq_true (by kernel_rfl)) (by unfold Func.isWrapper; rw [if_neg (of_decide_eq_false (by kernel_rfl))]; exact ⟨rfl, rfl⟩)
    (fun os started H enc _ => mulDivDivision_lifted os started H enc)
#print axioms division_holds

end Go.Proofs.Ytahkgkcbcadnoaa
