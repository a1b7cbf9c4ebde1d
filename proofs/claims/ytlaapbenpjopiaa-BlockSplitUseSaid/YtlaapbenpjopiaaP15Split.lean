/- The law BlockSplitUse holds: for all arguments the call returns true; its arguments read afterwards as they read before. No conditions besides. -/
import Derived.Test.YtlaapbenpjopiaaB6l
import Derived.Test.YtlaapbenpjopiaaF4v
import Derived.Test.YtlaapbenpjopiaaSxo
import Derived.Test.YtlaapbenpjopiaaOpen
namespace Go.Proofs.Ytlaapbenpjopiaa
open Go.ChangeShapes Go.WideShapes Go.ChangeAt Go.RowKit Sx

set_option maxRecDepth 100000 in
theorem blockSplitUse_lifted (os : Os) (started : os.Started) (H : Type) (enc : TypeId × Value → H) :
    ReturnsInHanded {} Try.checked os 5 .any (Rows.blockSplitUseSpec.pre6 enc Try.prog Try.f5 Rows.blockSplitUseRow.domain false) (Rows.blockSplitUseSpec.post enc Try.prog Try.f5 false true false false) := by
  refine returnsInHanded_of_change (C := Try.checked) Try.own started (by kernel_rfl) Try.func5
    (ChangeSpec.witness6 (enc := enc) (C := Try.checked) false ⟨#[], #[.agg #[.int .u64 0, .int .u64 0, .int .u64 0, .int .u64 0, .int .u64 0, .int .u64 0, .int .u64 0, .int .u64 0], .int .u64 0, .int .u64 0, .int .u64 0], []⟩ 8 (by kernel_rfl) (by kernel_rfl) (by kernel_rfl) (by kernel_rfl)) ?_
  intro W base args ds gs before hval0 hW hcnd _
  have hval : ∀ (j : Nat) t v, Try.f5.params[j]? = some t → args[j]? = some v → Value.okWide Try.prog W .any base t v := hval0
  have hW' := hW
  obtain ⟨p, q, hA0, hV, rfl, hfz, hnd⟩ := hW
  have hA : DataW.TrodAll enc Try.prog W 0 (fun _ => true) true Try.f5.params.toList args.toList ds p := hA0
  rw [Try.params5] at hA hval
  obtain ⟨v0, vs0, d0, ds0, p0, q0, hargs, rfl, rfl, h0, r0⟩ := trodAll_cons hA
  obtain ⟨v1, vs1, d1, ds1, p1, q1, rfl, rfl, rfl, h1, r1⟩ := trodAll_cons r0
  obtain ⟨v2, vs2, d2, ds2, p2, q2, rfl, rfl, rfl, h2, r2⟩ := trodAll_cons r1
  obtain ⟨v3, vs3, d3, ds3, p3, q3, rfl, rfl, rfl, h3, r3⟩ := trodAll_cons r2
  obtain ⟨rfl, rfl, rfl⟩ := trodAll_nil r3
  obtain ⟨rfl, rfl⟩ := trodVars_none hV
  obtain rfl : args = #[v0, v1, v2, v3] := by cases args; simp_all
  obtain ⟨v, hv, rfl, rfl⟩ := openA8 (hval 0 29 v0 rfl rfl) h0
  obtain ⟨u, rfl, rfl, rfl, wu⟩ := open_int Try.underlying22 (hval 1 22 v1 rfl rfl) h1
  obtain ⟨x, rfl, rfl, rfl, wx⟩ := open_int Try.underlying22 (hval 2 22 v2 rfl rfl) h2
  obtain ⟨y, rfl, rfl, rfl, wy⟩ := open_int Try.underlying22 (hval 3 22 v3 rfl rfl) h3
  clear hA0 hval0
  simp only [List.append_nil] at hW'
  obtain ⟨u, rfl⟩ := Int.eq_ofNat_of_zero_le (word_of_wf wu).1
  obtain ⟨x, rfl⟩ := Int.eq_ofNat_of_zero_le (word_of_wf wx).1
  obtain ⟨y, rfl⟩ := Int.eq_ofNat_of_zero_le (word_of_wf wy).1
  refine ((split_law15 u x y v (valP v) (vp_cal v) (p_vp v hv) []).calls good_pontagelaw15_BlockSplitUse.enters W (fun _ h => by cases h)).mono fun e W' ⟨he, hw⟩ => ?_
  subst he
  exact ⟨_, rfl, _, _, _, [], [], [], hW', trodAll_mk1 (shut_bool Try.underlying4 _), (trodAll_cons_mk (p := []) (Below.trod Try.laidOut (by kernel_rfl) (by decide) h0 hw (fun _ h => by cases h)) (trodAll_cons_mk (p := []) (Below.trod Try.laidOut (by kernel_rfl) (by decide) h1 hw (fun _ h => by cases h)) (trodAll_cons_mk (p := []) (Below.trod Try.laidOut (by kernel_rfl) (by decide) h2 hw (fun _ h => by cases h)) (trodAll_cons_mk (p := []) (Below.trod Try.laidOut (by kernel_rfl) (by decide) h3 hw (fun _ h => by cases h)) trodAll_mk0)))), rfl, hw.frame _, fun h => by cases h⟩

theorem split15_row : Rows.BlockSplitUseSaid :=
  OpenClaim.holds_of_wide 5 Try.f5 rfl rfl rfl rfl rfl rfl rfl ⟨rfl, rfl, rfl, rfl, rfl⟩ rfl rfl rfl rfl rfl (by kernel_rfl) Try.func5 (by kernel_rfl)
    (of_decide_eq_true (by kernel_rfl)) (by unfold Func.isWrapper; rw [if_neg (of_decide_eq_false (by kernel_rfl))]; exact ⟨rfl, rfl⟩)
    (fun os started H enc _ => blockSplitUse_lifted os started H enc)
theorem split15_holds : Rows.BlockSplitUseSaid := split15_row
#print axioms split15_holds

end Go.Proofs.Ytlaapbenpjopiaa

