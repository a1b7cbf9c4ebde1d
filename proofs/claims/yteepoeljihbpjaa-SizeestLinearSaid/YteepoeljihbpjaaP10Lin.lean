/- The law SizeestLinear holds: for all arguments the call returns true; its arguments read afterwards as they read before. No conditions besides. -/
import Derived.Test.YteepoeljihbpjaaS10l
import Derived.Test.YteepoeljihbpjaaSxo
import Derived.Test.YteepoeljihbpjaaOpen
namespace Go.Proofs.Yteepoeljihbpjaa
open Go.ChangeShapes Go.WideShapes Go.ChangeAt Go.RowKit Sx

set_option maxRecDepth 100000 in
theorem sizeestLinear_lifted (os : Os) (started : os.Started) (H : Type) (enc : TypeId × Value → H) :
    ReturnsInHanded {} Try.checked os 7 .any (Rows.sizeestLinearSpec.pre6 enc Try.prog Try.f7 Rows.sizeestLinearRow.domain false) (Rows.sizeestLinearSpec.post enc Try.prog Try.f7 false true false false) := by
  refine returnsInHanded_of_change (C := Try.checked) Try.own started (by kernel_rfl) Try.func7
    (ChangeSpec.witness6 (enc := enc) (C := Try.checked) false ⟨#[], #[.int .u64 0, .int .u64 0, .agg #[.int .u64 0, .int .u64 0, .int .u64 0, .int .u64 0], .slice none 0 0, .int .u64 0], []⟩ 8 (by kernel_rfl) (by kernel_rfl) (by kernel_rfl) (by kernel_rfl)) ?_
  intro W base args ds gs before hval0 hW hcnd _
  have hval : ∀ (j : Nat) t v, Try.f7.params[j]? = some t → args[j]? = some v → Value.okWide Try.prog W .any base t v := hval0
  have hW' := hW
  obtain ⟨p, q, hA0, hV, rfl, hfz, hnd⟩ := hW
  have hA : DataW.TrodAll enc Try.prog W 0 (fun _ => true) true Try.f7.params.toList args.toList ds p := hA0
  rw [Try.params7] at hA hval
  obtain ⟨v0, vs0, d0, ds0, p0, q0, hargs, rfl, rfl, h0, r0⟩ := trodAll_cons hA
  obtain ⟨v1, vs1, d1, ds1, p1, q1, rfl, rfl, rfl, h1, r1⟩ := trodAll_cons r0
  obtain ⟨v2, vs2, d2, ds2, p2, q2, rfl, rfl, rfl, h2, r2⟩ := trodAll_cons r1
  obtain ⟨v3, vs3, d3, ds3, p3, q3, rfl, rfl, rfl, h3, r3⟩ := trodAll_cons r2
  obtain ⟨v4, vs4, d4, ds4, p4, q4, rfl, rfl, rfl, h4, r4⟩ := trodAll_cons r3
  obtain ⟨rfl, rfl, rfl⟩ := trodAll_nil r4
  obtain ⟨rfl, rfl⟩ := trodVars_none hV
  obtain rfl : args = #[v0, v1, v2, v3, v4] := by cases args; simp_all
  obtain ⟨u, rfl, rfl, rfl, wu⟩ := open_int Try.underlying23 (hval 0 23 v0 rfl rfl) h0
  obtain ⟨w, rfl, rfl, rfl, ww⟩ := open_int Try.underlying23 (hval 1 23 v1 rfl rfl) h1
  obtain ⟨a, ha, rfl, rfl⟩ := openU (hval 2 30 v2 rfl rfl) h2
  obtain ⟨v, rfl, fv⟩ := openIz (hval 3 34 v3 rfl rfl) h3
  obtain ⟨k, rfl, rfl, rfl, wk⟩ := open_int Try.underlying23 (hval 4 23 v4 rfl rfl) h4
  clear hA0 hval0
  simp only [List.append_nil, List.nil_append] at hW'
  have hm3 : ∀ y ∈ p3, y.block < W.heap.size := fun y hy => hW'.lt y (by simp [hy])
  obtain ⟨u, rfl⟩ := Int.eq_ofNat_of_zero_le (word_of_wf wu).1
  obtain ⟨w, rfl⟩ := Int.eq_ofNat_of_zero_le (word_of_wf ww).1
  obtain ⟨k, rfl⟩ := Int.eq_ofNat_of_zero_le (word_of_wf wk).1
  refine ((li_law u w a v k ha _ (.refl _)).calls good_pontagelaw10_SizeestLinear.enters W fv).mono fun e W' ⟨he, hw⟩ => ?_
  subst he
  exact ⟨_, rfl, _, _, _, [], p3, [], hW', trodAll_mk1 (shut_bool Try.underlying4 _), (by have hs := (trodAll_cons_mk (p := []) (Below.trod Try.laidOut (by kernel_rfl) (by decide) h0 hw (fun _ h => by cases h)) (trodAll_cons_mk (p := []) (Below.trod Try.laidOut (by kernel_rfl) (by decide) h1 hw (fun _ h => by cases h)) (trodAll_cons_mk (p := []) (Below.trod Try.laidOut (by kernel_rfl) (by decide) h2 hw (fun _ h => by cases h)) (trodAll_cons_mk (Below.trod Try.laidOut (by kernel_rfl) (of_decide_eq_true (by kernel_rfl)) h3 hw hm3) (trodAll_cons_mk (p := []) (Below.trod Try.laidOut (by kernel_rfl) (by decide) h4 hw (fun _ h => by cases h)) trodAll_mk0))))); simp only [List.append_nil, List.nil_append] at hs; exact hs), rfl, hw.frame _, fun h => by cases h⟩

theorem lin10_row : Rows.SizeestLinearSaid :=
  OpenClaim.holds_of_wide 7 Try.f7 rfl rfl rfl rfl rfl rfl rfl ⟨rfl, rfl, rfl, rfl, rfl⟩ rfl rfl rfl rfl rfl (by kernel_rfl) Try.func7 (by kernel_rfl)
    (of_decide_eq_true (by kernel_rfl)) (by unfold Func.isWrapper; rw [if_neg (of_decide_eq_false (by kernel_rfl))]; exact ⟨rfl, rfl⟩)
    (fun os started H enc _ => sizeestLinear_lifted os started H enc)
theorem lin10_holds : Rows.SizeestLinearSaid := lin10_row
#print axioms lin10_holds

end Go.Proofs.Yteepoeljihbpjaa

