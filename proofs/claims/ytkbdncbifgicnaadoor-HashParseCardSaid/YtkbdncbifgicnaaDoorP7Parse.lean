/- The law HashParse holds: for all arguments the call returns true; its arguments read afterwards as they read before. Condition: the table of round constants starts as the program's text lays it, and the card ties that to the text. -/
import Derived.Test.YtkbdncbifgicnaaDoorLaidH
namespace Go.Proofs.YtkbdncbifgicnaaDoor
open Go.ChangeShapes Go.WideShapes Go.ChangeAt Go.RowKit Sx

theorem hashParse_met (os : Os) (args : Array Value) : laidMetH Tryd.prog Rows.hashParseRow.laid ((World.doorLaid Tryd.prog 400 os).forCall (fun _ _ => 0) ⟨#[], args, []⟩).memory :=
  laidMetH_of_parts3 (fuel := 8) (laidMet_of_run' 8 (by kernel_rfl) (by kernel_rfl)) (by kernel_rfl) (by kernel_rfl)

set_option maxRecDepth 100000 in
theorem hashParse_lifted (os : Os) (started : os.Started) (H : Type) (enc : TypeId × Value → H) :
    ReturnsInHanded {} Tryd.checked os 7 .any (fun w args => (Rows.hashParseSpec.pre enc Tryd.prog Tryd.f7 [] false w args ∧ laidMetH Tryd.prog Rows.hashParseRow.laid w) ∧ sizedMet enc Tryd.prog Tryd.f7 (OpenSpec.ofChange Rows.hashParseSpec) false w args)
      (Rows.hashParseSpec.post enc Tryd.prog Tryd.f7 false true false false) := by
  refine returnsInHanded_of_change_and (C := Tryd.checked) (X := fun w _ => laidMetH Tryd.prog Rows.hashParseRow.laid w) (fun _ _ _ hh h => h.of_heap hh) Tryd.own started (by kernel_rfl) Tryd.func7
    (ChangeSpec.witness_shaped (enc := enc) (C := Tryd.checked) (os := os) (X := fun w _ => laidMetH Tryd.prog Rows.hashParseRow.laid w) false (World.doorLaid Tryd.prog 400 os) #[.string ⟨#[]⟩, .agg #[.int .u8 0, .int .u8 0, .int .u8 0, .int .u8 0, .int .u8 0, .int .u8 0, .int .u8 0, .int .u8 0, .int .u8 0, .int .u8 0, .int .u8 0, .int .u8 0, .int .u8 0, .int .u8 0, .int .u8 0, .int .u8 0, .int .u8 0, .int .u8 0, .int .u8 0, .int .u8 0, .int .u8 0, .int .u8 0, .int .u8 0, .int .u8 0, .int .u8 0, .int .u8 0, .int .u8 0, .int .u8 0, .int .u8 0, .int .u8 0, .int .u8 0, .int .u8 0], .int .i64 0, .int .u8 0, .int .i64 0] 8 rfl (World.shaped_of_RefB (by kernel_rfl) (by kernel_rfl)) (by kernel_rfl) (by kernel_rfl) (by kernel_rfl) (hashParse_met os _)) ?_
  intro W base args ds gs before hval0 hW _ _ hL _
  have hval : ∀ (j : Nat) t v, Tryd.f7.params[j]? = some t → args[j]? = some v → Value.okWide Tryd.prog W .any base t v := hval0
  have hW' := hW
  obtain ⟨p, q, hA0, hV, rfl, hfz, hnd⟩ := hW
  have hA : DataW.TrodAll enc Tryd.prog W 0 (fun _ => true) true Tryd.f7.params.toList args.toList ds p := hA0
  rw [Tryd.params7] at hA hval
  obtain ⟨v0, vs0, d0, ds0, p0, q0, hargs, rfl, rfl, h0, r0⟩ := trodAll_cons hA
  obtain ⟨v1, vs1, d1, ds1, p1, q1, rfl, rfl, rfl, h1, r1⟩ := trodAll_cons r0
  obtain ⟨v2, vs2, d2, ds2, p2, q2, rfl, rfl, rfl, h2, r2⟩ := trodAll_cons r1
  obtain ⟨v3, vs3, d3, ds3, p3, q3, rfl, rfl, rfl, h3, r3⟩ := trodAll_cons r2
  obtain ⟨v4, vs4, d4, ds4, p4, q4, rfl, rfl, rfl, h4, r4⟩ := trodAll_cons r3
  obtain ⟨rfl, rfl, rfl⟩ := trodAll_nil r4
  obtain ⟨rfl, rfl⟩ := trodVars_none hV
  obtain rfl : args = #[v0, v1, v2, v3, v4] := by cases args; simp_all
  obtain ⟨s, hs, rfl, rfl⟩ := openS (hval 0 9 v0 rfl rfl) h0
  obtain ⟨f, rfl, rfl⟩ := openH (hval 1 25 v1 rfl rfl) h1
  obtain ⟨z, rfl, rfl, rfl, wz⟩ := open_int Tryd.underlying3 (hval 2 3 v2 rfl rfl) h2
  obtain ⟨b, rfl, rfl, rfl, wb⟩ := open_int Tryd.underlying5 (hval 3 5 v3 rfl rfl) h3
  obtain ⟨w, rfl, rfl, rfl, ww⟩ := open_int Tryd.underlying3 (hval 4 3 v4 rfl rfl) h4
  have hT := rcF_of (rc_of_laid hL (by kernel_rfl))
  clear hA0 hval0
  simp only [List.append_nil] at hW'
  refine (parse_law hT s f z b w (byte_of_wf wb)).mono fun e W' ⟨he, hw⟩ => ?_
  subst he
  exact ⟨_, rfl, _, _, _, [], [], [], hW', trodAll_mk1 (shut_bool Tryd.underlying4 _), (trodAll_cons_mk (p := []) (Below.trod Tryd.laidOut (by kernel_rfl) (by decide) h0 hw (fun _ h => by cases h)) (trodAll_cons_mk (p := []) (Below.trod Tryd.laidOut (by kernel_rfl) (by decide) h1 hw (fun _ h => by cases h)) (trodAll_cons_mk (p := []) (Below.trod Tryd.laidOut (by kernel_rfl) (by decide) h2 hw (fun _ h => by cases h)) (trodAll_cons_mk (p := []) (Below.trod Tryd.laidOut (by kernel_rfl) (by decide) h3 hw (fun _ h => by cases h)) (trodAll_cons_mk (p := []) (Below.trod Tryd.laidOut (by kernel_rfl) (by decide) h4 hw (fun _ h => by cases h)) trodAll_mk0))))), rfl, hw.frame _, fun h => by cases h⟩

theorem parse7_row : Rows.HashParseSaid :=
  OpenClaim.holds_of_wide 7 Tryd.f7 rfl rfl rfl rfl rfl rfl rfl ⟨rfl, rfl, rfl, rfl, rfl⟩ rfl rfl rfl rfl rfl (by kernel_rfl) Tryd.func7 (by kernel_rfl)
    (of_decide_eq_true (by kernel_rfl)) (by unfold Func.isWrapper; rw [if_neg (of_decide_eq_false (by kernel_rfl))]; exact ⟨rfl, rfl⟩)
    (fun os started H enc _ => hashParse_lifted os started H enc)

theorem parse7_holds : Rows.HashParseCardSaid :=
  Claim7.holds_tied_plain_at .later [] [.data] true Rows.hashParseCard.stood.harness false
    parse7_row (fun _ h => by cases h) (by kernel_rfl) (fun _ h => by cases h) hashParse_row_tie rfl ⟨rfl, rfl⟩ (by kernel_rfl) rfl
    (fun f fn hf hfn => by
      obtain rfl : f = 7 := Option.some.inj ((show Tryd.prog.funcNamed Rows.hashParseRow.func = some 7 by kernel_rfl).symm.trans hf) |>.symm
      obtain rfl : fn = Tryd.f7 := (Option.some.inj (Tryd.func7.symm.trans hfn)).symm
      exact ⟨by kernel_rfl, fun j t ht => by
        rw [Tryd.params7] at ht
        have hm : t ∈ [9, 25, 3, 5] := by have h5 := Array.mem_of_getElem? ht; simp at h5; rcases h5 with rfl | rfl | rfl | rfl | rfl <;> simp
        have hall : ([9, 25, 3, 5].all fun u => !Tryd.prog.wantsStandIn u) = true := by kernel_rfl
        exact (show Tryd.prog.wantsStandIn t = false by simpa using List.all_eq_true.1 hall t hm)⟩)
    (by kernel_rfl)
#print axioms parse7_holds

end Go.Proofs.YtkbdncbifgicnaaDoor

