/- The law MerkleVerify holds: for all arguments the call returns true; its arguments read afterwards as they read before. Condition: the table of round constants starts as the program's text lays it, and the card ties that to the text. -/
import Derived.Test.YtgbfolkpgmjaeaaDoorL8v
import Derived.Test.YtgbfolkpgmjaeaaDoorLaidM
namespace Go.Proofs.YtgbfolkpgmjaeaaDoor
open Go.ChangeShapes Go.WideShapes Go.ChangeAt Go.RowKit Sx

theorem verif8_call {W : World} (hT : ∃ A, EnvF RC A ∧ Sx.Holds W A) (v : Iss) (i : Int) (n : Int) (r : Hx) (x : Hx) (w : Hss) (how : Int) (at_ : Int) (fv : Sx.Holds W v.L) (fw : Sx.Holds W w.L) (hn : n ≤ 9223372036854775807) : Calls Tryd.prog 5 #[v.v, .int .i64 i, .int .i64 n, H8 r, H8 x, w.v, .int .i64 how, .int .i64 at_] W fun e w' => e = .returned (.bool true) ∧ Below W.heap.size W w' := by
  obtain ⟨A, h1, h2⟩ := hT
  exact (mv_law v i n r x w how at_ (A ++ v.L ++ w.L) ((h1.app _).app _) (fun q h => subl q (subr q h)) subr hn).calls good_pontagelaw8_MerkleVerify.enters W (happ (happ h2 fv) fw)

theorem merkleVerify_met (os : Os) (args : Array Value) : laidMetH Tryd.prog Rows.merkleVerifyRow.laid ((World.doorLaid Tryd.prog 400 os).forCall (fun _ _ => 0) ⟨#[], args, []⟩).memory :=
  laidMetH_of_parts3 (fuel := 8) (laidMet_of_run' 8 (by kernel_rfl) (by kernel_rfl)) (by kernel_rfl) (by kernel_rfl)

set_option maxRecDepth 100000 in
theorem merkleVerify_lifted (os : Os) (started : os.Started) (H : Type) (enc : TypeId × Value → H) :
    ReturnsInHanded {} Tryd.checked os 5 .any (fun w args => (Rows.merkleVerifySpec.pre enc Tryd.prog Tryd.f5 [] false w args ∧ laidMetH Tryd.prog Rows.merkleVerifyRow.laid w) ∧ sizedMet enc Tryd.prog Tryd.f5 (OpenSpec.ofChange Rows.merkleVerifySpec) false w args)
      (Rows.merkleVerifySpec.post enc Tryd.prog Tryd.f5 false true false false) := by
  refine returnsInHanded_of_change_and (C := Tryd.checked) (X := fun w _ => laidMetH Tryd.prog Rows.merkleVerifyRow.laid w) (fun _ _ _ hh h => h.of_heap hh) Tryd.own started (by kernel_rfl) Tryd.func5
    (ChangeSpec.witness_shaped (enc := enc) (C := Tryd.checked) (os := os) (X := fun w _ => laidMetH Tryd.prog Rows.merkleVerifyRow.laid w) false (World.doorLaid Tryd.prog 400 os) #[.slice none 0 0, .int .i64 0, .int .i64 0, .agg #[.int .u8 0, .int .u8 0, .int .u8 0, .int .u8 0, .int .u8 0, .int .u8 0, .int .u8 0, .int .u8 0, .int .u8 0, .int .u8 0, .int .u8 0, .int .u8 0, .int .u8 0, .int .u8 0, .int .u8 0, .int .u8 0, .int .u8 0, .int .u8 0, .int .u8 0, .int .u8 0, .int .u8 0, .int .u8 0, .int .u8 0, .int .u8 0, .int .u8 0, .int .u8 0, .int .u8 0, .int .u8 0, .int .u8 0, .int .u8 0, .int .u8 0, .int .u8 0], .agg #[.int .u8 0, .int .u8 0, .int .u8 0, .int .u8 0, .int .u8 0, .int .u8 0, .int .u8 0, .int .u8 0, .int .u8 0, .int .u8 0, .int .u8 0, .int .u8 0, .int .u8 0, .int .u8 0, .int .u8 0, .int .u8 0, .int .u8 0, .int .u8 0, .int .u8 0, .int .u8 0, .int .u8 0, .int .u8 0, .int .u8 0, .int .u8 0, .int .u8 0, .int .u8 0, .int .u8 0, .int .u8 0, .int .u8 0, .int .u8 0, .int .u8 0, .int .u8 0], .slice none 0 0, .int .i64 0, .int .i64 0] 8 rfl (World.shaped_of_RefB (by kernel_rfl) (by kernel_rfl)) (by kernel_rfl) (by kernel_rfl) (by kernel_rfl) (merkleVerify_met os _)) ?_
  intro W base args ds gs before hval0 hW _ _ hL _
  have hval : ∀ (j : Nat) t v, Tryd.f5.params[j]? = some t → args[j]? = some v → Value.okWide Tryd.prog W .any base t v := hval0
  have hW' := hW
  obtain ⟨p, q, hA0, hV, rfl, hfz, hnd⟩ := hW
  have hA : DataW.TrodAll enc Tryd.prog W 0 (fun _ => true) true Tryd.f5.params.toList args.toList ds p := hA0
  rw [Tryd.params5] at hA hval
  obtain ⟨v0, vs0, d0, ds0, p0, q0, hargs, rfl, rfl, h0, r0⟩ := trodAll_cons hA
  obtain ⟨v1, vs1, d1, ds1, p1, q1, rfl, rfl, rfl, h1, r1⟩ := trodAll_cons r0
  obtain ⟨v2, vs2, d2, ds2, p2, q2, rfl, rfl, rfl, h2, r2⟩ := trodAll_cons r1
  obtain ⟨v3, vs3, d3, ds3, p3, q3, rfl, rfl, rfl, h3, r3⟩ := trodAll_cons r2
  obtain ⟨v4, vs4, d4, ds4, p4, q4, rfl, rfl, rfl, h4, r4⟩ := trodAll_cons r3
  obtain ⟨v5, vs5, d5, ds5, p5, q5, rfl, rfl, rfl, h5, r5⟩ := trodAll_cons r4
  obtain ⟨v6, vs6, d6, ds6, p6, q6, rfl, rfl, rfl, h6, r6⟩ := trodAll_cons r5
  obtain ⟨v7, vs7, d7, ds7, p7, q7, rfl, rfl, rfl, h7, r7⟩ := trodAll_cons r6
  obtain ⟨rfl, rfl, rfl⟩ := trodAll_nil r7
  obtain ⟨rfl, rfl⟩ := trodVars_none hV
  obtain rfl : args = #[v0, v1, v2, v3, v4, v5, v6, v7] := by cases args; simp_all
  obtain ⟨v, rfl, fv⟩ := openIs (hval 0 34 v0 rfl rfl) h0
  obtain ⟨i, rfl, rfl, rfl, wi⟩ := open_int Tryd.underlying3 (hval 1 3 v1 rfl rfl) h1
  obtain ⟨n, rfl, rfl, rfl, wn⟩ := open_int Tryd.underlying3 (hval 2 3 v2 rfl rfl) h2
  obtain ⟨r, rfl, rfl⟩ := openH (hval 3 28 v3 rfl rfl) h3
  obtain ⟨x, rfl, rfl⟩ := openH (hval 4 28 v4 rfl rfl) h4
  obtain ⟨w, rfl, fw⟩ := openHs (hval 5 22 v5 rfl rfl) h5
  obtain ⟨how, rfl, rfl, rfl, whow⟩ := open_int Tryd.underlying3 (hval 6 3 v6 rfl rfl) h6
  obtain ⟨at_, rfl, rfl, rfl, wat_⟩ := open_int Tryd.underlying3 (hval 7 3 v7 rfl rfl) h7
  have hT := rcF_of (rc_of_laid hL (by kernel_rfl))
  clear hA0 hval0
  simp only [List.append_nil, List.nil_append] at hW'
  have hm0 : ∀ y ∈ p0, y.block < W.heap.size := fun y hy => hW'.lt y (by simp [hy])
  have hm5 : ∀ y ∈ p5, y.block < W.heap.size := fun y hy => hW'.lt y (by simp [hy])
  refine (verif8_call hT v i n r x w how at_ fv fw (i64_hi wn)).mono fun e W' ⟨he, hw⟩ => ?_
  subst he
  exact ⟨_, rfl, _, _, _, [], p0 ++ (p5), [], hW', trodAll_mk1 (shut_bool Tryd.underlying4 _), (by have hs := (trodAll_cons_mk (Below.trod Tryd.laidOut (by kernel_rfl) (of_decide_eq_true (by kernel_rfl)) h0 hw hm0) (trodAll_cons_mk (p := []) (Below.trod Tryd.laidOut (by kernel_rfl) (by decide) h1 hw (fun _ h => by cases h)) (trodAll_cons_mk (p := []) (Below.trod Tryd.laidOut (by kernel_rfl) (by decide) h2 hw (fun _ h => by cases h)) (trodAll_cons_mk (p := []) (Below.trod Tryd.laidOut (by kernel_rfl) (by decide) h3 hw (fun _ h => by cases h)) (trodAll_cons_mk (p := []) (Below.trod Tryd.laidOut (by kernel_rfl) (by decide) h4 hw (fun _ h => by cases h)) (trodAll_cons_mk (Below.trod Tryd.laidOut (by kernel_rfl) (of_decide_eq_true (by kernel_rfl)) h5 hw hm5) (trodAll_cons_mk (p := []) (Below.trod Tryd.laidOut (by kernel_rfl) (by decide) h6 hw (fun _ h => by cases h)) (trodAll_cons_mk (p := []) (Below.trod Tryd.laidOut (by kernel_rfl) (by decide) h7 hw (fun _ h => by cases h)) trodAll_mk0)))))))); simp only [List.append_nil, List.nil_append] at hs; exact hs), rfl, hw.frame _, fun h => by cases h⟩

theorem verif8_row : Rows.MerkleVerifySaid :=
  OpenClaim.holds_of_wide 5 Tryd.f5 rfl rfl rfl rfl rfl rfl rfl ⟨rfl, rfl, rfl, rfl, rfl⟩ rfl rfl rfl rfl rfl (by kernel_rfl) Tryd.func5 (by kernel_rfl)
    (of_decide_eq_true (by kernel_rfl)) (by unfold Func.isWrapper; rw [if_neg (of_decide_eq_false (by kernel_rfl))]; exact ⟨rfl, rfl⟩)
    (fun os started H enc _ => merkleVerify_lifted os started H enc)

theorem verif8_holds : Rows.MerkleVerifyCardSaid :=
  Claim7.holds_tied_plain_at .later [] [.data] true Rows.merkleVerifyCard.stood.harness false
    verif8_row (fun _ h => by cases h) (by kernel_rfl) (fun _ h => by cases h) merkleVerify_row_tie rfl ⟨rfl, rfl⟩ (by kernel_rfl) rfl
    (fun f fn hf hfn => by
      obtain rfl : f = 5 := Option.some.inj ((show Tryd.prog.funcNamed Rows.merkleVerifyRow.func = some 5 by kernel_rfl).symm.trans hf) |>.symm
      obtain rfl : fn = Tryd.f5 := (Option.some.inj (Tryd.func5.symm.trans hfn)).symm
      exact ⟨by kernel_rfl, fun j t ht => by
        rw [Tryd.params5] at ht
        have hm : t ∈ [34, 3, 28, 22] := by have h5 := Array.mem_of_getElem? ht; simp at h5; rcases h5 with rfl | rfl | rfl | rfl | rfl | rfl | rfl | rfl <;> simp
        have hall : ([34, 3, 28, 22].all fun u => !Tryd.prog.wantsStandIn u) = true := by kernel_rfl
        exact (show Tryd.prog.wantsStandIn t = false by simpa using List.all_eq_true.1 hall t hm)⟩)
    (by kernel_rfl)
#print axioms verif8_holds

end Go.Proofs.YtgbfolkpgmjaeaaDoor

