/- The law MerkleSubtrees holds: for all arguments the call returns true; its arguments read afterwards as they read before. Condition: the table of round constants starts as the program's text lays it, and the card ties that to the text. -/
import Derived.Test.YtgbfolkpgmjaeaaDoorL8s
import Derived.Test.YtgbfolkpgmjaeaaDoorLaidM
namespace Go.Proofs.YtgbfolkpgmjaeaaDoor
open Go.ChangeShapes Go.WideShapes Go.ChangeAt Go.RowKit Sx

theorem subt8_call {W : World} (hT : ∃ A, EnvF RC A ∧ Sx.Holds W A) (v : Iss) (x : Hx) (fv : Sx.Holds W v.L) : Calls Tryd.prog 8 #[v.v, H8 x] W fun e w' => e = .returned (.bool true) ∧ Below W.heap.size W w' := by
  obtain ⟨A, h1, h2⟩ := hT
  exact (st_law v x (A ++ v.L) (h1.app _) subr).calls good_pontagelaw8_MerkleSubtrees.enters W (happ h2 fv)

theorem merkleSubtrees_met (os : Os) (args : Array Value) : laidMetH Tryd.prog Rows.merkleSubtreesRow.laid ((World.doorLaid Tryd.prog 400 os).forCall (fun _ _ => 0) ⟨#[], args, []⟩).memory :=
  laidMetH_of_parts3 (fuel := 8) (laidMet_of_run' 8 (by kernel_rfl) (by kernel_rfl)) (by kernel_rfl) (by kernel_rfl)

set_option maxRecDepth 100000 in
theorem merkleSubtrees_lifted (os : Os) (started : os.Started) (H : Type) (enc : TypeId × Value → H) :
    ReturnsInHanded {} Tryd.checked os 8 .any (fun w args => (Rows.merkleSubtreesSpec.pre enc Tryd.prog Tryd.f8 [] false w args ∧ laidMetH Tryd.prog Rows.merkleSubtreesRow.laid w) ∧ sizedMet enc Tryd.prog Tryd.f8 (OpenSpec.ofChange Rows.merkleSubtreesSpec) false w args)
      (Rows.merkleSubtreesSpec.post enc Tryd.prog Tryd.f8 false true false false) := by
  refine returnsInHanded_of_change_and (C := Tryd.checked) (X := fun w _ => laidMetH Tryd.prog Rows.merkleSubtreesRow.laid w) (fun _ _ _ hh h => h.of_heap hh) Tryd.own started (by kernel_rfl) Tryd.func8
    (ChangeSpec.witness_shaped (enc := enc) (C := Tryd.checked) (os := os) (X := fun w _ => laidMetH Tryd.prog Rows.merkleSubtreesRow.laid w) false (World.doorLaid Tryd.prog 400 os) #[.slice none 0 0, .agg #[.int .u8 0, .int .u8 0, .int .u8 0, .int .u8 0, .int .u8 0, .int .u8 0, .int .u8 0, .int .u8 0, .int .u8 0, .int .u8 0, .int .u8 0, .int .u8 0, .int .u8 0, .int .u8 0, .int .u8 0, .int .u8 0, .int .u8 0, .int .u8 0, .int .u8 0, .int .u8 0, .int .u8 0, .int .u8 0, .int .u8 0, .int .u8 0, .int .u8 0, .int .u8 0, .int .u8 0, .int .u8 0, .int .u8 0, .int .u8 0, .int .u8 0, .int .u8 0]] 8 rfl (World.shaped_of_RefB (by kernel_rfl) (by kernel_rfl)) (by kernel_rfl) (by kernel_rfl) (by kernel_rfl) (merkleSubtrees_met os _)) ?_
  intro W base args ds gs before hval0 hW _ _ hL _
  have hval : ∀ (j : Nat) t v, Tryd.f8.params[j]? = some t → args[j]? = some v → Value.okWide Tryd.prog W .any base t v := hval0
  have hW' := hW
  obtain ⟨p, q, hA0, hV, rfl, hfz, hnd⟩ := hW
  have hA : DataW.TrodAll enc Tryd.prog W 0 (fun _ => true) true Tryd.f8.params.toList args.toList ds p := hA0
  rw [Tryd.params8] at hA hval
  obtain ⟨v0, vs0, d0, ds0, p0, q0, hargs, rfl, rfl, h0, r0⟩ := trodAll_cons hA
  obtain ⟨v1, vs1, d1, ds1, p1, q1, rfl, rfl, rfl, h1, r1⟩ := trodAll_cons r0
  obtain ⟨rfl, rfl, rfl⟩ := trodAll_nil r1
  obtain ⟨rfl, rfl⟩ := trodVars_none hV
  obtain rfl : args = #[v0, v1] := by cases args; simp_all
  obtain ⟨v, rfl, fv⟩ := openIs (hval 0 34 v0 rfl rfl) h0
  obtain ⟨x, rfl, rfl⟩ := openH (hval 1 28 v1 rfl rfl) h1
  have hT := rcF_of (rc_of_laid hL (by kernel_rfl))
  clear hA0 hval0
  simp only [List.append_nil] at hW'
  have hm0 : ∀ y ∈ p0, y.block < W.heap.size := fun y hy => hW'.lt y (by simp [hy])
  refine (subt8_call hT v x fv).mono fun e W' ⟨he, hw⟩ => ?_
  subst he
  exact ⟨_, rfl, _, _, _, [], p0, [], hW', trodAll_mk1 (shut_bool Tryd.underlying4 _), (by have hs := (trodAll_cons_mk (Below.trod Tryd.laidOut (by kernel_rfl) (of_decide_eq_true (by kernel_rfl)) h0 hw hm0) (trodAll_cons_mk (p := []) (Below.trod Tryd.laidOut (by kernel_rfl) (by decide) h1 hw (fun _ h => by cases h)) trodAll_mk0)); simp only [List.append_nil] at hs; exact hs), rfl, hw.frame _, fun h => by cases h⟩

theorem subt8_row : Rows.MerkleSubtreesSaid :=
  OpenClaim.holds_of_wide 8 Tryd.f8 rfl rfl rfl rfl rfl rfl rfl ⟨rfl, rfl, rfl, rfl, rfl⟩ rfl rfl rfl rfl rfl (by kernel_rfl) Tryd.func8 (by kernel_rfl)
    (of_decide_eq_true (by kernel_rfl)) (by unfold Func.isWrapper; rw [if_neg (of_decide_eq_false (by kernel_rfl))]; exact ⟨rfl, rfl⟩)
    (fun os started H enc _ => merkleSubtrees_lifted os started H enc)

theorem subt8_holds : Rows.MerkleSubtreesCardSaid :=
  Claim7.holds_tied_plain_at .later [] [.data] true Rows.merkleSubtreesCard.stood.harness false
    subt8_row (fun _ h => by cases h) (by kernel_rfl) (fun _ h => by cases h) merkleSubtrees_row_tie rfl ⟨rfl, rfl⟩ (by kernel_rfl) rfl
    (fun f fn hf hfn => by
      obtain rfl : f = 8 := Option.some.inj ((show Tryd.prog.funcNamed Rows.merkleSubtreesRow.func = some 8 by kernel_rfl).symm.trans hf) |>.symm
      obtain rfl : fn = Tryd.f8 := (Option.some.inj (Tryd.func8.symm.trans hfn)).symm
      exact ⟨by kernel_rfl, fun j t ht => by
        rw [Tryd.params8] at ht
        have hm : t ∈ [34, 28] := by simpa using Array.mem_of_getElem? ht
        have hall : ([34, 28].all fun u => !Tryd.prog.wantsStandIn u) = true := by kernel_rfl
        exact (show Tryd.prog.wantsStandIn t = false by simpa using List.all_eq_true.1 hall t hm)⟩)
    (by kernel_rfl)
#print axioms subt8_holds

end Go.Proofs.YtgbfolkpgmjaeaaDoor

