/- The law LedgerCopy holds: for all lists of calls the call returns true; its arguments read afterwards as they read before. Condition: the package's variable for the largest number starts as the program's text lays it, and the card ties that to the text. -/
import Derived.Test.YtncmaoncciiecaaDoorK1o
import Derived.Test.YtncmaoncciiecaaDoorK1h
import Derived.Test.YtncmaoncciiecaaDoorSxz
import Derived.Test.YtncmaoncciiecaaDoorLaidG
import Derived.Test.YtncmaoncciiecaaDoorSxo
namespace Go.Proofs.YtncmaoncciiecaaDoor
open Go.ChangeShapes Go.WideShapes Go.ChangeAt Go.RowKit Sx

set_option maxRecDepth 100000 in
theorem copy11_call {W : World} (hL : Lg W) (y z : Cds) (fy : Sx.Holds W y.L) (fz : Sx.Holds W z.L) : Calls Tryd.prog 6 #[y.v, z.v] W fun e w' => e = .returned (.bool true) ∧ Below W.heap.size W w' := by
  obtain ⟨A, h1, h2⟩ := lgF_of hL
  exact (copy_law y z (A ++ y.L ++ z.L) ((h1.app _).app _) (fun q h => List.mem_append.2 (.inl (List.mem_append.2 (.inr h)))) (fun q h => List.mem_append.2 (.inr h))).calls good_pontagelaw11_LedgerCopy.enters W (fun q h => (List.mem_append.1 h).elim (fun h => (List.mem_append.1 h).elim (h2 q) (fy q)) (fz q))

theorem ledgerCopy_met (os : Os) (args : Array Value) : laidMetH Tryd.prog Rows.ledgerCopyRow.laid ((World.doorLaid Tryd.prog 400 os).forCall (fun _ _ => 0) ⟨#[], args, []⟩).memory :=
  laidMetH_of_parts3 (fuel := 8) (laidMet_of_run' 8 (by kernel_rfl) (by kernel_rfl)) (by kernel_rfl) (by kernel_rfl)

set_option maxRecDepth 100000 in
theorem ledgerCopy_lifted (os : Os) (started : os.Started) (H : Type) (enc : TypeId × Value → H) :
    ReturnsInHanded {} Tryd.checked os 6 .any (fun w args => (Rows.ledgerCopySpec.pre enc Tryd.prog Tryd.f6 [] false w args ∧ laidMetH Tryd.prog Rows.ledgerCopyRow.laid w) ∧ sizedMet enc Tryd.prog Tryd.f6 (OpenSpec.ofChange Rows.ledgerCopySpec) false w args)
      (Rows.ledgerCopySpec.post enc Tryd.prog Tryd.f6 false true false false) := by
  refine returnsInHanded_of_change_and (C := Tryd.checked) (X := fun w _ => laidMetH Tryd.prog Rows.ledgerCopyRow.laid w) (fun _ _ _ hh h => h.of_heap hh) Tryd.own started (by kernel_rfl) Tryd.func6
    (ChangeSpec.witness_shaped (enc := enc) (C := Tryd.checked) (os := os) (X := fun w _ => laidMetH Tryd.prog Rows.ledgerCopyRow.laid w) false (World.doorLaid Tryd.prog 400 os) #[.slice none 0 0, .slice none 0 0] 8 rfl (World.shaped_of_RefB (by kernel_rfl) (by kernel_rfl)) (by kernel_rfl) (by kernel_rfl) (by kernel_rfl) (ledgerCopy_met os _)) ?_
  intro W base args ds gs before hval0 hW _ _ hL _
  have hval : ∀ (j : Nat) t v, Tryd.f6.params[j]? = some t → args[j]? = some v → Value.okWide Tryd.prog W .any base t v := hval0
  have hW' := hW
  obtain ⟨p, q, hA0, hV, rfl, hfz, hnd⟩ := hW
  have hA : DataW.TrodAll enc Tryd.prog W 0 (fun _ => true) true Tryd.f6.params.toList args.toList ds p := hA0
  rw [Tryd.params6] at hA hval
  obtain ⟨v0, vs0, d0, ds0, p0, q0, hargs, rfl, rfl, h0, r0⟩ := trodAll_cons hA
  obtain ⟨v1, vs1, d1, ds1, p1, q1, rfl, rfl, rfl, h1, r1⟩ := trodAll_cons r0
  obtain ⟨rfl, rfl, rfl⟩ := trodAll_nil r1
  obtain ⟨rfl, rfl⟩ := trodVars_none hV
  obtain rfl : args = #[v0, v1] := by cases args; simp_all
  obtain ⟨y, rfl, fy⟩ := openCds (hval 0 22 v0 rfl rfl) h0
  obtain ⟨z, rfl, fz⟩ := openCds (hval 1 22 v1 rfl rfl) h1
  have hLg := lg_of_laid hL
  clear hA0 hval0
  simp only [List.append_nil] at hW'
  have hm0 : ∀ y ∈ p0, y.block < W.heap.size := fun y hy => hW'.lt y (by simp [hy])
  have hm1 : ∀ y ∈ p1, y.block < W.heap.size := fun y hy => hW'.lt y (by simp [hy])
  refine (copy11_call hLg y z fy fz).mono fun e W' ⟨he, hw⟩ => ?_
  subst he
  exact ⟨_, rfl, _, _, _, [], p0 ++ (p1), [], hW', trodAll_mk1 (shut_bool Tryd.underlying4 _), (by have hs := (trodAll_cons_mk (Below.trod Tryd.laidOut (by kernel_rfl) (of_decide_eq_true (by kernel_rfl)) h0 hw hm0) (trodAll_cons_mk (Below.trod Tryd.laidOut (by kernel_rfl) (of_decide_eq_true (by kernel_rfl)) h1 hw hm1) trodAll_mk0)); simp only [List.append_nil] at hs; exact hs), rfl, hw.frame _, fun h => by cases h⟩

theorem copy11_row : Rows.LedgerCopySaid :=
  OpenClaim.holds_of_wide 6 Tryd.f6 rfl rfl rfl rfl rfl rfl rfl ⟨rfl, rfl, rfl, rfl, rfl⟩ rfl rfl rfl rfl rfl (by kernel_rfl) Tryd.func6 (by kernel_rfl)
    (of_decide_eq_true (by kernel_rfl)) (by unfold Func.isWrapper; rw [if_neg (of_decide_eq_false (by kernel_rfl))]; exact ⟨rfl, rfl⟩)
    (fun os started H enc _ => ledgerCopy_lifted os started H enc)

theorem copy11_holds : Rows.LedgerCopyCardSaid :=
  Claim7.holds_tied_plain_at .later [] [.data] true Rows.ledgerCopyCard.stood.harness Rows.ledgerCopyCard.stood.looks
    copy11_row (fun _ h => by cases h) (by kernel_rfl) (fun _ h => by cases h) ledgerCopy_row_tie rfl ⟨rfl, rfl⟩ (by kernel_rfl) rfl
    (fun f fn hf hfn => by
      obtain rfl : f = 6 := Option.some.inj ((show Tryd.prog.funcNamed Rows.ledgerCopyRow.func = some 6 by kernel_rfl).symm.trans hf) |>.symm
      obtain rfl : fn = Tryd.f6 := (Option.some.inj (Tryd.func6.symm.trans hfn)).symm
      exact ⟨by kernel_rfl, fun j t ht => by
        rw [Tryd.params6] at ht
        have hm : t ∈ [22] := by simpa using Array.mem_of_getElem? ht
        have hall : ([22].all fun u => !Tryd.prog.wantsStandIn u) = true := by kernel_rfl
        exact (show Tryd.prog.wantsStandIn t = false by simpa using List.all_eq_true.1 hall t hm)⟩)
    (by kernel_rfl)
#print axioms copy11_holds

end Go.Proofs.YtncmaoncciiecaaDoor

