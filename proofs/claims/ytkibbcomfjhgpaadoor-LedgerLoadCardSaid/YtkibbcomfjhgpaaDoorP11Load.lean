/- The law LedgerLoad holds: for every list of accounts, all vaults, every list of calls and every integer the call returns true; its arguments read afterwards as they read before. Condition: the package's variable for the largest number starts as the program's text lays it, and the card ties that to the text. -/
import Derived.Test.YtkibbcomfjhgpaaDoorK2g
import Derived.Test.YtkibbcomfjhgpaaDoorK1h
import Derived.Test.YtkibbcomfjhgpaaDoorSxz
import Derived.Test.YtkibbcomfjhgpaaDoorLaidG
import Derived.Test.YtkibbcomfjhgpaaDoorSxo
namespace Go.Proofs.YtkibbcomfjhgpaaDoor
open Go.ChangeShapes Go.WideShapes Go.ChangeAt Go.RowKit Sx

set_option maxRecDepth 100000 in
theorem load11_call {W : World} (hL : Lg W) (y : Ass) (v : Nat → Nat) (dd : Cds) (how : Int) (hw : ∀ i, AcOk (y.l.getD i default)) (hv : ∀ k, v k < B256) (fy : Sx.Holds W y.L) (fd : Sx.Holds W dd.L) : Calls Tryd.prog 4 #[y.v, VV4 v, dd.v, .int .i64 how] W fun e w' => e = .returned (.bool true) ∧ Below W.heap.size W w' := by
  obtain ⟨A, h1, h2⟩ := lgF_of hL
  exact (load_law y v dd how hw hv (A ++ y.L ++ dd.L) ((h1.app _).app _) (fun q h => List.mem_append.2 (.inl (List.mem_append.2 (.inr h)))) (fun q h => List.mem_append.2 (.inr h))).calls good_pontagelaw11_LedgerLoad.enters W (fun q h => (List.mem_append.1 h).elim (fun h => (List.mem_append.1 h).elim (h2 q) (fy q)) (fd q))

theorem ledgerLoad_met (os : Os) (args : Array Value) : laidMetH Tryd.prog Rows.ledgerLoadRow.laid ((World.doorLaid Tryd.prog 400 os).forCall (fun _ _ => 0) ⟨#[], args, []⟩).memory :=
  laidMetH_of_parts3 (fuel := 8) (laidMet_of_run' 8 (by kernel_rfl) (by kernel_rfl)) (by kernel_rfl) (by kernel_rfl)

set_option maxRecDepth 100000 in
theorem ledgerLoad_lifted (os : Os) (started : os.Started) (H : Type) (enc : TypeId × Value → H) :
    ReturnsInHanded {} Tryd.checked os 4 .any (fun w args => (Rows.ledgerLoadSpec.pre enc Tryd.prog Tryd.f4 [] false w args ∧ laidMetH Tryd.prog Rows.ledgerLoadRow.laid w) ∧ sizedMet enc Tryd.prog Tryd.f4 (OpenSpec.ofChange Rows.ledgerLoadSpec) false w args)
      (Rows.ledgerLoadSpec.post enc Tryd.prog Tryd.f4 false true false false) := by
  refine returnsInHanded_of_change_and (C := Tryd.checked) (X := fun w _ => laidMetH Tryd.prog Rows.ledgerLoadRow.laid w) (fun _ _ _ hh h => h.of_heap hh) Tryd.own started (by kernel_rfl) Tryd.func4
    (ChangeSpec.witness_shaped (enc := enc) (C := Tryd.checked) (os := os) (X := fun w _ => laidMetH Tryd.prog Rows.ledgerLoadRow.laid w) false (World.doorLaid Tryd.prog 400 os) #[.slice none 0 0, .agg #[.int .u64 0, .int .u64 0, .int .u64 0, .int .u64 0, .int .u64 0, .int .u64 0, .int .u64 0, .int .u64 0, .int .u64 0, .int .u64 0, .int .u64 0, .int .u64 0, .int .u64 0, .int .u64 0, .int .u64 0, .int .u64 0], .slice none 0 0, .int .i64 0] 8 rfl (World.shaped_of_RefB (by kernel_rfl) (by kernel_rfl)) (by kernel_rfl) (by kernel_rfl) (by kernel_rfl) (ledgerLoad_met os _)) ?_
  intro W base args ds gs before hval0 hW _ _ hL _
  have hval : ∀ (j : Nat) t v, Tryd.f4.params[j]? = some t → args[j]? = some v → Value.okWide Tryd.prog W .any base t v := hval0
  have hW' := hW
  obtain ⟨p, q, hA0, hV, rfl, hfz, hnd⟩ := hW
  have hA : DataW.TrodAll enc Tryd.prog W 0 (fun _ => true) true Tryd.f4.params.toList args.toList ds p := hA0
  rw [Tryd.params4] at hA hval
  obtain ⟨v0, vs0, d0, ds0, p0, q0, hargs, rfl, rfl, h0, r0⟩ := trodAll_cons hA
  obtain ⟨v1, vs1, d1, ds1, p1, q1, rfl, rfl, rfl, h1, r1⟩ := trodAll_cons r0
  obtain ⟨v2, vs2, d2, ds2, p2, q2, rfl, rfl, rfl, h2, r2⟩ := trodAll_cons r1
  obtain ⟨v3, vs3, d3, ds3, p3, q3, rfl, rfl, rfl, h3, r3⟩ := trodAll_cons r2
  obtain ⟨rfl, rfl, rfl⟩ := trodAll_nil r3
  obtain ⟨rfl, rfl⟩ := trodVars_none hV
  obtain rfl : args = #[v0, v1, v2, v3] := by cases args; simp_all
  obtain ⟨y, wy, rfl, fy⟩ := openAss (hval 0 40 v0 rfl rfl) h0
  obtain ⟨v, hv, rfl, rfl⟩ := openV4 (hval 1 41 v1 rfl rfl) h1
  obtain ⟨dd, rfl, fdd⟩ := openCds (hval 2 22 v2 rfl rfl) h2
  obtain ⟨how, rfl, rfl, rfl, whow⟩ := open_int Tryd.underlying3 (hval 3 3 v3 rfl rfl) h3
  have hLg := lg_of_laid hL
  clear hA0 hval0
  simp only [List.append_nil, List.nil_append] at hW'
  have hm0 : ∀ y ∈ p0, y.block < W.heap.size := fun y hy => hW'.lt y (by simp [hy])
  have hm2 : ∀ y ∈ p2, y.block < W.heap.size := fun y hy => hW'.lt y (by simp [hy])
  refine (load11_call hLg y v dd how wy hv fy fdd).mono fun e W' ⟨he, hw⟩ => ?_
  subst he
  exact ⟨_, rfl, _, _, _, [], p0 ++ (p2), [], hW', trodAll_mk1 (shut_bool Tryd.underlying4 _), (by have hs := (trodAll_cons_mk (Below.trod Tryd.laidOut (by kernel_rfl) (of_decide_eq_true (by kernel_rfl)) h0 hw hm0) (trodAll_cons_mk (p := []) (Below.trod Tryd.laidOut (by kernel_rfl) (by decide) h1 hw (fun _ h => by cases h)) (trodAll_cons_mk (Below.trod Tryd.laidOut (by kernel_rfl) (of_decide_eq_true (by kernel_rfl)) h2 hw hm2) (trodAll_cons_mk (p := []) (Below.trod Tryd.laidOut (by kernel_rfl) (by decide) h3 hw (fun _ h => by cases h)) trodAll_mk0)))); simp only [List.append_nil, List.nil_append] at hs; exact hs), rfl, hw.frame _, fun h => by cases h⟩

theorem load11_row : Rows.LedgerLoadSaid :=
  OpenClaim.holds_of_wide 4 Tryd.f4 rfl rfl rfl rfl rfl rfl rfl ⟨rfl, rfl, rfl, rfl, rfl⟩ rfl rfl rfl rfl rfl (by kernel_rfl) Tryd.func4 (by kernel_rfl)
    (of_decide_eq_true (by kernel_rfl)) (by unfold Func.isWrapper; rw [if_neg (of_decide_eq_false (by kernel_rfl))]; exact ⟨rfl, rfl⟩)
    (fun os started H enc _ => ledgerLoad_lifted os started H enc)

theorem load11_holds : Rows.LedgerLoadCardSaid :=
  Claim7.holds_tied_plain_at .later [] [.data] true Rows.ledgerLoadCard.stood.harness Rows.ledgerLoadCard.stood.looks
    load11_row (fun _ h => by cases h) (by kernel_rfl) (fun _ h => by cases h) ledgerLoad_row_tie rfl ⟨rfl, rfl⟩ (by kernel_rfl) rfl
    (fun f fn hf hfn => by
      obtain rfl : f = 4 := Option.some.inj ((show Tryd.prog.funcNamed Rows.ledgerLoadRow.func = some 4 by kernel_rfl).symm.trans hf) |>.symm
      obtain rfl : fn = Tryd.f4 := (Option.some.inj (Tryd.func4.symm.trans hfn)).symm
      exact ⟨by kernel_rfl, fun j t ht => by
        rw [Tryd.params4] at ht
        have hm : t ∈ [40, 41, 22, 3] := by simpa using Array.mem_of_getElem? ht
        have hall : ([40, 41, 22, 3].all fun u => !Tryd.prog.wantsStandIn u) = true := by kernel_rfl
        exact (show Tryd.prog.wantsStandIn t = false by simpa using List.all_eq_true.1 hall t hm)⟩)
    (by kernel_rfl)
#print axioms load11_holds

end Go.Proofs.YtkibbcomfjhgpaaDoor

