/- Layer 11: the library's maps.Clone at the map of accounts stands in this translation as on the shelf; what it gives. No conditions. -/
import Derived.Test.YtncmaoncciiecaaDoorK1w
import Derived.Shelf.SlMaps.Clone
namespace Go.Proofs.YtncmaoncciiecaaDoor
open Go.RowKit Go.Shelf Sx
set_option maxRecDepth 100000

def renC : Ren := ⟨fun x => if x = 5 then 61 else if x = 7 then 83 else x, fun x => if x = 4 then 4 else if x = 20 then 20 else if x = 23 then 73 else if x = 25 then 29 else if x = 3 then 60 else x, fun x => x⟩
theorem laysC : SlLaysW.n5 Tryd.prog renC where
  mixed := by kernel_rfl
  f5 := ⟨_, by kernel_rfl, Tryd.func61⟩
  f7 := by kernel_rfl
  t4 := Tryd.underlying4
  a4 := Tryd.isAgg4
  z4 := Tryd.sizeOf4
  v4 := Tryd.zeroValue4
  t20 := Tryd.underlying20
  a20 := Tryd.isAgg20
  z20 := Tryd.sizeOf20
  v20 := Tryd.zeroValue20
  t23 := Tryd.underlying73
  a23 := Tryd.isAgg73
  z23 := Tryd.sizeOf73
  v23 := Tryd.zeroValue73

/-- A clone of a map that is there: its place. -/
theorem k_mclone (r : Nat) (es : Array MapEntry) (clock : Nat) (A F : Facts) (hF : (r, Obj.map es clock) ∈ F) :
    CallR Tryd.prog 61 [.map (some r)] A F Nat (fun c => .map (some c)) (fun c => [(c, .map es clock)]) := by
  intro w _ hw _
  have hb := hw _ hF
  rw [callRun_enters ⟨_, Tryd.func61, by kernel_rfl, rfl⟩]
  refine (AnyW.maps_Clone laysC r es clock w hb).mono ?_
  rintro e w' ⟨rfl, rfl⟩
  refine ⟨_, rfl, w.heap.size, rfl, fun z hz => ?_, fun z hz => ?_, (Go.RowKit.Below.refl _ w).alloc (Nat.le_refl _) _⟩
  · obtain rfl := List.mem_singleton.1 hz; exact World.alloc_heap_new w _
  · obtain rfl := List.mem_singleton.1 hz; exact .inl (Nat.le_refl _)
theorem k_mclone0 (A F : Facts) :
    CallR Tryd.prog 61 [.map none] A F Unit (fun _ => .map none) (fun _ => []) := by
  intro w _ _ _
  rw [callRun_enters ⟨_, Tryd.func61, by kernel_rfl, rfl⟩]
  refine (AnyW.maps_Clone_nil laysC w).mono ?_
  rintro e w' ⟨rfl, rfl⟩
  exact ⟨_, rfl, (), rfl, fun _ h => (by cases h), fun _ h => (by cases h), Go.RowKit.Below.refl _ w'⟩

/-! Two ledgers that share nothing, as one thing. -/
def two (p m : Nat) (L K : Led) : TP := fun F => ∃ F1 F2, led p L F1 ∧ led m K F2 ∧ Apart F1 F2 ∧ F = F1 ++ F2
theorem two_r1 {p m : Nat} {L K : Led} {F : Facts} (h : two p m L K F) {f : FuncId} {l : List Value} {A : Facts} {X : Type} {ret : X → Value} {M : X → Facts} (hr : ∀ F1, led p L F1 → CallR Tryd.prog f l A F1 X ret M) : CallR Tryd.prog f l A F X ret M := by
  obtain ⟨F1, F2, h1, h2, ha, rfl⟩ := h
  intro w hA hF hap
  exact hr F1 h1 w hA (fun q hq => hF q (List.mem_append_left _ hq)) (fun a ha b hb => hap a ha b (List.mem_append_left _ hb))
theorem two_r2 {p m : Nat} {L K : Led} {F : Facts} (h : two p m L K F) {f : FuncId} {l : List Value} {A : Facts} {X : Type} {ret : X → Value} {M : X → Facts} (hr : ∀ F2, led m K F2 → CallR Tryd.prog f l A F2 X ret M) : CallR Tryd.prog f l A F X ret M := by
  obtain ⟨F1, F2, h1, h2, ha, rfl⟩ := h
  intro w hA hF hap
  exact hr F2 h2 w hA (fun q hq => hF q (List.mem_append_right _ hq)) (fun a ha b hb => hap a ha b (List.mem_append_right _ hb))
end Go.Proofs.YtncmaoncciiecaaDoor

