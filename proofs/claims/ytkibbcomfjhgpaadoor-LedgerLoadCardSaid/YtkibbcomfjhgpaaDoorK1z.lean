/- The library's slices.SortFunc, and what it calls, at accounts: it stands in this translation as on the shelf. No conditions. -/
import Derived.Test.YtkibbcomfjhgpaaDoorMx
import Derived.Shelf.SlSortCmp.NoneTotal
namespace Go.Proofs.YtkibbcomfjhgpaaDoor
set_option maxRecDepth 100000
open Go.RowKit Go.Shelf

def renS : Ren := ⟨fun x => if x = 6 then 68 else if x = 14 then 77 else if x = 15 then 78 else if x = 20 then 80 else if x = 21 then 81 else if x = 22 then 82 else if x = 23 then 83 else if x = 24 then 84 else if x = 25 then 85 else if x = 26 then 86 else if x = 27 then 87 else if x = 28 then 88 else if x = 29 then 89 else if x = 46 then 90 else if x = 47 then 91 else if x = 48 then 92 else if x = 49 then 93 else if x = 50 then 94 else if x = 57 then 95 else x, fun x => if x = 0 then 0 else if x = 3 then 3 else if x = 4 then 4 else if x = 5 then 5 else if x = 9 then 9 else if x = 22 then 40 else if x = 24 then 58 else if x = 25 then 81 else if x = 39 then 83 else if x = 45 then 108 else if x = 46 then 109 else if x = 50 then 113 else if x = 53 then 116 else if x = 55 then 28 else if x = 66 then 118 else if x = 70 then 122 else if x = 76 then 124 else if x = 77 then 125 else x, fun x => x⟩
theorem laysS : SlLaysF0.n6 Tryd.prog renS where
  mixed := by kernel_rfl
  f6 := ⟨_, by kernel_rfl, Tryd.func68⟩
  f14 := ⟨_, by kernel_rfl, Tryd.func77⟩
  f15 := by kernel_rfl
  f20 := ⟨_, by kernel_rfl, Tryd.func80⟩
  f21 := ⟨_, by kernel_rfl, Tryd.func81⟩
  f22 := ⟨_, by kernel_rfl, Tryd.func82⟩
  f23 := ⟨_, by kernel_rfl, Tryd.func83⟩
  f24 := ⟨_, by kernel_rfl, Tryd.func84⟩
  f25 := ⟨_, by kernel_rfl, Tryd.func85⟩
  f26 := ⟨_, by kernel_rfl, Tryd.func86⟩
  f27 := ⟨_, by kernel_rfl, Tryd.func87⟩
  f28 := by kernel_rfl
  f29 := by kernel_rfl
  f46 := ⟨_, by kernel_rfl, Tryd.func90⟩
  f47 := by kernel_rfl
  f48 := by kernel_rfl
  f49 := ⟨_, by kernel_rfl, Tryd.func93⟩
  f50 := ⟨_, by kernel_rfl, Tryd.func94⟩
  f57 := ⟨_, by kernel_rfl, Tryd.func95⟩
  t0 := Tryd.underlying0
  a0 := Tryd.isAgg0
  z0 := Tryd.sizeOf0
  v0 := Tryd.zeroValue0
  t3 := Tryd.underlying3
  a3 := Tryd.isAgg3
  z3 := Tryd.sizeOf3
  v3 := Tryd.zeroValue3
  t4 := Tryd.underlying4
  a4 := Tryd.isAgg4
  z4 := Tryd.sizeOf4
  v4 := Tryd.zeroValue4
  t5 := Tryd.underlying5
  a5 := Tryd.isAgg5
  z5 := Tryd.sizeOf5
  v5 := Tryd.zeroValue5
  t9 := Tryd.underlying9
  a9 := Tryd.isAgg9
  z9 := Tryd.sizeOf9
  v9 := Tryd.zeroValue9
  t22 := Tryd.underlying40
  a22 := Tryd.isAgg40
  z22 := Tryd.sizeOf40
  v22 := Tryd.zeroValue40
  t25 := Tryd.underlying81
  a25 := Tryd.isAgg81
  z25 := Tryd.sizeOf81
  v25 := Tryd.zeroValue81
  t39 := Tryd.underlying83
  a39 := Tryd.isAgg83
  z39 := Tryd.sizeOf83
  v39 := Tryd.zeroValue83
  t45 := Tryd.underlying108
  a45 := Tryd.isAgg108
  z45 := Tryd.sizeOf108
  v45 := Tryd.zeroValue108
  t46 := Tryd.underlying109
  a46 := Tryd.isAgg109
  z46 := Tryd.sizeOf109
  v46 := Tryd.zeroValue109
  t50 := Tryd.underlying113
  a50 := Tryd.isAgg113
  z50 := Tryd.sizeOf113
  v50 := Tryd.zeroValue113
  t53 := Tryd.underlying116
  a53 := Tryd.isAgg116
  z53 := Tryd.sizeOf116
  v53 := Tryd.zeroValue116
  t55 := Tryd.underlying28
  a55 := Tryd.isAgg28
  z55 := Tryd.sizeOf28
  v55 := Tryd.zeroValue28
  t66 := Tryd.underlying118
  a66 := Tryd.isAgg118
  z66 := Tryd.sizeOf118
  v66 := Tryd.zeroValue118
  t70 := Tryd.underlying122
  a70 := Tryd.isAgg122
  z70 := Tryd.sizeOf122
  v70 := Tryd.zeroValue122
  t76 := Tryd.underlying124
  a76 := Tryd.isAgg124
  z76 := Tryd.sizeOf124
  v76 := Tryd.zeroValue124
  t77 := Tryd.underlying125
  a77 := Tryd.isAgg125
  z77 := Tryd.sizeOf125
  v77 := Tryd.zeroValue125
end Go.Proofs.YtkibbcomfjhgpaaDoor

