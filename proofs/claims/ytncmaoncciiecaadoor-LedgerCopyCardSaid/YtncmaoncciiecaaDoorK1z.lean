/- The library's slices.SortFunc, and what it calls, at accounts: it stands in this translation as on the shelf. No conditions. -/
import Derived.Test.YtncmaoncciiecaaDoorMx
import Derived.Shelf.SlSortCmp.NoneTotal
namespace Go.Proofs.YtncmaoncciiecaaDoor
set_option maxRecDepth 100000
open Go.RowKit Go.Shelf

def renS : Ren := ⟨fun x => if x = 6 then 75 else if x = 14 then 88 else if x = 15 then 89 else if x = 20 then 91 else if x = 21 then 92 else if x = 22 then 93 else if x = 23 then 94 else if x = 24 then 95 else if x = 25 then 96 else if x = 26 then 97 else if x = 27 then 98 else if x = 28 then 99 else if x = 29 then 100 else if x = 46 then 101 else if x = 47 then 102 else if x = 48 then 103 else if x = 49 then 104 else if x = 50 then 105 else if x = 57 then 106 else x, fun x => if x = 0 then 0 else if x = 3 then 3 else if x = 4 then 4 else if x = 5 then 5 else if x = 9 then 9 else if x = 22 then 40 else if x = 24 then 60 else if x = 25 then 81 else if x = 39 then 90 else if x = 45 then 116 else if x = 46 then 117 else if x = 50 then 121 else if x = 53 then 124 else if x = 55 then 28 else if x = 66 then 126 else if x = 70 then 130 else if x = 76 then 132 else if x = 77 then 133 else x, fun x => x⟩
theorem laysS : SlLaysF0.n6 Tryd.prog renS where
  mixed := by kernel_rfl
  f6 := ⟨_, by kernel_rfl, Tryd.func75⟩
  f14 := ⟨_, by kernel_rfl, Tryd.func88⟩
  f15 := by kernel_rfl
  f20 := ⟨_, by kernel_rfl, Tryd.func91⟩
  f21 := ⟨_, by kernel_rfl, Tryd.func92⟩
  f22 := ⟨_, by kernel_rfl, Tryd.func93⟩
  f23 := ⟨_, by kernel_rfl, Tryd.func94⟩
  f24 := ⟨_, by kernel_rfl, Tryd.func95⟩
  f25 := ⟨_, by kernel_rfl, Tryd.func96⟩
  f26 := ⟨_, by kernel_rfl, Tryd.func97⟩
  f27 := ⟨_, by kernel_rfl, Tryd.func98⟩
  f28 := by kernel_rfl
  f29 := by kernel_rfl
  f46 := ⟨_, by kernel_rfl, Tryd.func101⟩
  f47 := by kernel_rfl
  f48 := by kernel_rfl
  f49 := ⟨_, by kernel_rfl, Tryd.func104⟩
  f50 := ⟨_, by kernel_rfl, Tryd.func105⟩
  f57 := ⟨_, by kernel_rfl, Tryd.func106⟩
  t0 := Tryd.underlying0
  a0 := Tryd.isAgg0
  z0 := Tryd.sizeOf0
  v0 := Tryd.zeroValue0
  t3 := Tryd.underlying3
  a3 := Tryd.isAgg3
  z3 := Tryd.sizeOf3
  v3 := Tryd.zeroValue3
  t4 := Tryd.underlying4
  a4 := Tryd.isAgg4
  z4 := Tryd.sizeOf4
  v4 := Tryd.zeroValue4
  t5 := Tryd.underlying5
  a5 := Tryd.isAgg5
  z5 := Tryd.sizeOf5
  v5 := Tryd.zeroValue5
  t9 := Tryd.underlying9
  a9 := Tryd.isAgg9
  z9 := Tryd.sizeOf9
  v9 := Tryd.zeroValue9
  t22 := Tryd.underlying40
  a22 := Tryd.isAgg40
  z22 := Tryd.sizeOf40
  v22 := Tryd.zeroValue40
  t25 := Tryd.underlying81
  a25 := Tryd.isAgg81
  z25 := Tryd.sizeOf81
  v25 := Tryd.zeroValue81
  t39 := Tryd.underlying90
  a39 := Tryd.isAgg90
  z39 := Tryd.sizeOf90
  v39 := Tryd.zeroValue90
  t45 := Tryd.underlying116
  a45 := Tryd.isAgg116
  z45 := Tryd.sizeOf116
  v45 := Tryd.zeroValue116
  t46 := Tryd.underlying117
  a46 := Tryd.isAgg117
  z46 := Tryd.sizeOf117
  v46 := Tryd.zeroValue117
  t50 := Tryd.underlying121
  a50 := Tryd.isAgg121
  z50 := Tryd.sizeOf121
  v50 := Tryd.zeroValue121
  t53 := Tryd.underlying124
  a53 := Tryd.isAgg124
  z53 := Tryd.sizeOf124
  v53 := Tryd.zeroValue124
  t55 := Tryd.underlying28
  a55 := Tryd.isAgg28
  z55 := Tryd.sizeOf28
  v55 := Tryd.zeroValue28
  t66 := Tryd.underlying126
  a66 := Tryd.isAgg126
  z66 := Tryd.sizeOf126
  v66 := Tryd.zeroValue126
  t70 := Tryd.underlying130
  a70 := Tryd.isAgg130
  z70 := Tryd.sizeOf130
  v70 := Tryd.zeroValue130
  t76 := Tryd.underlying132
  a76 := Tryd.isAgg132
  z76 := Tryd.sizeOf132
  v76 := Tryd.zeroValue132
  t77 := Tryd.underlying133
  a77 := Tryd.isAgg133
  z77 := Tryd.sizeOf133
  v77 := Tryd.zeroValue133
end Go.Proofs.YtncmaoncciiecaaDoor

