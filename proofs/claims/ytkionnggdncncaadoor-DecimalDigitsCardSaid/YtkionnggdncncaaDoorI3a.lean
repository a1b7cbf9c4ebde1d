/- Walks of package int256's functions over this translation, one for each way, from the contracts of what they call. No conditions besides. -/
import Derived.Test.YtkionnggdncncaaDoorMx
namespace Go.Proofs.YtkionnggdncncaaDoor
open Go.RowKit Sx
set_option maxRecDepth 100000

theorem good_int256_Valid : Good Tryd.prog 26 Tryd.f26 1 := ⟨Tryd.func26, by kernel_rfl, by kernel_rfl⟩
theorem good_int256_New : Good Tryd.prog 36 Tryd.f36 2 := ⟨Tryd.func36, by kernel_rfl, by kernel_rfl⟩
theorem valid_f (n : Nat) : Det Tryd.prog 26 [Ic false n] (.bool true) :=
  det_of_vc Tryd.mixed good_int256_Valid (O := [.reg []]) fun _ => ⟨(), rfl, nofun⟩
theorem valid_t (n : Nat) : Det Tryd.prog 26 [Ic true n] (.bool (!isz n)) :=
  det_of_vc Tryd.mixed good_int256_Valid (O := [.reg []]) fun _ => ⟨eqT_api_Uint256 rfl rfl, ⟨(), rfl, nofun⟩⟩
theorem new_f (n : Nat) : Det Tryd.prog 36 [.bool false, U n] (Ic false n) :=
  det_of_vc Tryd.mixed good_int256_New (O := [.reg []]) fun _ => ⟨(), rfl, nofun⟩
theorem new_t (n : Nat) : Det Tryd.prog 36 [.bool true, U n] (Ic (!isz n) n) :=
  det_of_vc Tryd.mixed good_int256_New (O := [.reg []]) fun _ => ⟨eqT_api_Uint256 rfl rfl, ⟨(), rfl, nofun⟩⟩
end Go.Proofs.YtkionnggdncncaaDoor

