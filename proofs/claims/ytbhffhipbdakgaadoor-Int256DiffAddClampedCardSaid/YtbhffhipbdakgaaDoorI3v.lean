/- Walks of int256.DivFloor over this translation, one for each way. No conditions besides. -/
import Derived.Test.YtbhffhipbdakgaaDoorI3d
import Derived.Test.YtbhffhipbdakgaaDoorSxl
namespace Go.Proofs.YtbhffhipbdakgaaDoor
open Go.RowKit Sx
set_option maxRecDepth 100000

theorem idiv_no (s : Bool) (n d : Nat) (hv : Det Tryd.prog 25 [Ic s n] (.bool false)) : Det Tryd.prog 19 [Ic s n, U d] (.tuple #[.agg #[.bool false, .int .u64 0, .int .u64 0, .int .u64 0, .int .u64 0], .int .i64 2]) :=
  det_of_vc Tryd.mixed good_int256_DivFloor (O := [.reg [(1, det (.bool false))], .yes]) fun _ => ⟨hv _, fun _ => ⟨rfl, ⟨(), rfl, nofun⟩⟩⟩
theorem idiv_code (s : Bool) (n d q r : Nat) (c : Int) (hc : (c != 0) = true) (hv : Det Tryd.prog 25 [Ic s n] (.bool true)) (h : Det Tryd.prog 43 [U n, U d] (.tuple #[U q, U r, .int .i64 c])) : Det Tryd.prog 19 [Ic s n, U d] (.tuple #[.agg #[.bool false, .int .u64 0, .int .u64 0, .int .u64 0, .int .u64 0], .int .i64 c]) :=
  det_of_vc Tryd.mixed good_int256_DivFloor (O := [.reg [(1, det (.bool true))], .no, .reg [(3, det (.tuple #[U q, U r, .int .i64 c]))], .yes]) fun _ => ⟨hv _, fun _ => ⟨rfl, ⟨h _, fun _ => ⟨hc, ⟨(), rfl, nofun⟩⟩⟩⟩⟩
theorem idiv_f (n d q r k : Nat) (p : Bool) (hv : Det Tryd.prog 25 [Ic false n] (.bool true)) (h : Det Tryd.prog 43 [U n, U d] (.tuple #[U q, U r, .int .i64 0])) (hn : Det Tryd.prog 15 [.bool false, U q] (Ic p k)) : Det Tryd.prog 19 [Ic false n, U d] (.tuple #[Ic p k, .int .i64 0]) :=
  det_of_vc Tryd.mixed good_int256_DivFloor (O := [.reg [(1, det (.bool true))], .no, .reg [(3, det (.tuple #[U q, U r, .int .i64 0]))], .no, .reg [], .no, .reg [(3, det (Ic p k))]]) fun _ => ⟨hv _, fun _ => ⟨rfl, ⟨h _, fun _ => ⟨rfl, ⟨rfl, ⟨hn _, fun _ => ⟨(), rfl, nofun⟩⟩⟩⟩⟩⟩⟩
theorem idiv_z (n d q r k : Nat) (p : Bool) (hz : (!isz r) = false) (hv : Det Tryd.prog 25 [Ic true n] (.bool true)) (h : Det Tryd.prog 43 [U n, U d] (.tuple #[U q, U r, .int .i64 0])) (hn : Det Tryd.prog 15 [.bool true, U q] (Ic p k)) : Det Tryd.prog 19 [Ic true n, U d] (.tuple #[Ic p k, .int .i64 0]) :=
  det_of_vc Tryd.mixed good_int256_DivFloor (O := [.reg [(1, det (.bool true))], .no, .reg [(3, det (.tuple #[U q, U r, .int .i64 0]))], .no, .reg [], .no, .reg [(3, det (Ic p k))]]) fun _ => ⟨hv _, fun _ => ⟨rfl, ⟨h _, fun _ => ⟨rfl, ⟨eqT_api_Uint256 rfl rfl, ⟨hz, ⟨hn _, fun _ => ⟨(), rfl, nofun⟩⟩⟩⟩⟩⟩⟩⟩
theorem idiv_t (n d q r g k e : Nat) (p : Bool) (hz : (!isz r) = true) (hv : Det Tryd.prog 25 [Ic true n] (.bool true)) (h : Det Tryd.prog 43 [U n, U d] (.tuple #[U q, U r, .int .i64 0])) (h1 : Det Tryd.prog 45 [.int .u64 1] (U e)) (h2 : DetL 44 [U q, U e] (U g)) (hn : Det Tryd.prog 15 [.bool true, U g] (Ic p k)) : DetL 19 [Ic true n, U d] (.tuple #[Ic p k, .int .i64 0]) := fun A hA =>
  gives_of_vcF Tryd.mixed good_int256_DivFloor (args := bare [Ic true n, U d]) (B := A) (O := [.reg [(1, det (.bool true))], .no, .reg [(3, det (.tuple #[U q, U r, .int .i64 0]))], .no, .reg [], .yes, .reg [(1, det (U e)), (2, det (U g))], .reg [(3, det (Ic p k))]]) (.app (.refl _) (.none (bare_facts _))) (⟨hv _, fun _ => ⟨rfl, ⟨h _, fun _ => ⟨rfl, ⟨eqT_api_Uint256 rfl rfl, ⟨hz, ⟨h1 _, fun _ => ⟨h2 _ (hA.app _), fun _ => ⟨hn _, fun _ => ⟨(), rfl, nofun⟩⟩⟩⟩⟩⟩⟩⟩⟩⟩)
end Go.Proofs.YtbhffhipbdakgaaDoor

