/- The reference ledger: New. No conditions. -/
import Derived.Test.YtkibbcomfjhgpaaDoorK1d2
namespace Go.Proofs.YtkibbcomfjhgpaaDoor
open Go.RowKit Sx
set_option maxRecDepth 100000

theorem good_pontageref11_New : Good Tryd.prog 7 Tryd.f7 0 := ⟨Tryd.func7, by kernel_rfl, by kernel_rfl⟩
theorem r_new (A : Facts) : CallT Tryd.prog 7 [] A (fun G => G = []) (Nat) (fun m => .pointer (some ⟨m, 0, none⟩)) (fun _ => []) (fun m => rlg m ref0) :=
  givesT_of_vcF Tryd.mixed good_pontageref11_New (args := []) (B := A) (O := [.pubt 1000000 2 0 (fun _ => [])]) (.app ((.refl _)) (.nil _)) (fun p => ⟨p, rfl, nofun, fun _ g => ⟨.inl (⟨rfl⟩, none), trivial, nofun, g⟩, trivial⟩)
end Go.Proofs.YtkibbcomfjhgpaaDoor

