/- Walks of package int256's functions over this translation, one for each way, from the contracts of what they call. No conditions besides. -/
import Derived.Test.YtbhffhipbdakgaaDoorSxt
namespace Go.Proofs.YtbhffhipbdakgaaDoor
open Go.RowKit Sx
set_option maxRecDepth 100000

theorem good_int256_Valid : Good Tryd.prog 25 Tryd.f25 1 := ⟨Tryd.func25, by kernel_rfl, by kernel_rfl⟩
theorem good_int256_New : Good Tryd.prog 15 Tryd.f15 2 := ⟨Tryd.func15, by kernel_rfl, by kernel_rfl⟩
theorem good_int256_Neg : Good Tryd.prog 23 Tryd.f23 1 := ⟨Tryd.func23, by kernel_rfl, by kernel_rfl⟩
theorem good_int256_Cmp : Good Tryd.prog 26 Tryd.f26 2 := ⟨Tryd.func26, by kernel_rfl, by kernel_rfl⟩
theorem good_int256_Add : Good Tryd.prog 10 Tryd.f10 2 := ⟨Tryd.func10, by kernel_rfl, by kernel_rfl⟩
theorem good_int256_Sub : Good Tryd.prog 12 Tryd.f12 2 := ⟨Tryd.func12, by kernel_rfl, by kernel_rfl⟩
theorem good_int256_Mul : Good Tryd.prog 13 Tryd.f13 2 := ⟨Tryd.func13, by kernel_rfl, by kernel_rfl⟩
theorem good_int256_DivFloor : Good Tryd.prog 19 Tryd.f19 2 := ⟨Tryd.func19, by kernel_rfl, by kernel_rfl⟩
theorem good_int256_Diff : Good Tryd.prog 21 Tryd.f21 2 := ⟨Tryd.func21, by kernel_rfl, by kernel_rfl⟩
theorem good_int256_AddClamped : Good Tryd.prog 17 Tryd.f17 2 := ⟨Tryd.func17, by kernel_rfl, by kernel_rfl⟩
theorem good_int256_FromInt64 : Good Tryd.prog 28 Tryd.f28 1 := ⟨Tryd.func28, by kernel_rfl, by kernel_rfl⟩
theorem good_int256_bothValid : Good Tryd.prog 30 Tryd.f30 2 := ⟨Tryd.func30, by kernel_rfl, by kernel_rfl⟩
theorem valid_f (n : Nat) : Det Tryd.prog 25 [Ic false n] (.bool true) :=
  det_of_vc Tryd.mixed good_int256_Valid (O := [.reg []]) fun _ => ⟨(), rfl, nofun⟩
theorem valid_t (n : Nat) : Det Tryd.prog 25 [Ic true n] (.bool (!isz n)) :=
  det_of_vc Tryd.mixed good_int256_Valid (O := [.reg []]) fun _ => ⟨eqT_api_Uint256 rfl rfl, ⟨(), rfl, nofun⟩⟩
theorem new_f (n : Nat) : Det Tryd.prog 15 [.bool false, U n] (Ic false n) :=
  det_of_vc Tryd.mixed good_int256_New (O := [.reg []]) fun _ => ⟨(), rfl, nofun⟩
theorem new_t (n : Nat) : Det Tryd.prog 15 [.bool true, U n] (Ic (!isz n) n) :=
  det_of_vc Tryd.mixed good_int256_New (O := [.reg []]) fun _ => ⟨eqT_api_Uint256 rfl rfl, ⟨(), rfl, nofun⟩⟩
theorem both_no (s t : Bool) (n m : Nat) (hv : Det Tryd.prog 25 [Ic s n] (.bool false)) : Det Tryd.prog 30 [Ic s n, Ic t m] (.bool false) :=
  det_of_vc Tryd.mixed good_int256_bothValid (O := [.reg [(1, det (.bool false))]]) fun _ => ⟨hv _, fun _ => ⟨(), rfl, nofun⟩⟩
theorem both_yes (s t b : Bool) (n m : Nat) (hv : Det Tryd.prog 25 [Ic s n] (.bool true)) (hw : Det Tryd.prog 25 [Ic t m] (.bool b)) : Det Tryd.prog 30 [Ic s n, Ic t m] (.bool b) :=
  det_of_vc Tryd.mixed good_int256_bothValid (O := [.reg [(1, det (.bool true)), (4, det (.bool b))]]) fun _ => ⟨hv _, fun _ => ⟨⟨rfl, hw _⟩, fun _ => ⟨(), rfl, nofun⟩⟩⟩
theorem neg_no (s : Bool) (n : Nat) (hv : Det Tryd.prog 25 [Ic s n] (.bool false)) : Det Tryd.prog 23 [Ic s n] (.tuple #[.agg #[.bool false, .int .u64 0, .int .u64 0, .int .u64 0, .int .u64 0], .int .i64 2]) :=
  det_of_vc Tryd.mixed good_int256_Neg (O := [.reg [(1, det (.bool false))], .yes]) fun _ => ⟨hv _, fun _ => ⟨rfl, ⟨(), rfl, nofun⟩⟩⟩
theorem neg_f (n m : Nat) (p : Bool) (hv : Det Tryd.prog 25 [Ic false n] (.bool true)) (hn : Det Tryd.prog 15 [.bool true, U n] (Ic p m)) : Det Tryd.prog 23 [Ic false n] (.tuple #[Ic p m, .int .i64 0]) :=
  det_of_vc Tryd.mixed good_int256_Neg (O := [.reg [(1, det (.bool true))], .no, .reg [(5, det (Ic p m))]]) fun _ => ⟨hv _, fun _ => ⟨rfl, ⟨hn _, fun _ => ⟨(), rfl, nofun⟩⟩⟩⟩
theorem neg_t (n m : Nat) (p : Bool) (hv : Det Tryd.prog 25 [Ic true n] (.bool true)) (hn : Det Tryd.prog 15 [.bool false, U n] (Ic p m)) : Det Tryd.prog 23 [Ic true n] (.tuple #[Ic p m, .int .i64 0]) :=
  det_of_vc Tryd.mixed good_int256_Neg (O := [.reg [(1, det (.bool true))], .no, .reg [(5, det (Ic p m))]]) fun _ => ⟨hv _, fun _ => ⟨rfl, ⟨hn _, fun _ => ⟨(), rfl, nofun⟩⟩⟩⟩
theorem icmp_no (s t : Bool) (n m : Nat) (hb : Det Tryd.prog 30 [Ic s n, Ic t m] (.bool false)) : Det Tryd.prog 26 [Ic s n, Ic t m] (.int .i64 0) :=
  det_of_vc Tryd.mixed good_int256_Cmp (O := [.reg [(2, det (.bool false))], .yes]) fun _ => ⟨hb _, fun _ => ⟨rfl, ⟨(), rfl, nofun⟩⟩⟩
theorem icmp_tt (n m : Nat) (c : Int) (hb : Det Tryd.prog 30 [Ic true n, Ic true m] (.bool true)) (h : Det Tryd.prog 48 [U m, U n] (.int .i64 c)) : Det Tryd.prog 26 [Ic true n, Ic true m] (.int .i64 c) :=
  det_of_vc Tryd.mixed good_int256_Cmp (O := [.reg [(2, det (.bool true))], .no, .reg [], .yes, .reg [(4, det (.int .i64 c))]]) fun _ => ⟨hb _, fun _ => ⟨rfl, ⟨rfl, ⟨h _, fun _ => ⟨(), rfl, nofun⟩⟩⟩⟩⟩
theorem icmp_tf (n m : Nat) (hb : Det Tryd.prog 30 [Ic true n, Ic false m] (.bool true)) : Det Tryd.prog 26 [Ic true n, Ic false m] (.int .i64 (-1)) :=
  det_of_vc Tryd.mixed good_int256_Cmp (O := [.reg [(2, det (.bool true))], .no, .reg [], .no, .yes]) fun _ => ⟨hb _, fun _ => ⟨rfl, ⟨rfl, ⟨rfl, ⟨(), rfl, nofun⟩⟩⟩⟩⟩
theorem icmp_ft (n m : Nat) (hb : Det Tryd.prog 30 [Ic false n, Ic true m] (.bool true)) : Det Tryd.prog 26 [Ic false n, Ic true m] (.int .i64 1) :=
  det_of_vc Tryd.mixed good_int256_Cmp (O := [.reg [(2, det (.bool true))], .no, .reg [], .no, .no, .yes]) fun _ => ⟨hb _, fun _ => ⟨rfl, ⟨rfl, ⟨rfl, ⟨rfl, ⟨(), rfl, nofun⟩⟩⟩⟩⟩⟩
theorem icmp_ff (n m : Nat) (c : Int) (hb : Det Tryd.prog 30 [Ic false n, Ic false m] (.bool true)) (h : Det Tryd.prog 48 [U n, U m] (.int .i64 c)) : Det Tryd.prog 26 [Ic false n, Ic false m] (.int .i64 c) :=
  det_of_vc Tryd.mixed good_int256_Cmp (O := [.reg [(2, det (.bool true))], .no, .reg [], .no, .no, .no, .reg [(4, det (.int .i64 c))]]) fun _ => ⟨hb _, fun _ => ⟨rfl, ⟨rfl, ⟨rfl, ⟨rfl, ⟨h _, fun _ => ⟨(), rfl, nofun⟩⟩⟩⟩⟩⟩⟩
theorem iadd_no (s t : Bool) (n m : Nat) (hb : Det Tryd.prog 30 [Ic s n, Ic t m] (.bool false)) : Det Tryd.prog 10 [Ic s n, Ic t m] (.tuple #[.agg #[.bool false, .int .u64 0, .int .u64 0, .int .u64 0, .int .u64 0], .int .i64 2]) :=
  det_of_vc Tryd.mixed good_int256_Add (O := [.reg [(2, det (.bool false))], .yes]) fun _ => ⟨hb _, fun _ => ⟨rfl, ⟨(), rfl, nofun⟩⟩⟩
theorem iadd_ff (n m r k : Nat) (c : Int) (p : Bool) (hb : Det Tryd.prog 30 [Ic false n, Ic false m] (.bool true)) (h : Det Tryd.prog 31 [U n, U m] (.tuple #[U r, .int .i64 c])) (hn : Det Tryd.prog 15 [.bool false, U r] (Ic p k)) : Det Tryd.prog 10 [Ic false n, Ic false m] (.tuple #[Ic p k, .int .i64 c]) :=
  det_of_vc Tryd.mixed good_int256_Add (O := [.reg [(2, det (.bool true))], .no, .yes, .reg [(4, det (.tuple #[U r, .int .i64 c]))], .reg [(3, det (Ic p k))]]) fun _ => ⟨hb _, fun _ => ⟨rfl, ⟨rfl, ⟨h _, fun _ => ⟨hn _, fun _ => ⟨(), rfl, nofun⟩⟩⟩⟩⟩⟩
theorem iadd_tt (n m r k : Nat) (c : Int) (p : Bool) (hb : Det Tryd.prog 30 [Ic true n, Ic true m] (.bool true)) (h : Det Tryd.prog 31 [U n, U m] (.tuple #[U r, .int .i64 c])) (hn : Det Tryd.prog 15 [.bool true, U r] (Ic p k)) : Det Tryd.prog 10 [Ic true n, Ic true m] (.tuple #[Ic p k, .int .i64 c]) :=
  det_of_vc Tryd.mixed good_int256_Add (O := [.reg [(2, det (.bool true))], .no, .yes, .reg [(4, det (.tuple #[U r, .int .i64 c]))], .reg [(3, det (Ic p k))]]) fun _ => ⟨hb _, fun _ => ⟨rfl, ⟨rfl, ⟨h _, fun _ => ⟨hn _, fun _ => ⟨(), rfl, nofun⟩⟩⟩⟩⟩⟩
theorem iadd_tf (n m k : Nat) (p : Bool) (hb : Det Tryd.prog 30 [Ic true n, Ic false m] (.bool true)) (h : Det Tryd.prog 21 [U m, U n] (Ic p k)) : Det Tryd.prog 10 [Ic true n, Ic false m] (.tuple #[Ic p k, .int .i64 0]) :=
  det_of_vc Tryd.mixed good_int256_Add (O := [.reg [(2, det (.bool true))], .no, .no, .yes, .reg [(4, det (Ic p k))]]) fun _ => ⟨hb _, fun _ => ⟨rfl, ⟨rfl, ⟨rfl, ⟨h _, fun _ => ⟨(), rfl, nofun⟩⟩⟩⟩⟩⟩
theorem iadd_ft (n m k : Nat) (p : Bool) (hb : Det Tryd.prog 30 [Ic false n, Ic true m] (.bool true)) (h : Det Tryd.prog 21 [U n, U m] (Ic p k)) : Det Tryd.prog 10 [Ic false n, Ic true m] (.tuple #[Ic p k, .int .i64 0]) :=
  det_of_vc Tryd.mixed good_int256_Add (O := [.reg [(2, det (.bool true))], .no, .no, .no, .reg [(4, det (Ic p k))]]) fun _ => ⟨hb _, fun _ => ⟨rfl, ⟨rfl, ⟨rfl, ⟨h _, fun _ => ⟨(), rfl, nofun⟩⟩⟩⟩⟩⟩
theorem isub_no (s t q : Bool) (n m k : Nat) (c : Int) (hc : (c != 0) = true) (h : Det Tryd.prog 23 [Ic t m] (.tuple #[Ic q k, .int .i64 c])) : Det Tryd.prog 12 [Ic s n, Ic t m] (.tuple #[.agg #[.bool false, .int .u64 0, .int .u64 0, .int .u64 0, .int .u64 0], .int .i64 c]) :=
  det_of_vc Tryd.mixed good_int256_Sub (O := [.reg [(1, det (.tuple #[Ic q k, .int .i64 c]))], .yes]) fun _ => ⟨h _, fun _ => ⟨hc, ⟨(), rfl, nofun⟩⟩⟩
theorem isub_yes (s t q r : Bool) (n m k l : Nat) (c : Int) (h : Det Tryd.prog 23 [Ic t m] (.tuple #[Ic q k, .int .i64 0])) (ha : Det Tryd.prog 10 [Ic s n, Ic q k] (.tuple #[Ic r l, .int .i64 c])) : Det Tryd.prog 12 [Ic s n, Ic t m] (.tuple #[Ic r l, .int .i64 c]) :=
  det_of_vc Tryd.mixed good_int256_Sub (O := [.reg [(1, det (.tuple #[Ic q k, .int .i64 0]))], .no, .reg [(2, det (.tuple #[Ic r l, .int .i64 c]))]]) fun _ => ⟨h _, fun _ => ⟨rfl, ⟨ha _, fun _ => ⟨(), rfl, nofun⟩⟩⟩⟩
theorem imul_no (s t : Bool) (n m : Nat) (hb : Det Tryd.prog 30 [Ic s n, Ic t m] (.bool false)) : Det Tryd.prog 13 [Ic s n, Ic t m] (.tuple #[.agg #[.bool false, .int .u64 0, .int .u64 0, .int .u64 0, .int .u64 0], .int .i64 2]) :=
  det_of_vc Tryd.mixed good_int256_Mul (O := [.reg [(2, det (.bool false))], .yes]) fun _ => ⟨hb _, fun _ => ⟨rfl, ⟨(), rfl, nofun⟩⟩⟩
theorem imul_ff (n m r k : Nat) (c : Int) (p : Bool) (hb : Det Tryd.prog 30 [Ic false n, Ic false m] (.bool true)) (h : Det Tryd.prog 37 [U n, U m] (.tuple #[U r, .int .i64 c])) (hn : Det Tryd.prog 15 [.bool false, U r] (Ic p k)) : Det Tryd.prog 13 [Ic false n, Ic false m] (.tuple #[Ic p k, .int .i64 c]) :=
  det_of_vc Tryd.mixed good_int256_Mul (O := [.reg [(2, det (.bool true))], .no, .reg [(4, det (.tuple #[U r, .int .i64 c]))], .reg [(6, det (Ic p k))]]) fun _ => ⟨hb _, fun _ => ⟨rfl, ⟨h _, fun _ => ⟨hn _, fun _ => ⟨(), rfl, nofun⟩⟩⟩⟩⟩
theorem imul_ft (n m r k : Nat) (c : Int) (p : Bool) (hb : Det Tryd.prog 30 [Ic false n, Ic true m] (.bool true)) (h : Det Tryd.prog 37 [U n, U m] (.tuple #[U r, .int .i64 c])) (hn : Det Tryd.prog 15 [.bool true, U r] (Ic p k)) : Det Tryd.prog 13 [Ic false n, Ic true m] (.tuple #[Ic p k, .int .i64 c]) :=
  det_of_vc Tryd.mixed good_int256_Mul (O := [.reg [(2, det (.bool true))], .no, .reg [(4, det (.tuple #[U r, .int .i64 c]))], .reg [(6, det (Ic p k))]]) fun _ => ⟨hb _, fun _ => ⟨rfl, ⟨h _, fun _ => ⟨hn _, fun _ => ⟨(), rfl, nofun⟩⟩⟩⟩⟩
theorem imul_tf (n m r k : Nat) (c : Int) (p : Bool) (hb : Det Tryd.prog 30 [Ic true n, Ic false m] (.bool true)) (h : Det Tryd.prog 37 [U n, U m] (.tuple #[U r, .int .i64 c])) (hn : Det Tryd.prog 15 [.bool true, U r] (Ic p k)) : Det Tryd.prog 13 [Ic true n, Ic false m] (.tuple #[Ic p k, .int .i64 c]) :=
  det_of_vc Tryd.mixed good_int256_Mul (O := [.reg [(2, det (.bool true))], .no, .reg [(4, det (.tuple #[U r, .int .i64 c]))], .reg [(6, det (Ic p k))]]) fun _ => ⟨hb _, fun _ => ⟨rfl, ⟨h _, fun _ => ⟨hn _, fun _ => ⟨(), rfl, nofun⟩⟩⟩⟩⟩
theorem imul_tt (n m r k : Nat) (c : Int) (p : Bool) (hb : Det Tryd.prog 30 [Ic true n, Ic true m] (.bool true)) (h : Det Tryd.prog 37 [U n, U m] (.tuple #[U r, .int .i64 c])) (hn : Det Tryd.prog 15 [.bool false, U r] (Ic p k)) : Det Tryd.prog 13 [Ic true n, Ic true m] (.tuple #[Ic p k, .int .i64 c]) :=
  det_of_vc Tryd.mixed good_int256_Mul (O := [.reg [(2, det (.bool true))], .no, .reg [(4, det (.tuple #[U r, .int .i64 c]))], .reg [(6, det (Ic p k))]]) fun _ => ⟨hb _, fun _ => ⟨rfl, ⟨h _, fun _ => ⟨hn _, fun _ => ⟨(), rfl, nofun⟩⟩⟩⟩⟩
theorem diff_lt (a b r k : Nat) (c : Int) (p : Bool) (hc : decide (c < 0) = true) (h : Det Tryd.prog 48 [U a, U b] (.int .i64 c)) (hs : Det Tryd.prog 39 [U b, U a] (U r)) (hn : Det Tryd.prog 15 [.bool true, U r] (Ic p k)) : Det Tryd.prog 21 [U a, U b] (Ic p k) :=
  det_of_vc Tryd.mixed good_int256_Diff (O := [.reg [(2, det (.int .i64 c))], .yes, .reg [(2, det (U r)), (3, det (Ic p k))]]) fun _ => ⟨h _, fun _ => ⟨hc, ⟨hs _, fun _ => ⟨hn _, fun _ => ⟨(), rfl, nofun⟩⟩⟩⟩⟩
theorem diff_ge (a b r k : Nat) (c : Int) (p : Bool) (hc : decide (c < 0) = false) (h : Det Tryd.prog 48 [U a, U b] (.int .i64 c)) (hs : Det Tryd.prog 39 [U a, U b] (U r)) (hn : Det Tryd.prog 15 [.bool false, U r] (Ic p k)) : Det Tryd.prog 21 [U a, U b] (Ic p k) :=
  det_of_vc Tryd.mixed good_int256_Diff (O := [.reg [(2, det (.int .i64 c))], .no, .reg [(2, det (U r)), (3, det (Ic p k))]]) fun _ => ⟨h _, fun _ => ⟨hc, ⟨hs _, fun _ => ⟨hn _, fun _ => ⟨(), rfl, nofun⟩⟩⟩⟩⟩
theorem clamp_no (a : Nat) (s : Bool) (n : Nat) (hv : Det Tryd.prog 25 [Ic s n] (.bool false)) : Det Tryd.prog 17 [U a, Ic s n] (.tuple #[.agg #[.int .u64 0, .int .u64 0, .int .u64 0, .int .u64 0], .int .i64 2]) :=
  det_of_vc Tryd.mixed good_int256_AddClamped (O := [.reg [(1, det (.bool false))], .yes]) fun _ => ⟨hv _, fun _ => ⟨rfl, ⟨(), rfl, nofun⟩⟩⟩
theorem clamp_t (a n r : Nat) (hv : Det Tryd.prog 25 [Ic true n] (.bool true)) (h : Det Tryd.prog 39 [U a, U n] (U r)) : Det Tryd.prog 17 [U a, Ic true n] (.tuple #[U r, .int .i64 0]) :=
  det_of_vc Tryd.mixed good_int256_AddClamped (O := [.reg [(1, det (.bool true))], .no, .yes, .reg [(3, det (U r))]]) fun _ => ⟨hv _, fun _ => ⟨rfl, ⟨rfl, ⟨h _, fun _ => ⟨(), rfl, nofun⟩⟩⟩⟩⟩
theorem clamp_f (a n r : Nat) (c : Int) (hv : Det Tryd.prog 25 [Ic false n] (.bool true)) (h : Det Tryd.prog 31 [U a, U n] (.tuple #[U r, .int .i64 c])) : Det Tryd.prog 17 [U a, Ic false n] (.tuple #[U r, .int .i64 c]) :=
  det_of_vc Tryd.mixed good_int256_AddClamped (O := [.reg [(1, det (.bool true))], .no, .no, .reg [(3, det (.tuple #[U r, .int .i64 c]))]]) fun _ => ⟨hv _, fun _ => ⟨rfl, ⟨rfl, ⟨h _, fun _ => ⟨(), rfl, nofun⟩⟩⟩⟩⟩
theorem i64_ge (z : Int) (k l : Nat) (p : Bool) (hz : decide (z ≥ 0) = true) (h : Det Tryd.prog 45 [.int .u64 (IntKind.u64.wrap z)] (U k)) (hn : Det Tryd.prog 15 [.bool false, U k] (Ic p l)) : Det Tryd.prog 28 [.int .i64 z] (Ic p l) :=
  det_of_vc Tryd.mixed good_int256_FromInt64 (O := [.yes, .reg [(2, det (U k)), (3, det (Ic p l))]]) fun _ => ⟨hz, ⟨h _, fun _ => ⟨hn _, fun _ => ⟨(), rfl, nofun⟩⟩⟩⟩
theorem i64_lt (z : Int) (k l : Nat) (p : Bool) (hz : decide (z ≥ 0) = false) (h : Det Tryd.prog 45 [.int .u64 (IntKind.u64.wrap (IntKind.u64.wrap (IntKind.i64.wrap (0 - IntKind.i64.wrap (z + 1))) + 1))] (U k)) (hn : Det Tryd.prog 15 [.bool true, U k] (Ic p l)) : Det Tryd.prog 28 [.int .i64 z] (Ic p l) :=
  det_of_vc Tryd.mixed good_int256_FromInt64 (O := [.no, .reg [(5, det (U k)), (6, det (Ic p l))]]) fun _ => ⟨hz, ⟨h _, fun _ => ⟨hn _, fun _ => ⟨(), rfl, nofun⟩⟩⟩⟩
end Go.Proofs.YtbhffhipbdakgaaDoor

