/- The example of layer 11, LedgerNil. No conditions. -/
import Derived.Test.YtkibbcomfjhgpaaDoorK1p
namespace Go.Proofs.YtkibbcomfjhgpaaDoor
open Go.RowKit Sx
set_option maxRecDepth 100000

theorem eqU_t {a b : Nat} (h : a = b) : cellsEq (cU a) (cU b) = true := by rw [h]; exact eqU_self b
theorem neU_f {a b : Nat} (h : a = b) : (!cellsEq (cU a) (cU b)) = false := by rw [eqU_t h]; rfl
theorem bneN_t {a b : Nat} (h : ¬ a = b) : ((a : Int) != (b : Int)) = true := by simpa using fun e : (a : Int) = b => h (by omega)
theorem bneN_f {a b : Nat} (h : a = b) : ((a : Int) != (b : Int)) = false := by rw [h]; simp
theorem beqN_t {a b : Nat} (h : a = b) : ((a : Int) == (b : Int)) = true := by rw [h]; simp
theorem beqN_f {a b : Nat} (h : ¬ a = b) : ((a : Int) == (b : Int)) = false := by simpa using fun e : (a : Int) = b => h (by omega)
theorem beq0_t {a : Nat} (h : a = 0) : ((a : Int) == 0) = true := by rw [h]; rfl
theorem beq0_f {a : Nat} (h : ¬ a = 0) : ((a : Int) == 0) = false := by simpa using fun e : (a : Int) = 0 => h (by omega)
theorem cmp_le {m n : Nat} (h : m ≤ n) : decide (cmpI m n ≤ 0) = true := by
  apply decide_eq_true; unfold cmpI; split
  · decide
  · rw [if_neg (by omega)]; decide
theorem cmp_gt {m n : Nat} (h : ¬ m ≤ n) : decide (cmpI m n ≤ 0) = false := by
  apply decide_eq_false; unfold cmpI; rw [if_neg (by omega), if_pos (by omega)]; decide
theorem tb_t {c : Bool} (h : c = true) : (true != c) = false := by rw [h]; rfl
theorem fb_f {c : Bool} (h : c = false) : (false != c) = false := by rw [h]; rfl

def lv16 : List Leaf := List.replicate 16 (.i .u64)
theorem lv16_ok : leaves Tryd.prog 4 41 = some lv16 := by kernel_rfl
theorem guard16 : Tryd.prog.eqGuardType Tryd.prog.depth 41 = false := by kernel_rfl
theorem eqT_vaults {xs ys : Array Value} (hx : fitL lv16 xs.toList = true) (hy : fitL lv16 ys.toList = true) : EqRun Tryd.prog 41 (.agg xs) (.agg ys) (cellsEq xs.toList ys.toList) :=
  eqRun_of lv16_ok (by omega) (.inr ⟨_, _, Tryd.underlying41⟩) guard16 hx hy

theorem good_pontagelaw11_awake : Good Tryd.prog 5 Tryd.f5 0 := ⟨Tryd.func5, by kernel_rfl, by kernel_rfl⟩
theorem good_ledger_Ledger_Accounts : Good Tryd.prog 15 Tryd.f15 1 := ⟨Tryd.func15, by kernel_rfl, by kernel_rfl⟩
theorem aok1 : LOk (mint led0 5 10).2 := ok_mint ok_0 (by decide) 10
theorem aok2 : LOk (trans (mint led0 5 10).2 5 6 11).2 := ok_trans aok1 (by decide) (by decide) 11
theorem k_mint10 (m : Nat) (A : Facts) (hA : LgF A) : CallT Tryd.prog 22 [.pointer (some ⟨m, 0, none⟩), .int .u64 5, .agg #[.int .u64 10, .int .u64 0, .int .u64 0, .int .u64 0]] A (led m led0) Unit (fun _ => .int .i64 0) (fun _ => []) (fun _ => led m (mint led0 5 10).2) := by
  have := k_mint m led0 ok_0 5 10 (lt_B (by decide)) A hA
  rwa [U_word 10 (by decide)] at this
theorem k_tran11 (m : Nat) (A : Facts) (hA : LgF A) : CallT Tryd.prog 23 [.pointer (some ⟨m, 0, none⟩), .int .u64 5, .int .u64 6, .agg #[.int .u64 11, .int .u64 0, .int .u64 0, .int .u64 0]] A (led m (mint led0 5 10).2) Unit (fun _ => .int .i64 10) (fun _ => []) (fun _ => led m (trans (mint led0 5 10).2 5 6 11).2) := by
  have := k_trans m (mint led0 5 10).2 aok1 5 6 11 (by decide) (lt_B (by decide)) A hA
  rwa [U_word 11 (by decide), show (trans (mint led0 5 10).2 5 6 11).1 = 10 by decide +kernel] at this
theorem k_pay4 (m : Nat) (A : Facts) (hA : LgF A) : CallT Tryd.prog 24 [.pointer (some ⟨m, 0, none⟩), .int .u64 5, .int .i64 3, .agg #[.int .u64 4, .int .u64 0, .int .u64 0, .int .u64 0]] A (led m (trans (mint led0 5 10).2 5 6 11).2) Unit (fun _ => .int .i64 0) (fun _ => []) (fun _ => led m (payv (trans (mint led0 5 10).2 5 6 11).2 5 3 4).2) := by
  have := k_payv m (trans (mint led0 5 10).2 5 6 11).2 aok2 5 4 3 (lt_B (by decide)) A hA
  rwa [U_word 4 (by decide), show (payv (trans (mint led0 5 10).2 5 6 11).2 5 3 4).1 = 0 by decide +kernel] at this
theorem aw_s : cellsEq (cU (payv (trans (mint led0 5 10).2 5 6 11).2 5 3 4).2.s) [.int .u64 10, .int .u64 0, .int .u64 0, .int .u64 0] = true := by decide +kernel
theorem aw_b : cellsEq (cU (getA (payv (trans (mint led0 5 10).2 5 6 11).2 5 3 4).2.acc 5).b) [.int .u64 6, .int .u64 0, .int .u64 0, .int .u64 0] = true := by decide +kernel
theorem aw_v : cellsEq (cU ((payv (trans (mint led0 5 10).2 5 6 11).2 5 3 4).2.v 2)) [.int .u64 4, .int .u64 0, .int .u64 0, .int .u64 0] = true := by decide +kernel
theorem aw11 (A : Facts) (hA : LgF A) : Gives Tryd.prog 5 [] A (Unit) (fun _ => .bool true) (fun _ => []) :=
  gives_of_vcF Tryd.mixed good_pontagelaw11_awake (args := []) (B := A) (O := [.reg [(0, .thg 0 Nat 0 (fun m => .pointer (some ⟨m, 0, none⟩)) (fun _ => []) (fun m => led m led0))], .gen 2 (Nat) (fun m => ⟨45, [(1, .v (.pointer (some ⟨m, 0, none⟩)) [])], [], 500⟩) (fun m => [(0, led m led0)]) (fun m => [.no, .reg [(2, .thg 0 Unit () (fun _ => .int .i64 0) (fun _ => []) (fun _ => led m (mint led0 5 10).2))], .gen 5 (Unit) (fun _ => ⟨45, [(1, .v (.pointer (some ⟨m, 0, none⟩)) []), (2, .v (.int .i64 0) [])], [], 600⟩) (fun _ => [(0, led m (mint led0 5 10).2)]) (fun _ => [.reg [(2, .thg 0 Unit () (fun _ => .int .i64 10) (fun _ => []) (fun _ => led m (trans (mint led0 5 10).2 5 6 11).2))], .reg [(2, .thg 0 Unit () (fun _ => .int .i64 0) (fun _ => []) (fun _ => led m (payv (trans (mint led0 5 10).2 5 6 11).2 5 3 4).2))], .reg ((3, .yes) :: (4, .yes) :: (5, .yes) :: (7, .yes) :: (8, .yes) :: (9, .yes) :: (11, .yes) :: (12, .rdT 0 Unit () (fun _ => U (payv (trans (mint led0 5 10).2 5 6 11).2 5 3 4).2.s) (fun _ => [])) :: (13, .yes) :: (14, .yes) :: (15, .yes) :: (17, .yes) :: (18, .rdT 0 Unit () (fun _ => U (getA (payv (trans (mint led0 5 10).2 5 6 11).2 5 3 4).2.acc 5).b) (fun _ => [])) :: (19, .yes) :: (20, .yes) :: (21, .yes) :: (23, .yes) :: (24, .rdT 0 Unit () (fun _ => U ((payv (trans (mint led0 5 10).2 5 6 11).2 5 3 4).2.v 2)) (fun _ => [])) :: (25, .yes) :: (26, .yes) :: (27, .yes) :: [])])])]) (.app ((.refl _)) (.nil _)) (⟨callT_op (k_new _) rfl rfl, fun m0 => ⟨⟨m0, ⟨rfl, ⟨⟨rfl, nofun⟩, trivial⟩, trivial⟩, ⟨fun _ g => g, trivial⟩⟩, fun m => ⟨rfl, ⟨callT_op (k_mint10 m _ (hA.app _)) rfl rfl, fun _ => ⟨⟨(), ⟨rfl, ⟨⟨rfl, nofun⟩, ⟨rfl, nofun⟩, trivial⟩, trivial⟩, ⟨fun _ g => g, trivial⟩⟩, fun _u => ⟨callT_op (k_tran11 m _ (hA.app _)) rfl rfl, fun _ => ⟨callT_op (k_pay4 m _ (hA.app _)) rfl rfl, fun _ => ⟨gtt rfl, ⟨gtt rfl, ⟨rfl, ⟨gtt rfl, ⟨gtt rfl, ⟨rfl, ⟨gtt rfl, ⟨⟨gtt rfl, fun _ g => callR_op (k_supply0 m (payv (trans (mint led0 5 10).2 5 6 11).2 5 3 4).2 _ g _) rfl rfl⟩, fun _ => ⟨gtt rfl, ⟨⟨gtt rfl, eqT_api_Uint256 rfl rfl⟩, ⟨rfl, ⟨gtt aw_s, ⟨⟨gtt aw_s, fun _ g => callR_op (k_bal g 5 _) rfl rfl⟩, fun _ => ⟨gtt aw_s, ⟨⟨gtt aw_s, eqT_api_Uint256 rfl rfl⟩, ⟨aw_s, ⟨gtt aw_b, ⟨⟨gtt aw_b, fun _ g => callR_op (k_vault_i m (payv (trans (mint led0 5 10).2 5 6 11).2 5 3 4).2 _ g 3 2 rfl (by decide) rfl _) rfl rfl⟩, fun _ => ⟨gtt aw_b, ⟨⟨gtt aw_b, eqT_api_Uint256 rfl rfl⟩, ⟨aw_b, ⟨(), congrArg Value.bool aw_v, nofun⟩⟩⟩⟩⟩⟩⟩⟩⟩⟩⟩⟩⟩⟩⟩⟩⟩⟩⟩⟩⟩⟩⟩⟩⟩⟩⟩⟩⟩)
theorem kn_mint (a n : Nat) : Det Tryd.prog 22 [.pointer none, .int .u64 (a : Int), U n] (.int .i64 1) :=
  det_of_vc Tryd.mixed good_ledger_Ledger_Mint (O := [.yes]) fun _ => ⟨rfl, ⟨(), rfl, nofun⟩⟩
theorem kn_trans (a b n : Nat) : Det Tryd.prog 23 [.pointer none, .int .u64 (a : Int), .int .u64 (b : Int), U n] (.int .i64 1) :=
  det_of_vc Tryd.mixed good_ledger_Ledger_Transfer (O := [.yes]) fun _ => ⟨rfl, ⟨(), rfl, nofun⟩⟩
theorem kn_payv (a n : Nat) (v : Int) : Det Tryd.prog 24 [.pointer none, .int .u64 (a : Int), .int .i64 v, U n] (.int .i64 1) :=
  det_of_vc Tryd.mixed good_ledger_Ledger_PayVault (O := [.yes]) fun _ => ⟨rfl, ⟨(), rfl, nofun⟩⟩
theorem kn_withd (a n : Nat) : Det Tryd.prog 27 [.pointer none, .int .u64 (a : Int), U n] (.int .i64 1) :=
  det_of_vc Tryd.mixed good_ledger_Ledger_Withdraw (O := [.yes]) fun _ => ⟨rfl, ⟨(), rfl, nofun⟩⟩
theorem kn_withv (n : Nat) (v : Int) : Det Tryd.prog 28 [.pointer none, .int .i64 v, U n] (.int .i64 1) :=
  det_of_vc Tryd.mixed good_ledger_Ledger_WithdrawVault (O := [.yes]) fun _ => ⟨rfl, ⟨(), rfl, nofun⟩⟩
theorem kn_incn (a : Nat) : Det Tryd.prog 29 [.pointer none, .int .u64 (a : Int)] (.int .i64 1) :=
  det_of_vc Tryd.mixed good_ledger_Ledger_IncrementNonce (O := [.yes]) fun _ => ⟨rfl, ⟨(), rfl, nofun⟩⟩
theorem kn_bal (a : Nat) : Det Tryd.prog 25 [.pointer none, .int .u64 (a : Int)] (.agg #[.int .u64 0, .int .u64 0, .int .u64 0, .int .u64 0]) :=
  det_of_vc Tryd.mixed good_ledger_Ledger_Balance (O := [.yes]) fun _ => ⟨rfl, ⟨(), rfl, nofun⟩⟩
theorem kn_nonce (a : Nat) : Det Tryd.prog 38 [.pointer none, .int .u64 (a : Int)] (.int .u64 0) :=
  det_of_vc Tryd.mixed good_ledger_Ledger_Nonce (O := [.yes]) fun _ => ⟨rfl, ⟨(), rfl, nofun⟩⟩
theorem kn_vault (v : Int) : Det Tryd.prog 26 [.pointer none, .int .i64 v] (.agg #[.int .u64 0, .int .u64 0, .int .u64 0, .int .u64 0]) :=
  det_of_vc Tryd.mixed good_ledger_Ledger_Vault (O := [.reg [(3, .no), (4, .no), (5, .no), (6, .yes)], .yes]) fun _ => ⟨gft rfl, ⟨gft rfl, ⟨gft rfl, ⟨rfl, ⟨rfl, ⟨(), rfl, nofun⟩⟩⟩⟩⟩⟩
theorem kn_supply  : Det Tryd.prog 18 [.pointer none] (.agg #[.int .u64 0, .int .u64 0, .int .u64 0, .int .u64 0]) :=
  det_of_vc Tryd.mixed good_ledger_Ledger_Supply (O := [.yes]) fun _ => ⟨rfl, ⟨(), rfl, nofun⟩⟩
theorem kn_vaults  : Det Tryd.prog 17 [.pointer none] (.agg #[.int .u64 0, .int .u64 0, .int .u64 0, .int .u64 0, .int .u64 0, .int .u64 0, .int .u64 0, .int .u64 0, .int .u64 0, .int .u64 0, .int .u64 0, .int .u64 0, .int .u64 0, .int .u64 0, .int .u64 0, .int .u64 0]) :=
  det_of_vc Tryd.mixed good_ledger_Ledger_Vaults (O := [.yes]) fun _ => ⟨rfl, ⟨(), rfl, nofun⟩⟩
theorem kn_accounts  : Det Tryd.prog 15 [.pointer none] (.slice none 0 0) :=
  det_of_vc Tryd.mixed good_ledger_Ledger_Accounts (O := [.yes]) fun _ => ⟨rfl, ⟨(), rfl, nofun⟩⟩
end Go.Proofs.YtkibbcomfjhgpaaDoor

