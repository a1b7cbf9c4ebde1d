/- Load of what it refuses. No conditions. -/
import Derived.Test.YtkibbcomfjhgpaaDoorK1w
namespace Go.Proofs.YtkibbcomfjhgpaaDoor
open Go.RowKit Sx
set_option maxRecDepth 100000

theorem k_total_n (y : Ass) (v : Nat → Nat) (hv : ∀ k, v k < B256) (hb : ∀ i, (y.l.getD i default).b < B256) (hn : y.n ≤ 100000) (hs : ¬ (tl y v y.n).sum < B256) (A : Facts) (hy : Sub y.L A) : Gives Tryd.prog 40 [y.v, VV4 v] A Unit (fun _ => .tuple #[.agg #[.int .u64 0, .int .u64 0, .int .u64 0, .int .u64 0], .int .i64 4]) (fun _ => []) := by
  have := k_total y v hv hb hn A hy
  unfold totR at this
  rwa [if_neg hs] at this
theorem k_valid_n (y : Ass) (hb : ∀ i, (y.l.getD i default).b < B256) (hn : y.n ≤ 1000000000) (hok : okA 0 y.l = false) (A : Facts) (hy : Sub y.L A) : Gives Tryd.prog 39 [y.v] A Unit (fun _ => .bool false) (fun _ => []) := by
  have := k_valid y hb hn A hy
  rwa [hok] at this
theorem k_load_1 (y : Ass) (v : Nat → Nat) (hb : ∀ i, (y.l.getD i default).b < B256) (hn : y.n ≤ 100000) (hok : okA 0 y.l = false) (A : Facts) (hy : Sub y.L A) : Gives Tryd.prog 12 [y.v, VV4 v] A (Unit) (fun _ => .tuple #[.pointer none, .int .i64 2]) (fun _ => []) :=
  gives_of_vcF Tryd.mixed good_ledger_Load (args := [(y.v, y.L), (VV4 v, [])]) (B := []) (O := [.reg [(1, .call Unit () (fun _ => .bool false) (fun _ => []))], .yes]) (.app (.nil _) (.app (hy) (.app (.nil _) (.nil _)))) (⟨k_valid_n y hb (by omega) hok _ (by intro q h; simp [h]), fun _ => ⟨rfl, ⟨(), rfl, nofun⟩⟩⟩)
theorem k_load_2 (y : Ass) (v : Nat → Nat) (hv : ∀ k, v k < B256) (hb : ∀ i, (y.l.getD i default).b < B256) (hn : y.n ≤ 100000) (hok : okA 0 y.l = true) (hs : ¬ (tl y v y.n).sum < B256) (A : Facts) (hy : Sub y.L A) : Gives Tryd.prog 12 [y.v, VV4 v] A (Unit) (fun _ => .tuple #[.pointer none, .int .i64 4]) (fun _ => []) :=
  gives_of_vcF Tryd.mixed good_ledger_Load (args := [(y.v, y.L), (VV4 v, [])]) (B := []) (O := [.reg [(1, .call Unit () (fun _ => .bool true) (fun _ => []))], .no, .reg [(2, .call Unit () (fun _ => .tuple #[.agg #[.int .u64 0, .int .u64 0, .int .u64 0, .int .u64 0], .int .i64 4]) (fun _ => []))], .yes]) (.app (.nil _) (.app (hy) (.app (.nil _) (.nil _)))) (⟨k_valid_k y hb (by omega) hok _ (by intro q h; simp [h]), fun _ => ⟨rfl, ⟨k_total_n y v hv hb hn hs _ (by intro q h; simp [h]), fun _ => ⟨rfl, ⟨(), rfl, nofun⟩⟩⟩⟩⟩)
end Go.Proofs.YtkibbcomfjhgpaaDoor

