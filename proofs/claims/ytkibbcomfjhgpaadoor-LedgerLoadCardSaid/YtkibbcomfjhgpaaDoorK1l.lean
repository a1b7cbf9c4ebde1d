/- validAccounts. No conditions. -/
import Derived.Test.YtkibbcomfjhgpaaDoorK1j
namespace Go.Proofs.YtkibbcomfjhgpaaDoor
open Go.RowKit Sx
set_option maxRecDepth 100000

/-! What Load asks of the accounts. -/
def okA : Nat → List Ac → Bool
  | _, [] => true
  | p, x :: r => if x.a ≤ p ∨ x.emp then false else okA x.a r
theorem okA_0 {p : Nat} {x : Ac} {r : List Ac} (h : x.a ≤ p) : okA p (x :: r) = false := by rw [okA, if_pos (.inl h)]
theorem okA_1 {p : Nat} {x : Ac} {r : List Ac} (h : x.emp) : okA p (x :: r) = false := by rw [okA, if_pos (.inr h)]
theorem okA_2 {p : Nat} {x : Ac} {r : List Ac} (h : ¬ x.a ≤ p) (h2 : ¬ x.emp) : okA p (x :: r) = okA x.a r := by rw [okA, if_neg (fun e => e.elim h h2)]
theorem drop_get (l : List Ac) {k : Nat} (h : k < l.length) : l.drop k = l.getD k default :: l.drop (k + 1) := by
  rw [List.drop_eq_getElem_cons h]
  simp [List.getD, h]
structure VS (y : Ass) where
  k : Nat
  hk : k ≤ y.n
  p : Nat
  h : okA p (y.l.drop k) = okA 0 y.l
section
variable {y : Ass}
def vs0 (y : Ass) : VS y := ⟨0, Nat.zero_le _, 0, rfl⟩
abbrev VS.x (s : VS y) : Ac := y.l.getD s.k default
theorem VS.dr (s : VS y) (g : s.k < y.n) : y.l.drop s.k = s.x :: y.l.drop (s.k + 1) := drop_get _ (by rw [y.hl]; exact g)
def VS.next (s : VS y) (g : s.k < y.n) (h1 : ¬ s.x.a ≤ s.p) (h2 : ¬ s.x.emp) : VS y := ⟨s.k + 1, g, s.x.a, by rw [← s.h, s.dr g, okA_2 h1 h2]⟩
theorem VS.r0 (s : VS y) (g : s.k < y.n) (h1 : s.x.a ≤ s.p) : Value.bool false = .bool (okA 0 y.l) := by rw [← s.h, s.dr g, okA_0 h1]
theorem VS.r1 (s : VS y) (g : s.k < y.n) (h2 : s.x.emp) : Value.bool false = .bool (okA 0 y.l) := by rw [← s.h, s.dr g, okA_1 h2]
theorem VS.r2 (s : VS y) (g : ¬ s.k < y.n) : Value.bool true = .bool (okA 0 y.l) := by
  rw [← s.h, List.drop_eq_nil_of_le (by rw [y.hl]; omega)]; rfl
end
theorem leI_t {a b : Nat} (h : a ≤ b) : decide ((a : Int) ≤ (b : Int)) = true := decide_eq_true (by omega)
theorem leI_f {a b : Nat} (h : ¬ a ≤ b) : decide ((a : Int) ≤ (b : Int)) = false := decide_eq_false (by omega)

theorem good_ledger_validAccounts : Good Tryd.prog 39 Tryd.f39 1 := ⟨Tryd.func39, by kernel_rfl, by kernel_rfl⟩
theorem good_ledger_total : Good Tryd.prog 40 Tryd.f40 2 := ⟨Tryd.func40, by kernel_rfl, by kernel_rfl⟩
theorem good_ledger_Load : Good Tryd.prog 12 Tryd.f12 2 := ⟨Tryd.func12, by kernel_rfl, by kernel_rfl⟩
theorem k_valid (y : Ass) (hb : ∀ i, (y.l.getD i default).b < B256) (hn : y.n ≤ 1000000000) (A : Facts) (hy : Sub y.L A) : Gives Tryd.prog 39 [y.v] A (Unit) (fun _ => .bool (okA 0 y.l)) (fun _ => []) :=
  gives_of_vcF Tryd.mixed good_ledger_validAccounts (args := [(y.v, y.L)]) (B := []) (O := [.inv (VS y) (fun s : VS y => ⟨23, [(3, .v (.int .u64 (s.p : Int)) []), (6, .v y.v y.L), (7, .v (.int .i64 ((y.n : Nat) : Int)) []), (8, .v (.int .i64 ((s.k : Nat) : Int)) [])], [], 90⟩) (fun s => y.n - s.k) (fun s => [.both [.opt 4 [(1, .ld (AV s.x))], .alt [(s.x.a ≤ s.p, [(5, .no), (6, .no), (7, .yes)], [.yes]), (True, [(5, .yes), (6, det (.bool (decide s.x.emp))), (7, .no)], [.both [] []])]] []])]) (.app (.nil _) (.app (hy) (.nil _))) (⟨⟨vs0 y, rfl, ⟨⟨rfl, nofun⟩, ⟨rfl, fun _ h => h⟩, ⟨rfl, nofun⟩, ⟨rfl, nofun⟩, trivial⟩, trivial⟩, fun s => ⟨fun g => ⟨y.idx (Int.natCast_nonneg _) (Int.ofNat_lt.2 (lt_t g)), ⟨y.load s.k rfl (lt_t g) (by intro q h; simp [h]), ⟨fun h1 => ⟨gft (leI_t h1), ⟨gft (leI_t h1), ⟨(leI_t h1), ⟨rfl, ⟨(), s.r0 (lt_t g) h1, nofun⟩⟩⟩⟩⟩, fun h1 => ⟨fun _ => ⟨gff (leI_f h1), ⟨⟨gff (leI_f h1), k_emp s.x (hb _) _⟩, fun _ => ⟨(leI_f h1), ⟨fun h2 => ⟨(), s.r1 (lt_t g) (of_decide_eq_true h2), nofun⟩, fun h2 => ⟨s.next (lt_t g) h1 (of_decide_eq_false h2), by have := lt_t g; show y.n - (s.k + 1) < y.n - s.k; omega, rfl, ⟨⟨rfl, nofun⟩, ⟨rfl, fun _ h => h⟩, ⟨rfl, nofun⟩, ⟨congrArg _ (add1 (by have := lt_t g; omega)), nofun⟩, trivial⟩, trivial⟩⟩⟩⟩⟩, fun h => (h trivial).elim⟩⟩⟩⟩, fun g => ⟨(), s.r2 (by have := of_decide_eq_false g; omega), nofun⟩⟩⟩)
end Go.Proofs.YtkibbcomfjhgpaaDoor

