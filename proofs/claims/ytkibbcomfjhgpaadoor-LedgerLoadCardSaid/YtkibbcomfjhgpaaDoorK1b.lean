/- The reference ledger: at, Get. No conditions. -/
import Derived.Test.YtkibbcomfjhgpaaDoorK1a
namespace Go.Proofs.YtkibbcomfjhgpaaDoor
open Go.RowKit Sx
set_option maxRecDepth 100000

theorem good_pontageref11_Ledger_at : Good Tryd.prog 64 Tryd.f64 2 := ⟨Tryd.func64, by kernel_rfl, by kernel_rfl⟩
theorem good_pontageref11_Ledger_Get : Good Tryd.prog 36 Tryd.f36 2 := ⟨Tryd.func36, by kernel_rfl, by kernel_rfl⟩
theorem rl_lt {l : List Ac} {k : Nat} (h : k < l.length) : decide ((k : Int) < ((lenB (acws l) 6 : Nat) : Int)) = true := decide_eq_true (by rw [lenB_a]; omega)
theorem rl_i {l : List Ac} {k : Nat} (h : k < l.length) : (k : Int) < ((lenB (acws l) 6 : Nat) : Int) := by rw [lenB_a]; omega
theorem rl_g {l : List Ac} {k : Nat} (h : decide ((k : Int) < ((lenB (acws l) 6 : Nat) : Int)) = true) : k < l.length := by rw [← lenB_a]; exact lt_t h
theorem ge_0 (i : Nat) : decide ((i : Int) ≥ 0) = true := decide_eq_true (by omega)
theorem ra_b {a b : Nat} (h : ((a : Int) == (b : Int)) = true) : a = b := by have := eq_of_beq h; omega
theorem ra_eq {l : List Ac} {a i k : Nat} (hk : k ≤ i) (hno : ∀ j, j < i → (l.getD j default).a ≠ a) (h : (((l.getD k default).a : Int) == (a : Int)) = true) : Value.int .i64 (k : Int) = .int .i64 (i : Int) := by
  have : k = i := by
    rcases Nat.lt_or_eq_of_le hk with h1 | h1
    · exact absurd (ra_b h) (hno k h1)
    · exact h1
  rw [this]
theorem ra_lt {l : List Ac} {a i k : Nat} (hk : k ≤ i) (ha : (l.getD i default).a = a) (h : (((l.getD k default).a : Int) == (a : Int)) = false) : k + 1 ≤ i := by
  rcases Nat.lt_or_eq_of_le hk with h1 | h1
  · exact h1
  · exact absurd (by rw [h1, ha]; simp) (Bool.eq_false_iff.1 h)
theorem r_at_y (p : Nat) (l : List Ac) (x : FrX (acws l)) (v : Nat → Nat) (hl : l.length ≤ 1000000) (a i : Nat) (hi : i < l.length) (ha : (l.getD i default).a = a) (hno : ∀ j, j < i → (l.getD j default).a ≠ a) (A : Facts) : CallR Tryd.prog 64 [.pointer (some ⟨p, 0, none⟩), .int .u64 (a : Int)] A ((rF p l x v)) (Unit) (fun _ => .int .i64 ((i : Nat) : Int)) (fun _ => []) :=
  reads_of_vcF Tryd.mixed good_pontageref11_Ledger_at (args := [(.pointer (some ⟨p, 0, none⟩), []), (.int .u64 (a : Int), [])]) (B := A) (F := (rF p l x v)) (O := [.invT (KU i) (fun k : KU i => ⟨26, [(0, .v (.pointer (some ⟨p, 0, none⟩)) []), (1, .v (.int .u64 (a : Int)) []), (5, .v (.int .i64 ((k.1 : Nat) : Int)) [])], [], 90⟩) (fun _ => [(0, fun G => G = (rF p l x v))]) (fun k => i - k.1) (fun k => [.opt 2 [(4, .rdT 0 Unit () (fun _ => .slice (frO x) (lenB (acws l) 6) (frC 6 x)) (fun _ => []))], .yes, .opt 4 [(3, .rdT 0 Unit () (fun _ => .slice (frO x) (lenB (acws l) 6) (frC 6 x)) (fun _ => [])), (7, .rdT 0 Unit () (fun _ => .int .u64 ((l.getD k.1 default).a : Int)) (fun _ => []))], .both [] []])]) (.app ((.refl _)) (.app (.nil _) (.app (.nil _) (.nil _)))) (⟨⟨⟨0, Nat.zero_le _⟩, ⟨rfl, ⟨⟨rfl, nofun⟩, ⟨rfl, nofun⟩, ⟨rfl, nofun⟩, trivial⟩, trivial⟩, ⟨fun _ g => g, trivial⟩⟩, fun k => ⟨fun _ g => by subst g; exact rr_lda, fun _ => ⟨rl_lt (l := l) (k := k.1) (by have := k.2; omega), ⟨fun _ g => by subst g; exact rr_lda, fun _ => ⟨rr_idx (Int.natCast_nonneg _) (rl_i (by have := k.2; omega)), ⟨fun _ g => by subst g; exact rr_adr k.1 rfl (by have := k.2; omega), fun _ => ⟨fun h1 => ⟨(), ra_eq k.2 hno h1, nofun, fun _ g => g, trivial⟩, fun h1 => ⟨⟨k.1 + 1, ra_lt k.2 ha h1⟩, by have := ra_lt k.2 ha h1; show i - (k.1 + 1) < i - k.1; omega, ⟨rfl, ⟨⟨rfl, nofun⟩, ⟨rfl, nofun⟩, ⟨congrArg _ (add1 (by have := k.2; omega)), nofun⟩, trivial⟩, trivial⟩, ⟨fun _ g => g, trivial⟩⟩⟩⟩⟩⟩⟩⟩⟩)
theorem r_at_n (p : Nat) (l : List Ac) (x : FrX (acws l)) (v : Nat → Nat) (hl : l.length ≤ 1000000) (a : Nat) (hno : ∀ j, j < l.length → (l.getD j default).a ≠ a) (A : Facts) : CallR Tryd.prog 64 [.pointer (some ⟨p, 0, none⟩), .int .u64 (a : Int)] A ((rF p l x v)) (Unit) (fun _ => .int .i64 (-1)) (fun _ => []) :=
  reads_of_vcF Tryd.mixed good_pontageref11_Ledger_at (args := [(.pointer (some ⟨p, 0, none⟩), []), (.int .u64 (a : Int), [])]) (B := A) (F := (rF p l x v)) (O := [.invT (KU l.length) (fun k : KU l.length => ⟨26, [(0, .v (.pointer (some ⟨p, 0, none⟩)) []), (1, .v (.int .u64 (a : Int)) []), (5, .v (.int .i64 ((k.1 : Nat) : Int)) [])], [], 90⟩) (fun _ => [(0, fun G => G = (rF p l x v))]) (fun k => l.length - k.1) (fun k => [.opt 2 [(4, .rdT 0 Unit () (fun _ => .slice (frO x) (lenB (acws l) 6) (frC 6 x)) (fun _ => []))], .both [.opt 4 [(3, .rdT 0 Unit () (fun _ => .slice (frO x) (lenB (acws l) 6) (frC 6 x)) (fun _ => [])), (7, .rdT 0 Unit () (fun _ => .int .u64 ((l.getD k.1 default).a : Int)) (fun _ => []))], .no] []])]) (.app ((.refl _)) (.app (.nil _) (.app (.nil _) (.nil _)))) (⟨⟨⟨0, Nat.zero_le _⟩, ⟨rfl, ⟨⟨rfl, nofun⟩, ⟨rfl, nofun⟩, ⟨rfl, nofun⟩, trivial⟩, trivial⟩, ⟨fun _ g => g, trivial⟩⟩, fun k => ⟨fun _ g => by subst g; exact rr_lda, fun _ => ⟨fun h1 => ⟨fun _ g => by subst g; exact rr_lda, fun _ => ⟨rr_idx (Int.natCast_nonneg _) (rl_i (rl_g h1)), ⟨fun _ g => by subst g; exact rr_adr k.1 rfl (rl_g h1), fun _ => ⟨beqN_f (hno k.1 (rl_g h1)), ⟨⟨k.1 + 1, rl_g h1⟩, by have := rl_g h1; show l.length - (k.1 + 1) < l.length - k.1; omega, ⟨rfl, ⟨⟨rfl, nofun⟩, ⟨rfl, nofun⟩, ⟨congrArg _ (add1 (by have := rl_g h1; omega)), nofun⟩, trivial⟩, trivial⟩, ⟨fun _ g => g, trivial⟩⟩⟩⟩⟩⟩, fun h1 => ⟨(), rfl, nofun, fun _ g => g, trivial⟩⟩⟩⟩)
theorem at_cases (l : List Ac) (a : Nat) : (∃ i, i < l.length ∧ (l.getD i default).a = a ∧ (∀ j, j < i → (l.getD j default).a ≠ a) ∧ l.getD i default = getA l a) ∨ ((∀ j, j < l.length → (l.getD j default).a ≠ a) ∧ getA l a = ⟨a, 0, 0⟩) := by
  induction l with
  | nil => exact .inr ⟨fun j h => absurd h (Nat.not_lt_zero j), rfl⟩
  | cons x r ih =>
    by_cases e : x.a = a
    · exact .inl ⟨0, Nat.zero_lt_succ _, e, fun j h => absurd h (Nat.not_lt_zero j), by rw [getA, if_pos e]; rfl⟩
    · rcases ih with ⟨i, h1, h2, h3, h4⟩ | ⟨h1, h2⟩
      · refine .inl ⟨i + 1, Nat.succ_lt_succ h1, h2, fun j hj => ?_, by rw [getA, if_neg e]; exact h4⟩
        cases j with
        | zero => exact e
        | succ j => exact h3 j (Nat.lt_of_succ_lt_succ hj)
      · refine .inr ⟨fun j hj => ?_, by rw [getA, if_neg e]; exact h2⟩
        cases j with
        | zero => exact e
        | succ j => exact h1 j (Nat.lt_of_succ_lt_succ hj)
theorem av_0 (a : Nat) : Value.agg #[.int .u64 (a : Int), .int .u64 0, .int .u64 0, .int .u64 0, .int .u64 0, .int .u64 0] = AV ⟨a, 0, 0⟩ := by
  show _ = Value.agg #[.int .u64 (a : Int), .int .u64 (limb 0 0), .int .u64 (limb 0 1), .int .u64 (limb 0 2), .int .u64 (limb 0 3), .int .u64 ((0 : Nat) : Int)]
  rw [limb_z, limb_z, limb_z, limb_z]
  rfl
theorem r_get_y (p : Nat) (l : List Ac) (x : FrX (acws l)) (v : Nat → Nat) (hl : l.length ≤ 1000000) (a i : Nat) (hi : i < l.length) (ha : (l.getD i default).a = a) (hno : ∀ j, j < i → (l.getD j default).a ≠ a) (A : Facts) : CallR Tryd.prog 36 [.pointer (some ⟨p, 0, none⟩), .int .u64 (a : Int)] A ((rF p l x v)) (Unit) (fun _ => AV (l.getD i default)) (fun _ => []) :=
  reads_of_vcF Tryd.mixed good_pontageref11_Ledger_Get (args := [(.pointer (some ⟨p, 0, none⟩), []), (.int .u64 (a : Int), [])]) (B := A) (F := (rF p l x v)) (O := [.reg [(2, .rdT 0 Unit () (fun _ => .int .i64 ((i : Nat) : Int)) (fun _ => []))], .yes, .opt 3 [(3, .rdT 0 Unit () (fun _ => .slice (frO x) (lenB (acws l) 6) (frC 6 x)) (fun _ => [])), (6, .rdT 0 Unit () (fun _ => AV (l.getD i default)) (fun _ => []))]]) (.app ((.refl _)) (.app (.nil _) (.app (.nil _) (.nil _)))) (⟨fun _ g => by subst g; exact callR_op (r_at_y p l x v hl a i hi ha hno _) rfl rfl, fun _ => ⟨ge_0 i, ⟨fun _ g => by subst g; exact rr_lda, fun _ => ⟨rr_idx (Int.natCast_nonneg _) (rl_i hi), ⟨fun _ g => by subst g; exact rr_acc i rfl hi, fun _ => ⟨(), rfl, nofun, fun _ g => g, trivial⟩⟩⟩⟩⟩⟩)
theorem r_get_n (p : Nat) (l : List Ac) (x : FrX (acws l)) (v : Nat → Nat) (hl : l.length ≤ 1000000) (a : Nat) (hno : ∀ j, j < l.length → (l.getD j default).a ≠ a) (A : Facts) : CallR Tryd.prog 36 [.pointer (some ⟨p, 0, none⟩), .int .u64 (a : Int)] A ((rF p l x v)) (Unit) (fun _ => AV ⟨a, 0, 0⟩) (fun _ => []) :=
  reads_of_vcF Tryd.mixed good_pontageref11_Ledger_Get (args := [(.pointer (some ⟨p, 0, none⟩), []), (.int .u64 (a : Int), [])]) (B := A) (F := (rF p l x v)) (O := [.reg [(2, .rdT 0 Unit () (fun _ => .int .i64 (-1)) (fun _ => []))], .no]) (.app ((.refl _)) (.app (.nil _) (.app (.nil _) (.nil _)))) (⟨fun _ g => by subst g; exact callR_op (r_at_n p l x v hl a hno _) rfl rfl, fun _ => ⟨rfl, ⟨(), av_0 a, nofun, fun _ g => g, trivial⟩⟩⟩)
theorem r_get (p : Nat) (l : List Ac) (x : FrX (acws l)) (v : Nat → Nat) (hl : l.length ≤ 1000000) (a : Nat) (A : Facts) : CallR Tryd.prog 36 [.pointer (some ⟨p, 0, none⟩), .int .u64 (a : Int)] A (rF p l x v) Unit (fun _ => AV (getA l a)) (fun _ => []) := by
  rcases at_cases l a with ⟨i, h1, h2, h3, h4⟩ | ⟨h1, h2⟩
  · rw [← h4]; exact r_get_y p l x v hl a i h1 h2 h3 A
  · rw [h2]; exact r_get_n p l x v hl a h1 A
end Go.Proofs.YtkibbcomfjhgpaaDoor

