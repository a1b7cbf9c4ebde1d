/- The reference ledger: Vault. No conditions. -/
import Derived.Test.YtkibbcomfjhgpaaDoorK1b
namespace Go.Proofs.YtkibbcomfjhgpaaDoor
open Go.RowKit Sx
set_option maxRecDepth 100000

section
variable {ρ : Operand → Value} {dst : Option Tmp} {type : TypeId} {pos : String} {after : Array Edge} {guard : Option (Nat × Bool)} {p : Nat} {l : List Ac} {x : FrX (acws l)} {v : Nat → Nat} {A : Facts} {X Y Z : Operand}
theorem rC_take (l : List Ac) (x : FrX (acws l)) (v : Nat → Nat) {k : Nat} (hk : k < 4) : ∀ j u, (cU (v k))[j]? = some u → (rC l x v)[1 + k * 4 + j]? = some u := by
  intro j u hj
  have hj4 : j < 4 := (List.getElem?_eq_some_iff.1 hj).1
  rcases (by omega : k = 0 ∨ k = 1 ∨ k = 2 ∨ k = 3) with rfl | rfl | rfl | rfl <;> rcases (by omega : j = 0 ∨ j = 1 ∨ j = 2 ∨ j = 3) with rfl | rfl | rfl | rfl <;> exact hj
theorem rr_ldv {k : Nat} (hk : k < 4) (hx : ρ X = .pointer (some ⟨p, 1 + k * 4, none⟩) := by rfl) : ReadsOp Tryd.prog (execOp ρ ⟨dst, .load 31 X, type, pos, after, guard⟩) A (rF p l x v) Unit (fun _ => U (v k)) (fun _ => []) := by
  refine rd_of fun w hF => ?_
  have hr : World.rangeAt w p (1 + k * 4) (cU (v k)) := fun j u hj => by rw [cell_of_heap (rF_heap hF)]; exact rC_take l x v hk j u hj
  have hl := run_loadVar_mid w p (1 + k * 4) _ _ _ hr Tryd.underlying31 rfl (by kernel_rfl)
  simp [execOp, Instr.loadAt, hx, Instr.sureAddr, hl]
theorem ld_sub1 {z : Int} (k : Nat) (e : z = (k : Int) + 1) (hk : k < 4) (A : Facts) (hx : ρ X = .int .i64 z := by rfl) (hy : ρ Y = .int .i64 1 := by rfl) :
    ∀ w, Sx.Holds w A → (execOp ρ ⟨dst, .binOp .sub 3 X Y 3, type, pos, after, guard⟩).run Tryd.prog w = .ok (.value (.int .i64 (k : Int))) w := by
  intro w _
  have e1 : execOp ρ ⟨dst, .binOp .sub 3 X Y 3, type, pos, after, guard⟩ = (do let v ← binOp .sub 3 (ρ X) (ρ Y); pure (.value v)) := rfl
  have h2 : IntKind.i64.wrap (z - 1) = (k : Int) := by rw [show z - 1 = (k : Int) by omega, wrap_nat (by omega)]
  rw [e1, hx, hy, ← h2]
  rfl
end
theorem v_lt1 {v : Int} (h : v < 1) : decide (v < 1) = true := decide_eq_true h
theorem v_nlt1 {v : Int} (h : ¬ v < 1) : decide (v < 1) = false := decide_eq_false h
theorem v_gt4 {v : Int} (h : 4 < v) : decide (v > 4) = true := decide_eq_true h
theorem v_ngt4 {v : Int} (h : ¬ 4 < v) : decide (v > 4) = false := decide_eq_false h

theorem good_pontageref11_Ledger_Vault : Good Tryd.prog 37 Tryd.f37 2 := ⟨Tryd.func37, by kernel_rfl, by kernel_rfl⟩
theorem r_vault_o (p : Nat) (l : List Ac) (x : FrX (acws l)) (v : Nat → Nat) (z : Int) (hz : z < 1 ∨ 4 < z) (A : Facts) : CallR Tryd.prog 37 [.pointer (some ⟨p, 0, none⟩), .int .i64 z] A ((rF p l x v)) (Unit) (fun _ => .agg #[.int .u64 0, .int .u64 0, .int .u64 0, .int .u64 0]) (fun _ => []) :=
  reads_of_vcF Tryd.mixed good_pontageref11_Ledger_Vault (args := [(.pointer (some ⟨p, 0, none⟩), []), (.int .i64 z, [])]) (B := A) (F := (rF p l x v)) (O := [.alt [(z < 1, [(3, .no), (4, .no), (5, .yes)], [.yes]), (True, [(3, .yes), (4, .yes), (5, .no)], [.yes])]]) (.app ((.refl _)) (.app (.nil _) (.app (.nil _) (.nil _)))) (⟨fun h1 => ⟨gft (v_lt1 h1), ⟨gft (v_lt1 h1), ⟨(v_lt1 h1), ⟨rfl, ⟨(), rfl, nofun, fun _ g => g, trivial⟩⟩⟩⟩⟩, fun h1 => ⟨fun _ => ⟨gff (v_nlt1 h1), ⟨gff (v_nlt1 h1), ⟨(v_nlt1 h1), ⟨v_gt4 (hz.resolve_left h1), ⟨(), rfl, nofun, fun _ g => g, trivial⟩⟩⟩⟩⟩, fun h => (h trivial).elim⟩⟩)
theorem r_vault_i (p : Nat) (l : List Ac) (x : FrX (acws l)) (v : Nat → Nat) (z : Int) (k : Nat) (e : z = (k : Int) + 1) (hk : k < 4) (A : Facts) : CallR Tryd.prog 37 [.pointer (some ⟨p, 0, none⟩), .int .i64 z] A ((rF p l x v)) (Unit) (fun _ => U (v k)) (fun _ => []) :=
  reads_of_vcF Tryd.mixed good_pontageref11_Ledger_Vault (args := [(.pointer (some ⟨p, 0, none⟩), []), (.int .i64 z, [])]) (B := A) (F := (rF p l x v)) (O := [.reg [(3, .yes), (4, .yes), (5, .no)], .no, .opt 3 [(2, .ld (.int .i64 ((k : Nat) : Int))), (5, .ld (.pointer (some ⟨p, 1 + k * 4, none⟩))), (6, .rdT 0 Unit () (fun _ => U (v k)) (fun _ => []))]]) (.app ((.refl _)) (.app (.nil _) (.app (.nil _) (.nil _)))) (⟨gff (v_nlt1 (by omega)), ⟨gff (v_nlt1 (by omega)), ⟨(v_nlt1 (by omega)), ⟨v_ngt4 (by omega), ⟨ld_sub1 k e hk _, ⟨kt_ix p hk _ rfl, ⟨fun _ g => by subst g; exact rr_ldv hk, fun _ => ⟨(), rfl, nofun, fun _ g => g, trivial⟩⟩⟩⟩⟩⟩⟩⟩)
end Go.Proofs.YtkibbcomfjhgpaaDoor

