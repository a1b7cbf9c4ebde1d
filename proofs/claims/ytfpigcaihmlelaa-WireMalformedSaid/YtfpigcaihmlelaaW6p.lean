/- Package wire over this translation: what its functions give. No conditions. -/
import Derived.Test.YtfpigcaihmlelaaSxb
import Derived.Test.YtfpigcaihmlelaaSxg
namespace Go.Proofs.Ytfpigcaihmlelaa
open Go.RowKit Sx
set_option maxRecDepth 100000

theorem isoff_y {z : Int} {n : Nat} (h : 0 ≤ z) : Value.bool (decide (z ≤ (n : Int))) = .bool (decide (0 ≤ z) && decide (z ≤ (n : Int))) := by rw [decide_eq_true h, Bool.true_and]
theorem isoff_n {z : Int} {n : Nat} (h : ¬ 0 ≤ z) : Value.bool false = .bool (decide (0 ≤ z) && decide (z ≤ (n : Int))) := by rw [decide_eq_false h, Bool.false_and]
theorem ld_u8 (b : UInt8) (A : Facts) {ρ : Operand → Value} {x : Operand} {dst : Option Tmp} {type : TypeId} {pos : String} {after : Array Edge} {guard : Option (Nat × Bool)} (hx : ρ x = .int .u8 (b.toNat : Int) := by rfl) :
    ∀ w, Sx.Holds w A → (execOp ρ ⟨dst, .convert 5 3 x, type, pos, after, guard⟩).run Try.prog w = .ok (.value (.int .i64 (b.toNat : Int))) w := by
  intro w _
  have hb : b.toNat < 256 := b.toNat_lt
  have hw : IntKind.i64.wrap (b.toNat : Int) = (b.toNat : Int) := by rw [IntKind.wrap_i64] <;> omega
  have e : execOp ρ ⟨dst, .convert 5 3 x, type, pos, after, guard⟩ = (do let v ← convert 5 3 (ρ x); pure (.value v)) := rfl
  rw [e, hx]
  simp [convert, run_underlying Try.underlying5, run_underlying Try.underlying3, Conv.intToInt, hw]
theorem eq_z {n : Nat} (h : n = 0) : decide ((n : Int) = 0) = true := by subst h; rfl
theorem ne_z {n : Nat} (h : 0 < n) : decide ((n : Int) = 0) = false := by apply decide_eq_false; omega
theorem gt_f {a b : Int} (h : a ≤ b) : decide (a > b) = false := by apply decide_eq_false; omega
theorem gt_c {a c : Nat} (h : a - 1 < c) : decide ((c : Int) > (((a : Int).toNat - (1 : Int).toNat : Nat) : Int)) = true := by apply decide_eq_true; omega
theorem Byt.cut1 (y : Byt) (h : 0 < y.n) : (0 : Int) ≤ 1 ∧ (1 : Int) ≤ (y.n : Int) ∧ (y.n : Int) ≤ (y.cap : Int) := by have := y.hc; omega
theorem gt_d {a c : Nat} (h : c ≤ a - 1) : decide ((c : Int) > (((a : Int).toNat - (1 : Int).toNat : Nat) : Int)) = false := by apply decide_eq_false; omega
theorem gt_0 {c : Nat} (h : 0 < c) : decide ((c : Int) > 0) = true := by apply decide_eq_true; omega
theorem le_0 {c : Nat} (h : c = 0) : decide ((c : Int) > 0) = false := by apply decide_eq_false; omega
/-- All but the first byte. -/
def Byt.tail (y : Byt) (h : 0 < y.n) : Byt := y.sub 1 y.n h (Nat.le_refl _)
/-- The c bytes behind the first. -/
def Byt.sig (y : Byt) (h : 0 < y.n) (c : Nat) (hc : c ≤ y.n - 1) : Byt := (y.tail h).sub 0 c (Nat.zero_le _) hc
theorem Byt.tail_1 (y : Byt) (h : 0 < y.n) {c : Nat} (hc : c ≤ y.n - 1) (h3 : 0 < c) : (0 : Int) < ((y.tail h).n : Int) := by
  show (0 : Int) < ((y.n - 1 : Nat) : Int)
  omega
theorem Byt.load1 (y : Byt) (h : 0 < y.n) {c : Nat} (hc : c ≤ y.n - 1) (h3 : 0 < c) {A : Facts} (hA : Sub y.L A) : ∀ w, Sx.Holds w A → (loadVar 5 (((y.tail h).o.getD ⟨0, 0, none⟩).add ((0 : Int).toNat * 1))).run Try.prog w = .ok (.int .u8 ((y.l.getD 1 0).toNat : Int)) w := by
  have := (y.tail h).load (j := 0) 0 rfl (show 0 < y.n - 1 by omega) (A := A) hA
  have e : (y.tail h).l.getD 0 0 = y.l.getD 1 0 := by
    show ((y.l.drop 1).take (y.n - 1)).getD 0 0 = _
    simp [List.getD, List.getElem?_take]
    rw [if_pos (by omega)]
  rwa [e] at this
theorem Byt.cutc (y : Byt) (h : 0 < y.n) {c : Nat} (hc : c ≤ y.n - 1) : (0 : Int) ≤ 0 ∧ (0 : Int) ≤ (c : Int) ∧ (c : Int) ≤ ((y.cap - (1 : Int).toNat : Nat) : Int) := by have := y.hc; omega
theorem eqb_fin (l m : List UInt8) : Value.bool ((strOf l).toList == (strOf m).toList) = .bool (decide (l = m)) := by
  rw [seq_eq]
theorem good_wire_isOffset : Good Try.prog 39 Try.f39 2 := ⟨Try.func39, by kernel_rfl, by kernel_rfl⟩
theorem good_pontagelaw0_EqualBytes : Good Try.prog 10 Try.f10 2 := ⟨Try.func10, by kernel_rfl, by kernel_rfl⟩
theorem c_isoff (y : Byt) (z : Int) (A : Facts) (hy : Sub y.L A) : Gives Try.prog 39 [y.v, .int .i64 z] A (Unit) (fun _ => .bool (decide (0 ≤ z) && decide (z ≤ (y.n : Int)))) (fun _ => []) :=
  gives_of_vcF Try.mixed good_wire_isOffset (args := [(y.v, y.L), (.int .i64 z, [])]) (B := []) (O := [.alt [(0 ≤ z, [(3, .yes), (4, .yes), (5, .yes), (6, .yes), (7, .yes)], []), (True, [(3, .no), (4, .no), (5, .no), (6, .no), (7, .no)], [])]]) (.app (.nil _) (.app (hy) (.app (.nil _) (.nil _)))) (⟨fun h => ⟨gtt (decide_eq_true h), ⟨gtt (decide_eq_true h), ⟨gtt (decide_eq_true h), ⟨gtt (decide_eq_true h), ⟨(decide_eq_true h), ⟨(), isoff_y h, nofun⟩⟩⟩⟩⟩⟩, fun h => ⟨fun h => ⟨gtf (decide_eq_false (by assumption)), ⟨gtf (decide_eq_false (by assumption)), ⟨gtf (decide_eq_false (by assumption)), ⟨gtf (decide_eq_false (by assumption)), ⟨(decide_eq_false (by assumption)), ⟨(), isoff_n (by assumption), nofun⟩⟩⟩⟩⟩⟩, fun h => (h trivial).elim⟩⟩)
theorem c_eqb (y z : Byt) (A : Facts) (hy : Sub y.L A) (hz : Sub z.L A) : Gives Try.prog 10 [y.v, z.v] A (Unit) (fun _ => .bool (decide (y.l = z.l))) (fun _ => []) :=
  gives_of_vcF Try.mixed good_pontagelaw0_EqualBytes (args := [(y.v, y.L), (z.v, z.L)]) (B := []) (O := [.opt 1 [(1, .ld (.string (strOf y.l))), (3, .ld (.string (strOf z.l)))]]) (.app (.nil _) (.app (hy) (.app (hz) (.nil _)))) (⟨y.str (by intro q h; simp [h]), ⟨z.str (by intro q h; simp [h]), ⟨(), eqb_fin y.l z.l, nofun⟩⟩⟩)
theorem good_wire_significantBytes : Good Try.prog 42 Try.f42 2 := ⟨Try.func42, by kernel_rfl, by kernel_rfl⟩
theorem c_sig_a (y : Byt) (m : Int) (A : Facts) (hy : Sub y.L A) (h0 : y.n = 0) : Gives Try.prog 42 [y.v, .int .i64 m] A (Unit) (fun _ => .tuple #[.slice none 0 0, .bool false]) (fun _ => []) :=
  gives_of_vcF Try.mixed good_wire_significantBytes (args := [(y.v, y.L), (.int .i64 m, [])]) (B := []) (O := [.yes]) (.app (.nil _) (.app (hy) (.app (.nil _) (.nil _)))) (⟨(eq_z h0), ⟨(), rfl, nofun⟩⟩)
theorem c_sig_b (y : Byt) (m : Int) (A : Facts) (hy : Sub y.L A) (h0 : 0 < y.n) (h1 : m < ((y.l.getD 0 0).toNat : Int)) : Gives Try.prog 42 [y.v, .int .i64 m] A (Unit) (fun _ => .tuple #[.slice none 0 0, .bool false]) (fun _ => []) :=
  gives_of_vcF Try.mixed good_wire_significantBytes (args := [(y.v, y.L), (.int .i64 m, [])]) (B := []) (O := [.no, .opt 3 [(2, .ld (.int .u8 ((y.l.getD 0 0).toNat : Int))), (3, .ld (.int .i64 ((y.l.getD 0 0).toNat : Int)))], .reg [(4, .no), (5, .no), (6, .no), (7, .no), (8, .yes)], .yes]) (.app (.nil _) (.app (hy) (.app (.nil _) (.nil _)))) (⟨(ne_z h0), ⟨y.idx (by decide) (Int.ofNat_lt.2 h0), ⟨y.load 0 rfl h0 (by intro q h; simp [h]), ⟨ld_u8 _ _, ⟨y.cut1 h0, ⟨gft (decide_eq_true h1), ⟨gft (decide_eq_true h1), ⟨gft (decide_eq_true h1), ⟨gft (decide_eq_true h1), ⟨(decide_eq_true h1), ⟨rfl, ⟨(), rfl, nofun⟩⟩⟩⟩⟩⟩⟩⟩⟩⟩⟩⟩)
theorem c_sig_c (y : Byt) (m : Int) (A : Facts) (hy : Sub y.L A) (h0 : 0 < y.n) (h1 : ((y.l.getD 0 0).toNat : Int) ≤ m) (h2 : y.n - 1 < (y.l.getD 0 0).toNat) : Gives Try.prog 42 [y.v, .int .i64 m] A (Unit) (fun _ => .tuple #[.slice none 0 0, .bool false]) (fun _ => []) :=
  gives_of_vcF Try.mixed good_wire_significantBytes (args := [(y.v, y.L), (.int .i64 m, [])]) (B := []) (O := [.no, .opt 3 [(2, .ld (.int .u8 ((y.l.getD 0 0).toNat : Int))), (3, .ld (.int .i64 ((y.l.getD 0 0).toNat : Int)))], .reg [(4, .yes), (5, .yes), (6, .yes), (7, .yes), (8, .no)], .yes]) (.app (.nil _) (.app (hy) (.app (.nil _) (.nil _)))) (⟨(ne_z h0), ⟨y.idx (by decide) (Int.ofNat_lt.2 h0), ⟨y.load 0 rfl h0 (by intro q h; simp [h]), ⟨ld_u8 _ _, ⟨y.cut1 h0, ⟨gff (gt_f h1), ⟨gff (gt_f h1), ⟨gff (gt_f h1), ⟨gff (gt_f h1), ⟨(gt_f h1), ⟨(gt_c h2), ⟨(), rfl, nofun⟩⟩⟩⟩⟩⟩⟩⟩⟩⟩⟩⟩)
theorem c_sig_d (y : Byt) (m : Int) (A : Facts) (hy : Sub y.L A) (h0 : 0 < y.n) (h1 : ((y.l.getD 0 0).toNat : Int) ≤ m) (h2 : (y.l.getD 0 0).toNat ≤ y.n - 1) (h3 : 0 < (y.l.getD 0 0).toNat) (h4 : (y.l.getD 1 0).toNat = 0) : Gives Try.prog 42 [y.v, .int .i64 m] A (Unit) (fun _ => .tuple #[.slice none 0 0, .bool false]) (fun _ => []) :=
  gives_of_vcF Try.mixed good_wire_significantBytes (args := [(y.v, y.L), (.int .i64 m, [])]) (B := []) (O := [.no, .opt 3 [(2, .ld (.int .u8 ((y.l.getD 0 0).toNat : Int))), (3, .ld (.int .i64 ((y.l.getD 0 0).toNat : Int)))], .reg [(4, .yes), (5, .yes), (6, .yes), (7, .yes), (8, .no)], .no, .reg [(3, .yes), (4, .yes), (5, .ld (.int .u8 ((y.l.getD 1 0).toNat : Int))), (6, .yes), (7, .yes)], .yes]) (.app (.nil _) (.app (hy) (.app (.nil _) (.nil _)))) (⟨(ne_z h0), ⟨y.idx (by decide) (Int.ofNat_lt.2 h0), ⟨y.load 0 rfl h0 (by intro q h; simp [h]), ⟨ld_u8 _ _, ⟨y.cut1 h0, ⟨gff (gt_f h1), ⟨gff (gt_f h1), ⟨gff (gt_f h1), ⟨gff (gt_f h1), ⟨(gt_f h1), ⟨(gt_d h2), ⟨gtt (gt_0 h3), ⟨⟨gtt (gt_0 h3), (y.tail h0).idx (by decide) (y.tail_1 h0 h2 h3)⟩, ⟨⟨gtt (gt_0 h3), y.load1 h0 h2 h3 (by intro q h; simp [h])⟩, ⟨gtt (gt_0 h3), ⟨(gt_0 h3), ⟨(eq_z h4), ⟨(), rfl, nofun⟩⟩⟩⟩⟩⟩⟩⟩⟩⟩⟩⟩⟩⟩⟩⟩⟩⟩)
theorem c_sig_e (y : Byt) (m : Int) (A : Facts) (hy : Sub y.L A) (h0 : 0 < y.n) (h1 : ((y.l.getD 0 0).toNat : Int) ≤ m) (h2 : (y.l.getD 0 0).toNat ≤ y.n - 1) (h3 : (y.l.getD 0 0).toNat = 0) : Gives Try.prog 42 [y.v, .int .i64 m] A (Unit) (fun _ => .tuple #[(y.sig h0 (y.l.getD 0 0).toNat h2).v, .bool true]) (fun _ => y.L) :=
  gives_of_vcF Try.mixed good_wire_significantBytes (args := [(y.v, y.L), (.int .i64 m, [])]) (B := []) (O := [.no, .opt 3 [(2, .ld (.int .u8 ((y.l.getD 0 0).toNat : Int))), (3, .ld (.int .i64 ((y.l.getD 0 0).toNat : Int)))], .reg [(4, .yes), (5, .yes), (6, .yes), (7, .yes), (8, .no)], .no, .reg [(3, .no), (4, .no), (5, .no), (6, .no), (7, .no)], .no]) (.app (.nil _) (.app (hy) (.app (.nil _) (.nil _)))) (⟨(ne_z h0), ⟨y.idx (by decide) (Int.ofNat_lt.2 h0), ⟨y.load 0 rfl h0 (by intro q h; simp [h]), ⟨ld_u8 _ _, ⟨y.cut1 h0, ⟨gff (gt_f h1), ⟨gff (gt_f h1), ⟨gff (gt_f h1), ⟨gff (gt_f h1), ⟨(gt_f h1), ⟨(gt_d h2), ⟨gtf (le_0 h3), ⟨gtf (le_0 h3), ⟨gtf (le_0 h3), ⟨gtf (le_0 h3), ⟨(le_0 h3), ⟨rfl, ⟨y.cutc h0 h2, ⟨(), rfl, fun _ h => List.mem_append.2 (.inl h)⟩⟩⟩⟩⟩⟩⟩⟩⟩⟩⟩⟩⟩⟩⟩⟩⟩⟩⟩)
theorem c_sig_f (y : Byt) (m : Int) (A : Facts) (hy : Sub y.L A) (h0 : 0 < y.n) (h1 : ((y.l.getD 0 0).toNat : Int) ≤ m) (h2 : (y.l.getD 0 0).toNat ≤ y.n - 1) (h3 : 0 < (y.l.getD 0 0).toNat) (h4 : 0 < (y.l.getD 1 0).toNat) : Gives Try.prog 42 [y.v, .int .i64 m] A (Unit) (fun _ => .tuple #[(y.sig h0 (y.l.getD 0 0).toNat h2).v, .bool true]) (fun _ => y.L) :=
  gives_of_vcF Try.mixed good_wire_significantBytes (args := [(y.v, y.L), (.int .i64 m, [])]) (B := []) (O := [.no, .opt 3 [(2, .ld (.int .u8 ((y.l.getD 0 0).toNat : Int))), (3, .ld (.int .i64 ((y.l.getD 0 0).toNat : Int)))], .reg [(4, .yes), (5, .yes), (6, .yes), (7, .yes), (8, .no)], .no, .reg [(3, .yes), (4, .yes), (5, .ld (.int .u8 ((y.l.getD 1 0).toNat : Int))), (6, .yes), (7, .yes)], .no]) (.app (.nil _) (.app (hy) (.app (.nil _) (.nil _)))) (⟨(ne_z h0), ⟨y.idx (by decide) (Int.ofNat_lt.2 h0), ⟨y.load 0 rfl h0 (by intro q h; simp [h]), ⟨ld_u8 _ _, ⟨y.cut1 h0, ⟨gff (gt_f h1), ⟨gff (gt_f h1), ⟨gff (gt_f h1), ⟨gff (gt_f h1), ⟨(gt_f h1), ⟨(gt_d h2), ⟨gtt (gt_0 h3), ⟨⟨gtt (gt_0 h3), (y.tail h0).idx (by decide) (y.tail_1 h0 h2 h3)⟩, ⟨⟨gtt (gt_0 h3), y.load1 h0 h2 h3 (by intro q h; simp [h])⟩, ⟨gtt (gt_0 h3), ⟨(gt_0 h3), ⟨(ne_z h4), ⟨y.cutc h0 h2, ⟨(), rfl, fun _ h => List.mem_append.2 (.inl h)⟩⟩⟩⟩⟩⟩⟩⟩⟩⟩⟩⟩⟩⟩⟩⟩⟩⟩⟩)
end Go.Proofs.Ytfpigcaihmlelaa

