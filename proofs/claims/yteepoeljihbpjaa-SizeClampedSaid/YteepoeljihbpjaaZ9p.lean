/- Package lz over this translation and its reference: literals appended. No conditions. -/
import Derived.Test.YteepoeljihbpjaaZ9b
namespace Go.Proofs.Yteepoeljihbpjaa
open Go.RowKit Sx
set_option maxRecDepth 100000

theorem gt_t {n : Nat} (g : decide ((n : Int) > 0) = true) : 0 < n := by have := of_decide_eq_true g; omega
theorem gt_n0 {n : Nat} (g : decide ((n : Int) > 0) = false) : n = 0 := by have := of_decide_eq_false g; omega
section
variable {ρ : Operand → Value} {dst : Option Tmp} {type : TypeId} {pos : String} {after : Array Edge} {guard : Option (Nat × Bool)}
theorem ld_min (a b : Nat) (A : Facts) {x y : Operand} (hx : ρ x = .int .i64 (a : Int) := by rfl) (hy : ρ y = .int .i64 (b : Int) := by rfl) :
    ∀ w, Sx.Holds w A → (execOp ρ ⟨dst, .call ⟨.builtin .min, #[x, y], #[3, 3]⟩, type, pos, after, guard⟩).run Try.prog w = .ok (.value (.int .i64 ((min a b : Nat) : Int))) w := by
  intro w _
  simp only [execOp, resolve, invoke, builtin]
  simp [Builtin.min_, Builtin.min2, hx, hy]
  split <;> omega
theorem ld_max (a b : Nat) (A : Facts) {x y : Operand} (hx : ρ x = .int .i64 (a : Int) := by rfl) (hy : ρ y = .int .i64 (b : Int) := by rfl) :
    ∀ w, Sx.Holds w A → (execOp ρ ⟨dst, .call ⟨.builtin .max, #[x, y], #[3, 3]⟩, type, pos, after, guard⟩).run Try.prog w = .ok (.value (.int .i64 ((max a b : Nat) : Int))) w := by
  intro w _
  simp only [execOp, resolve, invoke, builtin]
  simp [Builtin.max_, Builtin.max2, hx, hy]
  split <;> omega
/-- A number's last byte. -/
theorem ld_cv8 {z : Int} (b : UInt8) (h : IntKind.u8.wrap z = (b.toNat : Int)) (A : Facts) {X : Operand} (hx : ρ X = .int .i64 z := by rfl) :
    ∀ w, Sx.Holds w A → (execOp ρ ⟨dst, .convert 3 5 X, type, pos, after, guard⟩).run Try.prog w = .ok (.value (.int .u8 (b.toNat : Int))) w := by
  intro w _
  have e : execOp ρ ⟨dst, .convert 3 5 X, type, pos, after, guard⟩ = (do let v ← convert 3 5 (ρ X); pure (.value v)) := rfl
  rw [e, hx]
  simp [convert, run_underlying Try.underlying3, run_underlying Try.underlying5, Conv.intToInt, h]
end
theorem wrap8 (n : Nat) : IntKind.u8.wrap (n : Int) = (((UInt8.ofNat n).toNat : Nat) : Int) := by rw [UInt8.toNat_ofNat']; simp [IntKind.wrap, IntKind.bits, IntKind.signed]
theorem wrap8' {z : Int} (n : Nat) (h : z = (n : Int)) : IntKind.u8.wrap z = (((UInt8.ofNat n).toNat : Nat) : Int) := by subst h; exact wrap8 n
theorem wrap8m {z : Int} (n : Nat) (h : z = (n : Int)) : IntKind.u8.wrap z = (((UInt8.ofNat (n % 256)).toNat : Nat) : Int) := by
  subst h
  rw [wrap8, UInt8.toNat_ofNat', UInt8.toNat_ofNat']
  omega
theorem sub_n9 {a b : Nat} (h : b ≤ a) (ha : a ≤ 9223372036854775807) : IntKind.i64.wrap ((a : Int) - (b : Int)) = ((a - b : Nat) : Int) := by
  rw [show ((a : Int) - (b : Int)) = ((a - b : Nat) : Int) by omega, wrap_nat (by omega)]
theorem add_n9 {a b : Nat} (ha : a + b ≤ 9223372036854775807) : IntKind.i64.wrap ((a : Int) + (b : Int)) = ((a + b : Nat) : Int) := by
  rw [show ((a : Int) + (b : Int)) = ((a + b : Nat) : Int) by omega, wrap_nat (by omega)]
theorem fdiv_pow (n k : Nat) (hk : k ≤ 64) : (n : Int).fdiv (2 ^ (min ((k : Nat) : Int).toNat IntKind.i64.bits)) = ((n / 2 ^ k : Nat) : Int) := by
  rw [Int.toNat_natCast, Nat.min_eq_left (by show _ ≤ 64; exact hk), show ((2 : Int) ^ k) = ((2 ^ k : Nat) : Int) by simp]
  exact (Int.ofNat_fdiv n (2 ^ k)).symm

/-- Where the writing of literals stands. -/
structure LitS (l : Bs) (y : Byt) where
  z : Byt
  hz : z.L = y.L
  hk : z.n ≤ y.n
  o : Bs
  q : PV o
  e : o ++ lits z.l = l ++ lits y.l
def lit0 {l : Bs} (y : Byt) (q : PV l) : LitS l y := ⟨y, rfl, Nat.le_refl _, l, q, rfl⟩
section
variable {l : Bs} {y : Byt} (x : LitS l y)
theorem LitS.ol : x.o.length ≤ l.length + (y.n + (y.n + 126) / 127) := by
  have := congrArg List.length x.e
  rw [List.length_append, List.length_append, lits_len _ _ (Nat.le_refl _), lits_len _ _ (Nat.le_refl _), y.hl] at this
  omega
theorem LitS.ho (hn : l.length + y.n ≤ 1000000000) : x.o.length + 1 ≤ 1099511627776 := by have := x.ol; omega
theorem LitS.cl {c : Nat} (hc : c = min x.z.n 127) : c ≤ x.z.n := by omega
theorem LitS.ho2 (hn : l.length + y.n ≤ 1000000000) {c : Nat} (hc : c = min x.z.n 127) (b : UInt8) : (x.o ++ [b]).length + (x.z.sub 0 c (Nat.zero_le _) (x.cl hc)).n ≤ 1099511627776 := by
  have := x.ol
  show _ + (c - 0) ≤ _
  rw [List.length_append]
  simp only [List.length_cons, List.length_nil]
  omega
theorem LitS.sub {A : Facts} (hy : Sub y.L A) {c : Nat} (hc : c = min x.z.n 127) : Sub (x.z.sub 0 c (Nat.zero_le _) (x.cl hc)).L A := by
  show Sub x.z.L A
  rw [x.hz]; exact hy
theorem LitS.step {c : Nat} (hc : c = min x.z.n 127) (h0 : 0 < x.z.n) : ((x.o ++ [UInt8.ofNat c]) ++ (x.z.sub 0 c (Nat.zero_le _) (x.cl hc)).l) ++ lits (x.z.sub c x.z.n (x.cl hc) (Nat.le_refl _)).l = l ++ lits y.l := by
  have hl := x.z.hl
  rw [← x.e, lits_cons (l := x.z.l) (by omega)]
  show (x.o ++ [UInt8.ofNat c]) ++ (x.z.l.drop 0).take (c - 0) ++ lits ((x.z.l.drop c).take (x.z.n - c)) = _
  have e1 : (x.z.l.drop 0).take (c - 0) = x.z.l.take 127 := by
    rw [List.drop_zero, Nat.sub_zero]
    by_cases h : x.z.n ≤ 127
    · rw [List.take_of_length_le (by omega), List.take_of_length_le (by omega)]
    · rw [show c = 127 by omega]
  have e2 : (x.z.l.drop c).take (x.z.n - c) = x.z.l.drop 127 := by
    rw [List.take_of_length_le (by rw [List.length_drop]; omega)]
    by_cases h : x.z.n ≤ 127
    · rw [List.drop_of_length_le (by omega), List.drop_of_length_le (by omega)]
    · rw [show c = 127 by omega]
  rw [e1, e2, hl, ← hc]
  simp
def LitS.next {c : Nat} (hc : c = min x.z.n 127) (h0 : 0 < x.z.n) (w : PV ((x.o ++ [UInt8.ofNat c]) ++ (x.z.sub 0 c (Nat.zero_le _) (x.cl hc)).l)) : LitS l y :=
  ⟨x.z.sub c x.z.n (x.cl hc) (Nat.le_refl _), x.hz, by have := x.hk; show x.z.n - c ≤ y.n; omega, _, w, x.step hc h0⟩
theorem LitS.next_mu {c : Nat} (hc : c = min x.z.n 127) (h0 : 0 < x.z.n) (w : PV ((x.o ++ [UInt8.ofNat c]) ++ (x.z.sub 0 c (Nat.zero_le _) (x.cl hc)).l)) : (x.next hc h0 w).z.n < x.z.n := by
  show x.z.n - c < x.z.n
  omega
theorem LitS.fin (h : x.z.n = 0) : x.o = l ++ lits y.l := by
  have : x.z.l = [] := List.length_eq_zero_iff.1 (by rw [x.z.hl, h])
  have e := x.e
  rw [this, lits_nil, List.append_nil] at e
  exact e
theorem LitS.cut_a {c : Nat} (hc : c = min x.z.n 127) : (0 : Int) ≤ 0 ∧ (0 : Int) ≤ (c : Int) ∧ (c : Int) ≤ (x.z.cap : Int) := by have := x.z.hc; omega
theorem LitS.cut_b {c : Nat} (hc : c = min x.z.n 127) : (0 : Int) ≤ (c : Int) ∧ (c : Int) ≤ (x.z.n : Int) ∧ (x.z.n : Int) ≤ (x.z.cap : Int) := by have := x.z.hc; omega
end
theorem min_y {n : Nat} (h : decide ((n : Int) > 127) = true) : 127 = min n 127 := by have := of_decide_eq_true h; omega
theorem min_n {n : Nat} (h : decide ((n : Int) > 127) = false) : n = min n 127 := by have := of_decide_eq_false h; omega
theorem good_lz_appendLiterals : Good Try.prog 22 Try.f22 2 := ⟨Try.func22, by kernel_rfl, by kernel_rfl⟩
theorem z_lits {l : Bs} (q : PV l) (y : Byt) (A : Facts) (hy : Sub y.L A) (hn : l.length + y.n ≤ 1000000000) : CallT Try.prog 22 [bV l q, y.v] A (bT l q) (PV (l ++ lits y.l)) (fun p => bV (l ++ lits y.l) p) (fun _ => []) (fun p => bT (l ++ lits y.l) p) :=
  givesT_of_vcF Try.mixed good_lz_appendLiterals (args := [(bV l q, []), (y.v, y.L)]) (B := A) (O := [.invT (LitS l y) (fun x : LitS l y => ⟨26, [(0, .v (bV x.o x.q) []), (1, .v x.z.v y.L)], [], 0⟩) (fun x => [(0, bT x.o x.q)]) (fun x => x.z.n) (fun x => [.both [.opt 2 [(2, .ld (.int .i64 (((min x.z.n 127) : Nat) : Int)))], .opt 3 [(2, .ld (.int .u8 ((UInt8.ofNat (min x.z.n 127)).toNat : Int))), (3, .call Nat 0 (fun m => (Byt.row m [UInt8.ofNat (min x.z.n 127)]).v) (fun m => (Byt.row m [UInt8.ofNat (min x.z.n 127)]).L)), (4, .thg 0 (PV (x.o ++ [UInt8.ofNat (min x.z.n 127)])) (pv0 _) (fun q => bV (x.o ++ [UInt8.ofNat (min x.z.n 127)]) q) (fun _ => []) (fun q => bT (x.o ++ [UInt8.ofNat (min x.z.n 127)]) q))], .opt 4 [(4, .thg 0 (PV ((x.o ++ [UInt8.ofNat (min x.z.n 127)]) ++ (x.z.sub 0 (min x.z.n 127) (Nat.zero_le _) (x.cl rfl)).l)) (pv0 _) (fun q => bV ((x.o ++ [UInt8.ofNat (min x.z.n 127)]) ++ (x.z.sub 0 (min x.z.n 127) (Nat.zero_le _) (x.cl rfl)).l) q) (fun _ => []) (fun q => bT ((x.o ++ [UInt8.ofNat (min x.z.n 127)]) ++ (x.z.sub 0 (min x.z.n 127) (Nat.zero_le _) (x.cl rfl)).l) q))]] []])]) (.app ((.refl _)) (.app (.nil _) (.app (hy) (.nil _)))) (⟨⟨lit0 y q, ⟨rfl, ⟨⟨rfl, nofun⟩, ⟨rfl, fun _ h => h⟩, trivial⟩, trivial⟩, ⟨fun _ g => g, trivial⟩⟩, fun x => ⟨fun g => ⟨ld_min x.z.n 127 _, ⟨ld_conv8 (min x.z.n 127) _, ⟨build_1 (UInt8.ofNat (min x.z.n 127)) _, fun r => ⟨app_p (Byt.row r [UInt8.ofNat (min x.z.n 127)]) (by intro zz h; have h : zz ∈ (Byt.row r [UInt8.ofNat (min x.z.n 127)]).L := h; exact List.mem_append.2 (.inr (by simpa using h))) (x.ho hn), fun w1 => ⟨x.cut_a rfl, ⟨app_p (x.z.sub 0 (min x.z.n 127) (Nat.zero_le _) (x.cl rfl)) (x.sub (by intro q h; have h : q ∈ y.L := h; simp [h]) rfl) (x.ho2 hn rfl _), fun w2 => ⟨x.cut_b rfl, ⟨x.next rfl (gt_t g) w2, x.next_mu rfl (gt_t g) w2, ⟨rfl, ⟨⟨rfl, nofun⟩, ⟨rfl, fun _ h => h⟩, trivial⟩, trivial⟩, ⟨fun _ g => g, trivial⟩⟩⟩⟩⟩⟩⟩⟩⟩, fun g => ⟨x.q.cast (x.fin (gt_n0 g)), bV_cast _ _, nofun, bT_cast _ _, trivial⟩⟩⟩)
theorem good_pontageref9_literals : Good Try.prog 27 Try.f27 2 := ⟨Try.func27, by kernel_rfl, by kernel_rfl⟩
theorem t_lits {l : Bs} (q : PV l) (y : Byt) (A : Facts) (hy : Sub y.L A) (hn : l.length + y.n ≤ 1000000000) : CallT Try.prog 27 [bV l q, y.v] A (bT l q) (PV (l ++ lits y.l)) (fun p => bV (l ++ lits y.l) p) (fun _ => []) (fun p => bT (l ++ lits y.l) p) :=
  givesT_of_vcF Try.mixed good_pontageref9_literals (args := [(bV l q, []), (y.v, y.L)]) (B := A) (O := [.invT (LitS l y) (fun x : LitS l y => ⟨26, [(0, .v (bV x.o x.q) []), (1, .v x.z.v y.L)], [], 0⟩) (fun x => [(0, bT x.o x.q)]) (fun x => x.z.n) (fun x => [.both [.both [.opt 5 [(2, .ld (.int .u8 ((UInt8.ofNat 127).toNat : Int))), (3, .call Nat 0 (fun m => (Byt.row m [UInt8.ofNat 127]).v) (fun m => (Byt.row m [UInt8.ofNat 127]).L)), (4, .thg 0 (PV (x.o ++ [UInt8.ofNat 127])) (pv0 _) (fun q => bV (x.o ++ [UInt8.ofNat 127]) q) (fun _ => []) (fun q => bT (x.o ++ [UInt8.ofNat 127]) q)), (8, .thg 0 (PV ((x.o ++ [UInt8.ofNat 127]) ++ ((x.z.l.drop 0).take (127 - 0)))) (pv0 _) (fun q => bV ((x.o ++ [UInt8.ofNat 127]) ++ ((x.z.l.drop 0).take (127 - 0))) q) (fun _ => []) (fun q => bT ((x.o ++ [UInt8.ofNat 127]) ++ ((x.z.l.drop 0).take (127 - 0))) q))]] [.opt 5 [(2, .ld (.int .u8 ((UInt8.ofNat x.z.n).toNat : Int))), (3, .call Nat 0 (fun m => (Byt.row m [UInt8.ofNat x.z.n]).v) (fun m => (Byt.row m [UInt8.ofNat x.z.n]).L)), (4, .thg 0 (PV (x.o ++ [UInt8.ofNat x.z.n])) (pv0 _) (fun q => bV (x.o ++ [UInt8.ofNat x.z.n]) q) (fun _ => []) (fun q => bT (x.o ++ [UInt8.ofNat x.z.n]) q)), (8, .thg 0 (PV ((x.o ++ [UInt8.ofNat x.z.n]) ++ ((x.z.l.drop 0).take (x.z.n - 0)))) (pv0 _) (fun q => bV ((x.o ++ [UInt8.ofNat x.z.n]) ++ ((x.z.l.drop 0).take (x.z.n - 0))) q) (fun _ => []) (fun q => bT ((x.o ++ [UInt8.ofNat x.z.n]) ++ ((x.z.l.drop 0).take (x.z.n - 0))) q))]]] []])]) (.app ((.refl _)) (.app (.nil _) (.app (hy) (.nil _)))) (⟨⟨lit0 y q, ⟨rfl, ⟨⟨rfl, nofun⟩, ⟨rfl, fun _ h => h⟩, trivial⟩, trivial⟩, ⟨fun _ g => g, trivial⟩⟩, fun x => ⟨fun g => ⟨fun g2 => ⟨ld_conv8 127 _, ⟨build_1 (UInt8.ofNat 127) _, fun r => ⟨app_p (Byt.row r [UInt8.ofNat 127]) (by intro zz h; have h : zz ∈ (Byt.row r [UInt8.ofNat 127]).L := h; exact List.mem_append.2 (.inr (by simpa using h))) (x.ho hn), fun w1 => ⟨x.cut_a (min_y g2), ⟨app_p (x.z.sub 0 127 (Nat.zero_le _) (x.cl (min_y g2))) (x.sub (by intro q h; have h : q ∈ y.L := h; simp [h]) (min_y g2)) (x.ho2 hn (min_y g2) _), fun w2 => ⟨x.cut_b (min_y g2), ⟨x.next (min_y g2) (gt_t g) w2, x.next_mu (min_y g2) (gt_t g) w2, ⟨rfl, ⟨⟨rfl, nofun⟩, ⟨rfl, fun _ h => h⟩, trivial⟩, trivial⟩, ⟨fun _ g => g, trivial⟩⟩⟩⟩⟩⟩⟩⟩, fun g2 => ⟨ld_conv8 x.z.n _, ⟨build_1 (UInt8.ofNat x.z.n) _, fun r => ⟨app_p (Byt.row r [UInt8.ofNat x.z.n]) (by intro zz h; have h : zz ∈ (Byt.row r [UInt8.ofNat x.z.n]).L := h; exact List.mem_append.2 (.inr (by simpa using h))) (x.ho hn), fun w1 => ⟨x.cut_a (min_n g2), ⟨app_p (x.z.sub 0 x.z.n (Nat.zero_le _) (x.cl (min_n g2))) (x.sub (by intro q h; have h : q ∈ y.L := h; simp [h]) (min_n g2)) (x.ho2 hn (min_n g2) _), fun w2 => ⟨x.cut_b (min_n g2), ⟨x.next (min_n g2) (gt_t g) w2, x.next_mu (min_n g2) (gt_t g) w2, ⟨rfl, ⟨⟨rfl, nofun⟩, ⟨rfl, fun _ h => h⟩, trivial⟩, trivial⟩, ⟨fun _ g => g, trivial⟩⟩⟩⟩⟩⟩⟩⟩⟩, fun g => ⟨x.q.cast (x.fin (gt_n0 g)), bV_cast _ _, nofun, bT_cast _ _, trivial⟩⟩⟩)
end Go.Proofs.Yteepoeljihbpjaa

