/- Package lz over this translation: Compress. No conditions. -/
import Derived.Test.YteepoeljihbpjaaZ9s
namespace Go.Proofs.Yteepoeljihbpjaa
open Go.RowKit Sx
set_option maxRecDepth 100000

/-- How many positions the index has when i bytes are done. -/
def cnt (n i : Nat) : Nat := min i (n - 3)
theorem z_lm (m : Nat) (y : Byt) (i : Nat) (hi : i ≤ y.n) (hn : y.n ≤ 100000000) (A : Facts) (hy : Sub y.L A) : CallR Try.prog 21 [.pointer (some ⟨m, 0, none⟩), y.v, .int .i64 ((i : Nat) : Int)] A (ixF m (icells y.l (cnt y.n i))) Unit (fun _ => mv (found y.l i)) (fun _ => []) := by
  rcases Nat.lt_or_ge (y.n - i) 4 with h | h
  · exact z_lm0 m y i hi hn A hy _ h
  · rw [show cnt y.n i = i by unfold cnt; omega]
    exact z_lm1 m y i hi hn A hy (by omega)
theorem z_add (m : Nat) (y : Byt) (i : Nat) (hi : i ≤ y.n) (hn : y.n ≤ 100000000) (A : Facts) (hy : Sub y.L A) : CallT Try.prog 24 [.pointer (some ⟨m, 0, none⟩), y.v, .int .i64 ((i : Nat) : Int)] A (fun F => F = ixF m (icells y.l (cnt y.n i))) Unit (fun _ => .tuple #[]) (fun _ => []) (fun _ F => F = ixF m (icells y.l (cnt y.n (i + 1)))) := by
  rcases Nat.lt_or_ge (y.n - i) 4 with h | h
  · rw [show cnt y.n (i + 1) = cnt y.n i by unfold cnt; omega]
    exact z_add0 m y i hi hn A hy _ h
  · rw [show cnt y.n i = i by unfold cnt; omega, show cnt y.n (i + 1) = i + 1 by unfold cnt; omega]
    exact z_add1 m y i hi hn A hy (by omega)
theorem ix_new (m : Nat) (l : Bs) (n : Nat) : [(m, Obj.cells (List.replicate 3072 (Value.int .i64 0)).toArray 47)] = ixF m (icells l (cnt n 0)) := by
  rw [ic_zero l, show cnt n 0 = 0 by unfold cnt; omega]
theorem ix_eq {m : Nat} {l : Bs} {n i j : Nat} (e : i = j) : ∀ F, F = ixF m (icells l (cnt n i)) → F = ixF m (icells l (cnt n j)) := by subst e; exact fun _ h => h
/-- Where the next round begins. -/
abbrev CoS.nx {y : Byt} (x : CoS y) : Nat := x.i + max (found y.l x.i).1 1
section
variable {y : Byt} (x : CoS y)
theorem CoS.nx_le (h : x.i < y.n) : x.nx ≤ y.n := by
  have := best_1 y.l x.i
  have hl := y.hl
  by_cases hp : 0 < (found y.l x.i).1
  · rw [CoS.nx, (found_pos hp).1]; omega
  · rw [CoS.nx]; omega
theorem CoS.nx_m (hp : 0 < (found y.l x.i).1) : x.nx = x.i + (best y.l x.i).1 := by
  have := found_pos hp
  rw [CoS.nx, this.1]; omega
def CoS.m' (h : x.i < y.n) (hp : 0 < (found y.l x.i).1) (w : PV ((x.o ++ lits (y.sub x.s x.i x.hs x.hi).l) ++ tok (found y.l x.i).1 (found y.l x.i).2)) : CoS y :=
  ⟨x.nx, x.nx, Nat.le_refl _, x.nx_le h, _, w, by
    rw [x.nx_m hp, (found_pos hp).1]
    have := (x.m h (found_pos hp).2 (pv0 _)).e
    exact this⟩
def CoS.lit' (h : x.i < y.n) (hp : ¬ 0 < (found y.l x.i).1) (w : PV x.o) : CoS y :=
  ⟨x.s, x.nx, by have := x.hs; rw [CoS.nx]; omega, x.nx_le h, x.o, w, by
    rw [show x.nx = x.i + 1 by rw [CoS.nx]; omega]
    exact (x.lit h (found_zero hp)).e⟩
theorem CoS.nx_mu (h : x.i < y.n) : y.n - x.nx < y.n - x.i := by rw [CoS.nx]; omega
theorem found_131 (l : Bs) (i : Nat) : (found l i).1 ≤ 131 := by
  by_cases hp : 0 < (found l i).1
  · rw [(found_pos hp).1]; exact (best_1 l i).1
  · omega
theorem found_d {l : Bs} {i : Nat} (hp : 0 < (found l i).1) : 1 ≤ (found l i).2 ∧ (found l i).2 ≤ 1024 := by
  have := found_pos hp
  rw [this.1]; exact best_d this.2
theorem CoS.ol4 (hn : y.n ≤ 100000000) : (x.o ++ lits (y.sub x.s x.i x.hs x.hi).l).length ≤ 1000000000 := x.ol3 hn
end
/-- How far the index has come, and where the output lies. -/
abbrev AddS (a b : Nat) (o : Bs) : Type := { j : Nat // a ≤ j ∧ j ≤ b } × PV o
theorem ge_of {a b j : Nat} (h : b ≤ j) (hj : a ≤ j ∧ j ≤ b) : j = b := by omega
theorem good_lz_Compress : Good Try.prog 14 Try.f14 1 := ⟨Try.func14, by kernel_rfl, by kernel_rfl⟩
theorem z_comp (y : Byt) (hn : y.n ≤ 100000000) (A : Facts) (hy : Sub y.L A) : CallT Try.prog 14 [y.v] A (fun G => G = []) (PV (comp y.l)) (fun p => bV (comp y.l) p) (fun _ => []) (fun p => bT (comp y.l) p) :=
  givesT_of_vcF Try.mixed good_lz_Compress (args := [(y.v, y.L)]) (B := A) (O := [.pubt 3 2 1 (fun _ => [.invT (CoS y × Nat) (fun x : CoS y × Nat => ⟨47, [(0, .v y.v y.L), (3, .v (bV x.1.o x.1.w) []), (4, .v (.pointer (some ⟨x.2, 0, none⟩)) []), (5, .v (.int .i64 ((x.1.s : Nat) : Int)) []), (6, .v (.int .i64 ((x.1.i : Nat) : Int)) [])], [], 60⟩) (fun x => [(0, bT x.1.o x.1.w), (1, fun F => F = ixF x.2 (icells y.l (cnt y.n x.1.i)))]) (fun x => y.n - x.1.i) (fun x => [.both [.reg [(2, .rdT 1 Unit () (fun _ => mv (found y.l x.1.i)) (fun _ => []))], .opt 7 [(3, .ld (.int .i64 ((max (found y.l x.1.i).1 1 : Nat) : Int))), (4, .ld (.int .i64 ((x.1.nx : Nat) : Int)))], .both [.reg [(5, .thg 0 (PV (x.1.o ++ lits (y.sub x.1.s x.1.i x.1.hs x.1.hi).l)) (pv0 _) (fun p => bV (x.1.o ++ lits (y.sub x.1.s x.1.i x.1.hs x.1.hi).l) p) (fun _ => []) (fun p => bT (x.1.o ++ lits (y.sub x.1.s x.1.i x.1.hs x.1.hi).l) p))], .reg [(2, .thg 0 (PV ((x.1.o ++ lits (y.sub x.1.s x.1.i x.1.hs x.1.hi).l) ++ tok (found y.l x.1.i).1 (found y.l x.1.i).2)) (pv0 _) (fun p => bV ((x.1.o ++ lits (y.sub x.1.s x.1.i x.1.hs x.1.hi).l) ++ tok (found y.l x.1.i).1 (found y.l x.1.i).2) p) (fun _ => []) (fun p => bT ((x.1.o ++ lits (y.sub x.1.s x.1.i x.1.hs x.1.hi).l) ++ tok (found y.l x.1.i).1 (found y.l x.1.i).2) p))], .invT (AddS x.1.i x.1.nx ((x.1.o ++ lits (y.sub x.1.s x.1.i x.1.hs x.1.hi).l) ++ tok (found y.l x.1.i).1 (found y.l x.1.i).2)) (fun z : AddS x.1.i x.1.nx ((x.1.o ++ lits (y.sub x.1.s x.1.i x.1.hs x.1.hi).l) ++ tok (found y.l x.1.i).1 (found y.l x.1.i).2) => ⟨47, [(0, .v y.v y.L), (3, .v (bV ((x.1.o ++ lits (y.sub x.1.s x.1.i x.1.hs x.1.hi).l) ++ tok (found y.l x.1.i).1 (found y.l x.1.i).2) z.2) []), (4, .v (.pointer (some ⟨x.2, 0, none⟩)) []), (5, .v (.int .i64 ((x.1.nx : Nat) : Int)) []), (6, .v (.int .i64 ((z.1.1 : Nat) : Int)) []), (8, .v (.int .i64 ((x.1.nx : Nat) : Int)) [])], [], 90⟩) (fun z => [(0, bT ((x.1.o ++ lits (y.sub x.1.s x.1.i x.1.hs x.1.hi).l) ++ tok (found y.l x.1.i).1 (found y.l x.1.i).2) z.2), (1, fun F => F = ixF x.2 (icells y.l (cnt y.n z.1.1)))]) (fun z => x.1.nx - z.1.1) (fun z => [.both [.reg [(2, .thg 1 Unit () (fun _ => .tuple #[]) (fun _ => []) (fun _ F => F = ixF x.2 (icells y.l (cnt y.n (z.1.1 + 1)))))]] []])] [.invT (AddS x.1.i x.1.nx x.1.o) (fun z : AddS x.1.i x.1.nx x.1.o => ⟨47, [(0, .v y.v y.L), (3, .v (bV x.1.o z.2) []), (4, .v (.pointer (some ⟨x.2, 0, none⟩)) []), (5, .v (.int .i64 ((x.1.s : Nat) : Int)) []), (6, .v (.int .i64 ((z.1.1 : Nat) : Int)) []), (8, .v (.int .i64 ((x.1.nx : Nat) : Int)) [])], [], 90⟩) (fun z => [(0, bT x.1.o z.2), (1, fun F => F = ixF x.2 (icells y.l (cnt y.n z.1.1)))]) (fun z => x.1.nx - z.1.1) (fun z => [.both [.reg [(2, .thg 1 Unit () (fun _ => .tuple #[]) (fun _ => []) (fun _ F => F = ixF x.2 (icells y.l (cnt y.n (z.1.1 + 1)))))]] []])]] [.reg [(4, .thg 0 (PV (x.1.o ++ lits (y.sub x.1.s y.n (Nat.le_trans x.1.hs x.1.hi) (Nat.le_refl _)).l)) (pv0 _) (fun p => bV (x.1.o ++ lits (y.sub x.1.s y.n (Nat.le_trans x.1.hs x.1.hi) (Nat.le_refl _)).l) p) (fun _ => []) (fun p => bT (x.1.o ++ lits (y.sub x.1.s y.n (Nat.le_trans x.1.hs x.1.hi) (Nat.le_refl _)).l) p))]]])])]) (.app ((.refl _)) (.app (hy) (.nil _))) (fun m => ⟨⟨(co0 y, m), ⟨rfl, ⟨⟨rfl, fun _ h => h⟩, ⟨rfl, nofun⟩, ⟨rfl, nofun⟩, ⟨rfl, nofun⟩, ⟨rfl, nofun⟩, trivial⟩, trivial⟩, ⟨fun _ g => g, fun _ g => g.trans ((by kernel_rfl : _ = [(m, Obj.cells (List.replicate 3072 (Value.int .i64 0)).toArray 47)]).trans (ix_new m y.l y.n)), trivial⟩⟩, fun x => ⟨fun g => ⟨fun _ g => by subst g; exact callR_op (z_lm x.2 y x.1.i x.1.hi hn _ (by intro q h; simp [h])) rfl rfl, fun _ => ⟨ld_max (found y.l x.1.i).1 1 _, ⟨ld_add (add_n9 (by have := found_131 y.l x.1.i; have := x.1.hi; omega)) _, ⟨fun g1 => ⟨cutC y x.1.hs x.1.hi, ⟨callT_op (z_lits x.1.w (y.sub x.1.s x.1.i x.1.hs x.1.hi) _ (by intro q h; have h : q ∈ y.L := h; simp [h]) (x.1.ol2 hn _ _ _ _)) rfl rfl, fun w1 => ⟨callT_op (z_match w1 (found y.l x.1.i).1 (found y.l x.1.i).2 (found_131 _ _) (found_d (gt_t g1)).1 (found_d (gt_t g1)).2 _ (x.1.ol4 hn)) rfl rfl, fun w2 => ⟨⟨(⟨x.1.i, Nat.le_refl _, Nat.le_add_right _ _⟩, w2), ⟨rfl, ⟨⟨rfl, fun _ h => h⟩, ⟨rfl, nofun⟩, ⟨rfl, nofun⟩, ⟨rfl, nofun⟩, ⟨rfl, nofun⟩, ⟨rfl, nofun⟩, trivial⟩, trivial⟩, ⟨fun _ g => g, fun _ g => g, trivial⟩⟩, fun z => ⟨fun g2 => ⟨callT_op (z_add x.2 y z.1.1 (by have := x.1.nx_le (lt_t g); have := lt_t g2; omega) hn _ (by intro q h; simp [h])) rfl rfl, fun _ => ⟨(⟨z.1.1 + 1, by have := z.1.2; omega, lt_t g2⟩, z.2), (by have := lt_t g2; show x.1.nx - (z.1.1 + 1) < x.1.nx - z.1.1; omega), ⟨rfl, ⟨⟨rfl, fun _ h => h⟩, ⟨rfl, nofun⟩, ⟨rfl, nofun⟩, ⟨rfl, nofun⟩, ⟨congrArg _ (add1 (by have := x.1.nx_le (lt_t g); have := lt_t g2; omega)), nofun⟩, ⟨rfl, nofun⟩, trivial⟩, trivial⟩, ⟨fun _ g => g, fun _ g => g, trivial⟩⟩⟩, fun g2 => ⟨(x.1.m' (lt_t g) (gt_t g1) z.2, x.2), x.1.nx_mu (lt_t g), ⟨rfl, ⟨⟨rfl, fun _ h => h⟩, ⟨rfl, nofun⟩, ⟨rfl, nofun⟩, ⟨rfl, nofun⟩, ⟨congrArg nv (ge_of (lt_f g2) z.1.2), nofun⟩, trivial⟩, trivial⟩, ⟨fun _ g => g, ix_eq (ge_of (lt_f g2) z.1.2), trivial⟩⟩⟩⟩⟩⟩⟩, fun g1 => ⟨⟨(⟨x.1.i, Nat.le_refl _, Nat.le_add_right _ _⟩, x.1.w), ⟨rfl, ⟨⟨rfl, fun _ h => h⟩, ⟨rfl, nofun⟩, ⟨rfl, nofun⟩, ⟨rfl, nofun⟩, ⟨rfl, nofun⟩, ⟨rfl, nofun⟩, trivial⟩, trivial⟩, ⟨fun _ g => g, fun _ g => g, trivial⟩⟩, fun z => ⟨fun g2 => ⟨callT_op (z_add x.2 y z.1.1 (by have := x.1.nx_le (lt_t g); have := lt_t g2; omega) hn _ (by intro q h; simp [h])) rfl rfl, fun _ => ⟨(⟨z.1.1 + 1, by have := z.1.2; omega, lt_t g2⟩, z.2), (by have := lt_t g2; show x.1.nx - (z.1.1 + 1) < x.1.nx - z.1.1; omega), ⟨rfl, ⟨⟨rfl, fun _ h => h⟩, ⟨rfl, nofun⟩, ⟨rfl, nofun⟩, ⟨rfl, nofun⟩, ⟨congrArg _ (add1 (by have := x.1.nx_le (lt_t g); have := lt_t g2; omega)), nofun⟩, ⟨rfl, nofun⟩, trivial⟩, trivial⟩, ⟨fun _ g => g, fun _ g => g, trivial⟩⟩⟩, fun g2 => ⟨(x.1.lit' (lt_t g) (Nat.not_lt.2 (Nat.le_of_eq (gt_n0 g1))) z.2, x.2), x.1.nx_mu (lt_t g), ⟨rfl, ⟨⟨rfl, fun _ h => h⟩, ⟨rfl, nofun⟩, ⟨rfl, nofun⟩, ⟨rfl, nofun⟩, ⟨congrArg nv (ge_of (lt_f g2) z.1.2), nofun⟩, trivial⟩, trivial⟩, ⟨fun _ g => g, ix_eq (ge_of (lt_f g2) z.1.2), trivial⟩⟩⟩⟩⟩⟩⟩⟩, fun g => ⟨cutB y (c := x.1.s) (Nat.le_trans x.1.hs x.1.hi), ⟨callT_op (z_lits x.1.w (y.sub x.1.s y.n (Nat.le_trans x.1.hs x.1.hi) (Nat.le_refl _)) _ (by intro q h; have h : q ∈ y.L := h; simp [h]) (x.1.ol2 hn _ _ _ _)) rfl rfl, fun w3 => ⟨w3.cast (x.1.fin (lt_f g)), bV_cast _ _, nofun, bT_cast _ _, trivial⟩⟩⟩⟩⟩)
end Go.Proofs.Yteepoeljihbpjaa

