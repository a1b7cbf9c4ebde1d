/- The reference of layer 9 over this translation. No conditions. -/
import Derived.Test.YteepoeljihbpjaaZ9q
namespace Go.Proofs.Yteepoeljihbpjaa
open Go.RowKit Sx
set_option maxRecDepth 100000

theorem big_of {a : Nat} (h : decide ((a : Int) > 65536) = true) : 65536 < a := by have := of_decide_eq_true h; omega
theorem big_no {a : Nat} (h : decide ((a : Int) > 65536) = false) : a ≤ 65536 := by have := of_decide_eq_false h; omega
theorem eq0_of {n : Nat} (h : ((n : Int) == 0) = true) : n = 0 := by simp at h; exact h
theorem ne0_of {n : Nat} (h : ((n : Int) == 0) = false) : ¬ n = 0 := by simp at h; exact h
theorem gtn_of {a b : Nat} (h : decide ((a : Int) > (b : Int)) = true) : b < a := by have := of_decide_eq_true h; omega
theorem gtn_no {a b : Nat} (h : decide ((a : Int) > (b : Int)) = false) : a ≤ b := by have := of_decide_eq_false h; omega
theorem len_t {a b : Nat} (h : a ≤ b) : decide ((a : Int) ≤ (b : Int)) = true := by apply decide_eq_true; omega
theorem len_f {a b : Nat} (h : ¬ a ≤ b) : decide ((a : Int) ≤ (b : Int)) = false := by apply decide_eq_false; omega
theorem len_of {a b : Nat} (h : decide ((a : Int) ≤ (b : Int)) = true) : a ≤ b := by have := of_decide_eq_true h; omega
theorem len_no {a b : Nat} (h : decide ((a : Int) ≤ (b : Int)) = false) : ¬ a ≤ b := by have := of_decide_eq_false h; omega
theorem quo256 {n : Nat} (h : n ≤ 1024) : IntKind.i64.wrap ((n : Int).tdiv 256) = ((n / 256 : Nat) : Int) := by
  rw [show ((n : Int).tdiv 256) = ((n / 256 : Nat) : Int) from rfl, wrap_nat (by omega)]
section
variable {ρ : Operand → Value} {dst : Option Tmp} {type : TypeId} {pos : String} {after : Array Edge} {guard : Option (Nat × Bool)}
theorem ld_mul9 {a b c : Int} (h : IntKind.i64.wrap (a * b) = c) (A : Facts) {x y : Operand} (hx : ρ x = .int .i64 a := by rfl) (hy : ρ y = .int .i64 b := by rfl) :
    ∀ w, Sx.Holds w A → (execOp ρ ⟨dst, .binOp .mul 3 x y 3, type, pos, after, guard⟩).run Try.prog w = .ok (.value (.int .i64 c)) w := by
  intro w _
  have e : execOp ρ ⟨dst, .binOp .mul 3 x y 3, type, pos, after, guard⟩ = (do let v ← binOp .mul 3 (ρ x) (ρ y); pure (.value v)) := rfl
  rw [e, hx, hy, ← h]
  rfl
end
theorem mul256 {a : UInt8} : IntKind.i64.wrap ((a.toNat : Int) * 256) = ((a.toNat * 256 : Nat) : Int) := by
  have ha := a.toNat_lt
  rw [show ((a.toNat : Int) * 256) = ((a.toNat * 256 : Nat) : Int) by omega, wrap_nat (by omega)]
theorem add_u8 {a b : UInt8} : IntKind.i64.wrap (((a.toNat * 256 : Nat) : Int) + (b.toNat : Int)) = ((a.toNat * 256 + b.toNat : Nat) : Int) := by
  have ha := a.toNat_lt
  have hb := b.toNat_lt
  rw [show (((a.toNat * 256 : Nat) : Int) + (b.toNat : Int)) = ((a.toNat * 256 + b.toNat : Nat) : Int) by omega, wrap_nat (by omega)]

/-! How long a match is. -/
/-- How far a match has been followed. -/
abbrev RunS (l : Bs) (i d lim : Nat) : Type := { n : Nat // n ≤ lim ∧ ∀ j, j < n → l.getD (i + j) 0 = l.getD (i + j - d) 0 }
def run0 (l : Bs) (i d lim : Nat) : RunS l i d lim := ⟨0, Nat.zero_le _, fun _ h => absurd h (Nat.not_lt_zero _)⟩
theorem u8_eq {a b : UInt8} (h : ((a.toNat : Int) == (b.toNat : Int)) = true) : a = b := by
  simp at h
  exact UInt8.toNat_inj.1 (by omega)
theorem u8_ne {a b : UInt8} (h : ((a.toNat : Int) == (b.toNat : Int)) = false) : a ≠ b := by
  intro e; subst e; simp at h
def RunS.next {l : Bs} {i d lim : Nat} (x : RunS l i d lim) (h : x.1 < lim) (e : ((((l.getD (i + x.1) 0).toNat : Nat) : Int) == (((l.getD (i + x.1 - d) 0).toNat : Nat) : Int)) = true) : RunS l i d lim :=
  ⟨x.1 + 1, h, fun j hj => by
    rcases Nat.lt_or_ge j x.1 with h1 | h1
    · exact x.2.2 j h1
    · rw [show j = x.1 by omega]; exact u8_eq e⟩
theorem RunS.stop {l : Bs} {i d lim : Nat} (x : RunS l i d lim) (e : ((((l.getD (i + x.1) 0).toNat : Nat) : Int) == (((l.getD (i + x.1 - d) 0).toNat : Nat) : Int)) = false) : Value.int .i64 (x.1 : Int) = .int .i64 ((mrun l d i lim : Nat) : Int) := by
  rw [mrun_of l d lim i x.1 x.2.1 x.2.2 (.inr (u8_ne e))]
theorem RunS.full {l : Bs} {i d lim : Nat} (x : RunS l i d lim) (h : ¬ x.1 < lim) : Value.int .i64 (x.1 : Int) = .int .i64 ((mrun l d i lim : Nat) : Int) := by
  have := x.2.1
  rw [mrun_of l d lim i x.1 x.2.1 x.2.2 (.inl (by omega))]

/-- Where the reference's Decompress stands. -/
structure DecK (y : Byt) where
  k : Nat
  hk : k ≤ y.n
  o : Bs
  w : PV o
  ho : o.length ≤ 65536
  e : decS o (y.l.drop k) = dec y.l
def deck0 (y : Byt) : DecK y := ⟨0, Nat.zero_le _, [], pvnil, by decide, rfl⟩
/-- The byte at which it stands. -/
abbrev DecK.t {y : Byt} (x : DecK y) : Nat := (y.l.getD x.k 0).toNat
section
variable {y : Byt} (x : DecK y)
theorem DecK.fin (h : y.n ≤ x.k) : dec y.l = (0, x.o) := by
  rw [← x.e, List.drop_of_length_le (by rw [y.hl]; exact h)]; rfl
theorem DecK.lit_0 (h : x.k < y.n) (h1 : (y.l.getD x.k 0).toNat = 0) : dec y.l = (3, []) := by
  rw [← x.e]; exact dec_lit_bad (by rw [y.hl]; exact h) (by omega) (.inl h1)
theorem DecK.lit_bad (h : x.k < y.n) (ht : (y.l.getD x.k 0).toNat < 128) (h1 : y.n - x.k - 1 < (y.l.getD x.k 0).toNat) : dec y.l = (3, []) := by
  rw [← x.e]; exact dec_lit_bad (by rw [y.hl]; exact h) ht (by rw [y.hl]; exact .inr h1)
theorem DecK.lit_big (h : x.k < y.n) (ht : (y.l.getD x.k 0).toNat < 128) (h0 : ¬ (y.l.getD x.k 0).toNat = 0) (h1 : (y.l.getD x.k 0).toNat ≤ y.n - x.k - 1) (h2 : 65536 < x.o.length + (y.l.getD x.k 0).toNat) : dec y.l = (6, []) := by
  rw [← x.e]; exact dec_lit_big (by rw [y.hl]; exact h) ht (by rw [y.hl]; omega) h2
theorem DecK.c1 (h : x.k < y.n) (h1 : (y.l.getD x.k 0).toNat ≤ y.n - x.k - 1) : x.k + 1 + (y.l.getD x.k 0).toNat ≤ y.n := by omega
def DecK.lit (h : x.k < y.n) (ht : (y.l.getD x.k 0).toNat < 128) (h0 : ¬ (y.l.getD x.k 0).toNat = 0) (h1 : (y.l.getD x.k 0).toNat ≤ y.n - x.k - 1) (h2 : x.o.length + (y.l.getD x.k 0).toNat ≤ 65536) (w : PV (x.o ++ (y.sub (x.k + 1) (x.k + 1 + (y.l.getD x.k 0).toNat) (Nat.le_add_right _ _) (x.c1 h h1)).l)) : DecK y :=
  ⟨x.k + 1 + (y.l.getD x.k 0).toNat, x.c1 h h1, _, w, by
    have e : (y.sub (x.k + 1) (x.k + 1 + (y.l.getD x.k 0).toNat) (Nat.le_add_right _ _) (x.c1 h h1)).l.length = x.k + 1 + (y.l.getD x.k 0).toNat - (x.k + 1) := (y.sub (x.k + 1) (x.k + 1 + (y.l.getD x.k 0).toNat) (Nat.le_add_right _ _) (x.c1 h h1)).hl
    rw [List.length_append, e]; omega, by
    rw [← x.e]
    refine Eq.trans ?_ (dec_lit (by rw [y.hl]; exact h) ht (by rw [y.hl]; omega) (by omega)).symm
    show decS (x.o ++ (y.l.drop (x.k + 1)).take (x.k + 1 + (y.l.getD x.k 0).toNat - (x.k + 1))) _ = _
    rw [Nat.add_sub_cancel_left]⟩
theorem DecK.m_short (h : x.k < y.n) (ht : ¬ (y.l.getD x.k 0).toNat < 128) (h1 : y.n - x.k < 3) : dec y.l = (3, []) := by
  rw [← x.e]; exact dec_m_short (by rw [y.hl]; exact h) ht (by rw [y.hl]; exact h1)
theorem DecK.m_far (ht : ¬ (y.l.getD x.k 0).toNat < 128) (h1 : ¬ y.n - x.k < 3) (h2 : x.o.length < tokD y.l x.k) : dec y.l = (3, []) := by
  rw [← x.e]; exact dec_m_far (by rw [y.hl]; omega) ht (by rw [y.hl]; exact h1) h2
theorem DecK.m_big (ht : ¬ (y.l.getD x.k 0).toNat < 128) (h1 : ¬ y.n - x.k < 3) (h2 : ¬ x.o.length < tokD y.l x.k) (h3 : 65536 < x.o.length + (y.l.getD x.k 0).toNat - 124) : dec y.l = (6, []) := by
  rw [← x.e]; exact dec_m_big (by rw [y.hl]; omega) ht (by rw [y.hl]; exact h1) h2 (by omega)
def DecK.m (ht : ¬ (y.l.getD x.k 0).toNat < 128) (h1 : ¬ y.n - x.k < 3) (h2 : ¬ x.o.length < tokD y.l x.k) (h3 : x.o.length + (y.l.getD x.k 0).toNat - 124 ≤ 65536) (w : PV (copyB x.o (tokD y.l x.k) ((y.l.getD x.k 0).toNat - 124))) : DecK y :=
  ⟨x.k + 3, by omega, _, w, by rw [copy_len]; omega, by
    rw [← x.e]
    exact (dec_m (by rw [y.hl]; omega) ht (by rw [y.hl]; exact h1) h2 (by omega)).symm⟩
end

/-- Where a Compress stands. -/
structure CoS (y : Byt) where
  s : Nat
  i : Nat
  hs : s ≤ i
  hi : i ≤ y.n
  o : Bs
  w : PV o
  e : o ++ compS y.l s i = comp y.l
def co0 (y : Byt) : CoS y := ⟨0, 0, Nat.le_refl _, Nat.zero_le _, [], pvnil, rfl⟩
section
variable {y : Byt} (x : CoS y)
theorem CoS.ol : x.o.length ≤ y.n + (y.n + 126) / 127 := by
  have h1 := congrArg List.length x.e
  have h2 := comp_bound y.l
  rw [List.length_append] at h1
  rw [y.hl] at h2
  omega
theorem CoS.ol2 (hn : y.n ≤ 100000000) (a b : Nat) (hab : a ≤ b) (hb : b ≤ y.n) : x.o.length + (y.sub a b hab hb).n ≤ 1000000000 := by
  have := x.ol
  show _ + (b - a) ≤ _
  omega
def CoS.lit (h : x.i < y.n) (h4 : (best y.l x.i).1 < 4) : CoS y := ⟨x.s, x.i + 1, Nat.le_succ_of_le x.hs, h, x.o, x.w, by rw [← x.e, comp_lit (by rw [y.hl]; exact h) h4]⟩
def CoS.m (h : x.i < y.n) (h4 : 4 ≤ (best y.l x.i).1) (w : PV ((x.o ++ lits (y.sub x.s x.i x.hs x.hi).l) ++ tok (best y.l x.i).1 (best y.l x.i).2)) : CoS y :=
  ⟨x.i + (best y.l x.i).1, x.i + (best y.l x.i).1, Nat.le_refl _, by have := best_1 y.l x.i; have := y.hl; omega, _, w, by
    rw [← x.e, comp_match (by rw [y.hl]; exact h) h4, List.append_assoc, List.append_assoc]; rfl⟩
theorem CoS.fin (h : y.n ≤ x.i) : x.o ++ lits (y.sub x.s y.n (Nat.le_trans x.hs x.hi) (Nat.le_refl _)).l = comp y.l := by
  rw [← x.e, comp_end (by rw [y.hl]; exact h)]
  show x.o ++ lits ((y.l.drop x.s).take (y.n - x.s)) = _
  rw [List.take_of_length_le (by rw [List.length_drop, y.hl]; exact Nat.le_refl _)]
theorem CoS.ol3 (hn : y.n ≤ 100000000) : (x.o ++ lits (y.sub x.s x.i x.hs x.hi).l).length ≤ 1000000000 := by
  have := x.ol
  rw [List.length_append, lits_len _ _ (Nat.le_refl _), (y.sub x.s x.i x.hs x.hi).hl]
  show _ + ((x.i - x.s) + ((x.i - x.s) + 126) / 127) ≤ _
  have := x.hi
  omega
end
theorem best_d {l : Bs} {i : Nat} (h : 4 ≤ (best l i).1) : 1 ≤ (best l i).2 ∧ (best l i).2 ≤ 1024 := by have := best_2 (l := l) (i := i) (by omega); omega
theorem bt_y {l : Bs} {i d : Nat} (h : (bestTo l i d).1 < mlen l i (d + 1)) : bestTo l i (d + 1) = (mlen l i (d + 1), d + 1) := by rw [bestTo, if_pos h]
theorem bt_n {l : Bs} {i d : Nat} (h : mlen l i (d + 1) ≤ (bestTo l i d).1) : bestTo l i (d + 1) = bestTo l i d := by rw [bestTo, if_neg (by omega)]
theorem bt_le {i d : Nat} (h1 : d + 1 ≤ 1024) (h2 : d + 1 ≤ i) : d + 1 ≤ min 1024 i := by omega
theorem bt_mu {i d : Nat} (h1 : d + 1 ≤ 1024) (h2 : d + 1 ≤ i) : min 1024 i - (d + 1) < min 1024 i - d := by omega
theorem bt_fin {l : Bs} {i d : Nat} (h : d ≤ min 1024 i) (h1 : 1024 ≤ d ∨ i ≤ d) : Value.tuple #[.int .i64 (((bestTo l i d).1 : Nat) : Int), .int .i64 (((bestTo l i d).2 : Nat) : Int)] = .tuple #[.int .i64 (((best l i).1 : Nat) : Int), .int .i64 (((best l i).2 : Nat) : Int)] := by
  unfold best; rw [show d = min 1024 i by omega]
theorem good_pontageref9_matchLength : Good Try.prog 34 Try.f34 3 := ⟨Try.func34, by kernel_rfl, by kernel_rfl⟩
theorem t_ml (y : Byt) (i dd : Nat) (hd : dd ≤ i) (h1 : 1 ≤ dd) (hi : i ≤ y.n) (hn : y.n ≤ 100000000) (A : Facts) (hy : Sub y.L A) : Gives Try.prog 34 [y.v, .int .i64 ((i : Nat) : Int), .int .i64 ((dd : Nat) : Int)] A (Unit) (fun _ => .int .i64 ((mrun y.l dd i (min 131 (y.n - i)) : Nat) : Int)) (fun _ => []) :=
  gives_of_vcF Try.mixed good_pontageref9_matchLength (args := [(y.v, y.L), (.int .i64 ((i : Nat) : Int), []), (.int .i64 ((dd : Nat) : Int), [])]) (B := []) (O := [.inv (RunS y.l i dd (min 131 (y.n - i))) (fun x : RunS y.l i dd (min 131 (y.n - i)) => ⟨38, [(0, .v y.v y.L), (1, .v (.int .i64 ((i : Nat) : Int)) []), (2, .v (.int .i64 ((dd : Nat) : Int)) []), (7, .v (.int .i64 ((x.1 : Nat) : Int)) [])], [], 10⟩) (fun x => (min 131 (y.n - i)) - x.1) (fun x => [.alt [(x.1 < 131 ∧ i + x.1 < y.n, [(3, .yes), (4, .yes), (5, .ld (.int .i64 ((i + x.1 : Nat) : Int))), (6, .yes), (7, .yes), (8, .yes), (9, .yes), (11, .yes), (12, .yes), (13, .yes), (14, .ld (.int .i64 ((i + x.1 : Nat) : Int))), (15, .yes), (16, .ld (.int .u8 ((y.l.getD (i + x.1) 0).toNat : Int))), (17, .yes), (18, .yes), (19, .yes), (20, .ld (.int .i64 ((i + x.1 : Nat) : Int))), (21, .yes), (22, .ld (.int .i64 ((i + x.1 - dd : Nat) : Int))), (23, .yes), (24, .ld (.int .u8 ((y.l.getD (i + x.1 - dd) 0).toNat : Int))), (25, .yes), (26, .yes)], [.both [] []]), (x.1 < 131, [(3, .yes), (4, .yes), (5, .ld (.int .i64 ((i + x.1 : Nat) : Int))), (6, .yes), (7, .yes), (8, .yes), (9, .yes), (11, .no), (12, .no), (13, .no), (14, .no), (15, .no), (16, .no), (17, .no), (18, .no), (19, .no), (20, .no), (21, .no), (22, .no), (23, .no), (24, .no), (25, .no), (26, .no)], [.no]), (True, [(3, .no), (4, .no), (5, .no), (6, .no), (7, .no), (8, .no), (9, .no), (11, .no), (12, .no), (13, .no), (14, .no), (15, .no), (16, .no), (17, .no), (18, .no), (19, .no), (20, .no), (21, .no), (22, .no), (23, .no), (24, .no), (25, .no), (26, .no)], [.no])]])]) (.app (.nil _) (.app (hy) (.app (.nil _) (.app (.nil _) (.nil _))))) (⟨⟨run0 _ _ _ _, rfl, ⟨⟨rfl, fun _ h => h⟩, ⟨rfl, nofun⟩, ⟨rfl, nofun⟩, ⟨rfl, nofun⟩, trivial⟩, trivial⟩, fun x => ⟨fun h1 => ⟨gtt (ltn_t (b := 131) h1.1), ⟨gtt (ltn_t (b := 131) h1.1), ⟨⟨gtt (ltn_t (b := 131) h1.1), ld_add (add_n9 (by omega)) _⟩, ⟨gtt (ltn_t (b := 131) h1.1), ⟨gtt (ltn_t (b := 131) h1.1), ⟨gtt (ltn_t (b := 131) h1.1), ⟨(ltn_t (b := 131) h1.1), ⟨gtt (ltn_t h1.2), ⟨gtt (ltn_t h1.2), ⟨gtt (ltn_t h1.2), ⟨⟨gtt (ltn_t h1.2), ld_add (add_n9 (by omega)) _⟩, ⟨⟨gtt (ltn_t h1.2), y.idx (Int.natCast_nonneg _) (Int.ofNat_lt.2 (show i + x.1 < y.n by omega))⟩, ⟨⟨gtt (ltn_t h1.2), y.load (i + x.1) rfl (by omega) (by intro q h; simp [h])⟩, ⟨gtt (ltn_t h1.2), ⟨gtt (ltn_t h1.2), ⟨gtt (ltn_t h1.2), ⟨⟨gtt (ltn_t h1.2), ld_add (add_n9 (by omega)) _⟩, ⟨gtt (ltn_t h1.2), ⟨⟨gtt (ltn_t h1.2), ld_sub (sub_n9 (by omega) (by omega)) _⟩, ⟨⟨gtt (ltn_t h1.2), y.idx (Int.natCast_nonneg _) (Int.ofNat_lt.2 (show i + x.1 - dd < y.n by omega))⟩, ⟨⟨gtt (ltn_t h1.2), y.load (i + x.1 - dd) rfl (by omega) (by intro q h; simp [h])⟩, ⟨gtt (ltn_t h1.2), ⟨(ltn_t h1.2), ⟨fun g => ⟨x.next (by omega) g, (by show (min 131 (y.n - i)) - (x.1 + 1) < (min 131 (y.n - i)) - x.1; omega), rfl, ⟨⟨rfl, fun _ h => h⟩, ⟨rfl, nofun⟩, ⟨rfl, nofun⟩, ⟨congrArg _ (add1 (by omega)), nofun⟩, trivial⟩, trivial⟩, fun g => ⟨(), x.stop g, nofun⟩⟩⟩⟩⟩⟩⟩⟩⟩⟩⟩⟩⟩⟩⟩⟩⟩⟩⟩⟩⟩⟩⟩⟩⟩, fun h1 => ⟨fun h2 => ⟨gtt (ltn_t (b := 131) h2), ⟨gtt (ltn_t (b := 131) h2), ⟨⟨gtt (ltn_t (b := 131) h2), ld_add (add_n9 (by omega)) _⟩, ⟨gtt (ltn_t (b := 131) h2), ⟨gtt (ltn_t (b := 131) h2), ⟨gtt (ltn_t (b := 131) h2), ⟨(ltn_t (b := 131) h2), ⟨gtf (ltn_f (by omega)), ⟨gtf (ltn_f (by omega)), ⟨gtf (ltn_f (by omega)), ⟨gtf (ltn_f (by omega)), ⟨gtf (ltn_f (by omega)), ⟨gtf (ltn_f (by omega)), ⟨gtf (ltn_f (by omega)), ⟨gtf (ltn_f (by omega)), ⟨gtf (ltn_f (by omega)), ⟨gtf (ltn_f (by omega)), ⟨gtf (ltn_f (by omega)), ⟨gtf (ltn_f (by omega)), ⟨gtf (ltn_f (by omega)), ⟨gtf (ltn_f (by omega)), ⟨gtf (ltn_f (by omega)), ⟨(ltn_f (by omega)), ⟨rfl, ⟨(), x.full (by omega), nofun⟩⟩⟩⟩⟩⟩⟩⟩⟩⟩⟩⟩⟩⟩⟩⟩⟩⟩⟩⟩⟩⟩⟩⟩⟩, fun h2 => ⟨fun h3 => ⟨gtf (ltn_f (b := 131) (by omega)), ⟨gtf (ltn_f (b := 131) (by omega)), ⟨gtf (ltn_f (b := 131) (by omega)), ⟨gtf (ltn_f (b := 131) (by omega)), ⟨gtf (ltn_f (b := 131) (by omega)), ⟨gtf (ltn_f (b := 131) (by omega)), ⟨(ltn_f (b := 131) (by omega)), ⟨gtf rfl, ⟨gtf rfl, ⟨gtf rfl, ⟨gtf rfl, ⟨gtf rfl, ⟨gtf rfl, ⟨gtf rfl, ⟨gtf rfl, ⟨gtf rfl, ⟨gtf rfl, ⟨gtf rfl, ⟨gtf rfl, ⟨gtf rfl, ⟨gtf rfl, ⟨gtf rfl, ⟨rfl, ⟨rfl, ⟨(), x.full (by omega), nofun⟩⟩⟩⟩⟩⟩⟩⟩⟩⟩⟩⟩⟩⟩⟩⟩⟩⟩⟩⟩⟩⟩⟩⟩⟩, fun h => (h trivial).elim⟩⟩⟩⟩)
theorem good_pontageref9_best : Good Try.prog 26 Try.f26 2 := ⟨Try.func26, by kernel_rfl, by kernel_rfl⟩
theorem t_ml9 (y : Byt) (i dd : Nat) (hd : dd ≤ i) (h1 : 1 ≤ dd) (hi : i ≤ y.n) (hn : y.n ≤ 100000000) (A : Facts) (hy : Sub y.L A) : Gives Try.prog 34 [y.v, .int .i64 ((i : Nat) : Int), .int .i64 ((dd : Nat) : Int)] A Unit (fun _ => .int .i64 ((mlen y.l i dd : Nat) : Int)) (fun _ => []) := by
  unfold mlen; rw [y.hl]; exact t_ml y i dd hd h1 hi hn A hy
theorem t_best (y : Byt) (i : Nat) (hi : i ≤ y.n) (hn : y.n ≤ 100000000) (A : Facts) (hy : Sub y.L A) : Gives Try.prog 26 [y.v, .int .i64 ((i : Nat) : Int)] A (Unit) (fun _ => .tuple #[.int .i64 (((best y.l i).1 : Nat) : Int), .int .i64 (((best y.l i).2 : Nat) : Int)]) (fun _ => []) :=
  gives_of_vcF Try.mixed good_pontageref9_best (args := [(y.v, y.L), (.int .i64 ((i : Nat) : Int), [])]) (B := []) (O := [.inv (Upto (min 1024 i)) (fun x : Upto (min 1024 i) => ⟨30, [(0, .v y.v y.L), (1, .v (.int .i64 ((i : Nat) : Int)) []), (6, .v (.int .i64 ((((bestTo y.l i x.1).1) : Nat) : Int)) []), (7, .v (.int .i64 ((((bestTo y.l i x.1).2) : Nat) : Int)) []), (8, .v (.int .i64 ((x.1 + 1 : Nat) : Int)) [])], [], 20⟩) (fun x => min 1024 i - x.1) (fun x => [.alt [(x.1 + 1 ≤ 1024, [(3, .yes), (4, .yes), (5, .yes), (6, .yes)], [.both [.reg [(3, det (.int .i64 (((mlen y.l i (x.1 + 1)) : Nat) : Int)))], .both [] []] []]), (True, [(3, .no), (4, .no), (5, .no), (6, .no)], [.no])]])]) (.app (.nil _) (.app (hy) (.app (.nil _) (.nil _)))) (⟨⟨⟨0, Nat.zero_le _⟩, rfl, ⟨⟨rfl, fun _ h => h⟩, ⟨rfl, nofun⟩, ⟨rfl, nofun⟩, ⟨rfl, nofun⟩, ⟨rfl, nofun⟩, trivial⟩, trivial⟩, fun x => ⟨fun h1 => ⟨gtt (len_t (b := 1024) h1), ⟨gtt (len_t (b := 1024) h1), ⟨gtt (len_t (b := 1024) h1), ⟨(len_t (b := 1024) h1), ⟨fun g0 => ⟨t_ml9 y i (x.1 + 1) (len_of g0) (Nat.le_add_left _ _) hi hn _ (by intro q h; simp [h]), fun _ => ⟨fun g => ⟨⟨x.1 + 1, bt_le h1 (len_of g0)⟩, bt_mu h1 (len_of g0), rfl, ⟨⟨rfl, fun _ h => h⟩, ⟨rfl, nofun⟩, ⟨congrArg (fun z : Nat × Nat => Value.int .i64 (z.1 : Int)) ((bt_y (gtn_of g)).symm), nofun⟩, ⟨congrArg (fun z : Nat × Nat => Value.int .i64 (z.2 : Int)) ((bt_y (gtn_of g)).symm), nofun⟩, ⟨congrArg _ (add1 (by have := x.2; omega)), nofun⟩, trivial⟩, trivial⟩, fun g => ⟨⟨x.1 + 1, bt_le h1 (len_of g0)⟩, bt_mu h1 (len_of g0), rfl, ⟨⟨rfl, fun _ h => h⟩, ⟨rfl, nofun⟩, ⟨congrArg (fun z : Nat × Nat => Value.int .i64 (z.1 : Int)) ((bt_n (gtn_no g)).symm), nofun⟩, ⟨congrArg (fun z : Nat × Nat => Value.int .i64 (z.2 : Int)) ((bt_n (gtn_no g)).symm), nofun⟩, ⟨congrArg _ (add1 (by have := x.2; omega)), nofun⟩, trivial⟩, trivial⟩⟩⟩, fun g0 => ⟨(), bt_fin x.2 (.inr (by have := len_no g0; omega)), nofun⟩⟩⟩⟩⟩⟩, fun h1 => ⟨fun h2 => ⟨gtf (len_f (b := 1024) h1), ⟨gtf (len_f (b := 1024) h1), ⟨gtf (len_f (b := 1024) h1), ⟨(len_f (b := 1024) h1), ⟨rfl, ⟨(), bt_fin x.2 (.inl (by omega)), nofun⟩⟩⟩⟩⟩⟩, fun h => (h trivial).elim⟩⟩⟩)
theorem good_pontageref9_Compress : Good Try.prog 17 Try.f17 1 := ⟨Try.func17, by kernel_rfl, by kernel_rfl⟩
theorem t_comp (y : Byt) (hn : y.n ≤ 100000000) (A : Facts) (hy : Sub y.L A) : CallT Try.prog 17 [y.v] A (fun G => G = []) (PV (comp y.l)) (fun p => bV (comp y.l) p) (fun _ => []) (fun p => bT (comp y.l) p) :=
  givesT_of_vcF Try.mixed good_pontageref9_Compress (args := [(y.v, y.L)]) (B := A) (O := [.invT (CoS y) (fun x : CoS y => ⟨51, [(0, .v y.v y.L), (3, .v (bV x.o x.w) []), (4, .v (.int .i64 ((x.s : Nat) : Int)) []), (5, .v (.int .i64 ((x.i : Nat) : Int)) [])], [], 10⟩) (fun x => [(0, bT x.o x.w)]) (fun x => y.n - x.i) (fun x => [.both [.reg [(2, det (.tuple #[.int .i64 (((best y.l x.i).1 : Nat) : Int), .int .i64 (((best y.l x.i).2 : Nat) : Int)]))], .both [] [.reg [(5, .thg 0 (PV (x.o ++ lits (y.sub x.s x.i x.hs x.hi).l)) (pv0 _) (fun p => bV (x.o ++ lits (y.sub x.s x.i x.hs x.hi).l) p) (fun _ => []) (fun p => bT (x.o ++ lits (y.sub x.s x.i x.hs x.hi).l) p))], .opt 8 [(2, .ld (.int .i64 (((best y.l x.i).1 + 124 : Nat) : Int))), (3, .ld (.int .u8 ((UInt8.ofNat ((best y.l x.i).1 + 124)).toNat : Int))), (5, .ld (.int .i64 (((best y.l x.i).2 - 1 : Nat) : Int))), (7, .ld (.int .u8 ((UInt8.ofNat (((best y.l x.i).2 - 1) / 256)).toNat : Int))), (9, .ld (.int .i64 (((best y.l x.i).2 - 1 : Nat) : Int))), (11, .ld (.int .u8 ((UInt8.ofNat (((best y.l x.i).2 - 1) % 256)).toNat : Int))), (12, .call Nat 0 (fun m => (Byt.row m [UInt8.ofNat ((best y.l x.i).1 + 124), UInt8.ofNat (((best y.l x.i).2 - 1) / 256), UInt8.ofNat (((best y.l x.i).2 - 1) % 256)]).v) (fun m => (Byt.row m [UInt8.ofNat ((best y.l x.i).1 + 124), UInt8.ofNat (((best y.l x.i).2 - 1) / 256), UInt8.ofNat (((best y.l x.i).2 - 1) % 256)]).L)), (13, .thg 0 (PV ((x.o ++ lits (y.sub x.s x.i x.hs x.hi).l) ++ [UInt8.ofNat ((best y.l x.i).1 + 124), UInt8.ofNat (((best y.l x.i).2 - 1) / 256), UInt8.ofNat (((best y.l x.i).2 - 1) % 256)])) (pv0 _) (fun q => bV ((x.o ++ lits (y.sub x.s x.i x.hs x.hi).l) ++ [UInt8.ofNat ((best y.l x.i).1 + 124), UInt8.ofNat (((best y.l x.i).2 - 1) / 256), UInt8.ofNat (((best y.l x.i).2 - 1) % 256)]) q) (fun _ => []) (fun q => bT ((x.o ++ lits (y.sub x.s x.i x.hs x.hi).l) ++ [UInt8.ofNat ((best y.l x.i).1 + 124), UInt8.ofNat (((best y.l x.i).2 - 1) / 256), UInt8.ofNat (((best y.l x.i).2 - 1) % 256)]) q))], .opt 9 [(2, .ld (.int .i64 ((x.i + (best y.l x.i).1 : Nat) : Int)))]]] [.reg [(4, .thg 0 (PV (x.o ++ lits (y.sub x.s y.n (Nat.le_trans x.hs x.hi) (Nat.le_refl _)).l)) (pv0 _) (fun p => bV (x.o ++ lits (y.sub x.s y.n (Nat.le_trans x.hs x.hi) (Nat.le_refl _)).l) p) (fun _ => []) (fun p => bT (x.o ++ lits (y.sub x.s y.n (Nat.le_trans x.hs x.hi) (Nat.le_refl _)).l) p))]]])]) (.app ((.refl _)) (.app (hy) (.nil _))) (⟨⟨co0 y, ⟨rfl, ⟨⟨rfl, fun _ h => h⟩, ⟨rfl, nofun⟩, ⟨rfl, nofun⟩, ⟨rfl, nofun⟩, trivial⟩, trivial⟩, ⟨fun _ g => g, trivial⟩⟩, fun x => ⟨fun g => ⟨t_best y x.i x.hi hn _ (by intro q h; simp [h]), fun _ => ⟨fun h => ⟨x.lit (lt_t g) (lt_t (n := 4) h), (by show y.n - (x.i + 1) < y.n - x.i; have := lt_t g; omega), ⟨rfl, ⟨⟨rfl, fun _ h => h⟩, ⟨rfl, nofun⟩, ⟨rfl, nofun⟩, ⟨congrArg _ (add1 (by have := x.hi; omega)), nofun⟩, trivial⟩, trivial⟩, ⟨fun _ g => g, trivial⟩⟩, fun h => ⟨cutC y x.hs x.hi, ⟨callT_op (t_lits x.w (y.sub x.s x.i x.hs x.hi) _ (by intro q h; have h : q ∈ y.L := h; simp [h]) (x.ol2 hn _ _ _ _)) rfl rfl, fun w1 => ⟨ld_add (add_n9 (b := 124) (by have := best_1 y.l x.i; omega)) _, ⟨ld_conv8 ((best y.l x.i).1 + 124) _, ⟨ld_sub (sub_n9 (b := 1) (best_d (lt_f (n := 4) h)).1 (by have := (best_d (lt_f (n := 4) h)).2; omega)) _, ⟨⟨by decide, rfl⟩, ⟨ld_cv8 _ (wrap8' (((best y.l x.i).2 - 1) / 256) (quo256 (by have := (best_d (lt_f (n := 4) h)).2; omega))) _, ⟨ld_sub (sub_n9 (b := 1) (best_d (lt_f (n := 4) h)).1 (by have := (best_d (lt_f (n := 4) h)).2; omega)) _, ⟨⟨by decide, rfl⟩, ⟨ld_cv8 _ (wrap8' (((best y.l x.i).2 - 1) % 256) rfl) _, ⟨build_3 _ _ _ _, fun r => ⟨app_p (Byt.row r [UInt8.ofNat ((best y.l x.i).1 + 124), UInt8.ofNat (((best y.l x.i).2 - 1) / 256), UInt8.ofNat (((best y.l x.i).2 - 1) % 256)]) (by intro zz h; have h : zz ∈ (Byt.row r [UInt8.ofNat ((best y.l x.i).1 + 124), UInt8.ofNat (((best y.l x.i).2 - 1) / 256), UInt8.ofNat (((best y.l x.i).2 - 1) % 256)]).L := h; exact List.mem_append.2 (.inr (by simpa using h))) (by have := x.ol3 hn; show ((x.o ++ lits (y.sub x.s x.i x.hs x.hi).l)).length + 3 ≤ _; omega), fun w2 => ⟨ld_add (add_n9 (by have := best_1 y.l x.i; have := x.hi; omega)) _, ⟨x.m (lt_t g) (lt_f (n := 4) h) w2, (by show y.n - (x.i + (best y.l x.i).1) < y.n - x.i; have := lt_t g; have := (lt_f (n := 4) h); omega), ⟨rfl, ⟨⟨rfl, fun _ h => h⟩, ⟨rfl, nofun⟩, ⟨rfl, nofun⟩, ⟨rfl, nofun⟩, trivial⟩, trivial⟩, ⟨fun _ g => g, trivial⟩⟩⟩⟩⟩⟩⟩⟩⟩⟩⟩⟩⟩⟩⟩⟩⟩, fun g => ⟨cutB y (c := x.s) (Nat.le_trans x.hs x.hi), ⟨callT_op (t_lits x.w (y.sub x.s y.n (Nat.le_trans x.hs x.hi) (Nat.le_refl _)) _ (by intro q h; have h : q ∈ y.L := h; simp [h]) (x.ol2 hn _ _ _ _)) rfl rfl, fun w3 => ⟨w3.cast (x.fin (lt_f g)), bV_cast _ _, nofun, bT_cast _ _, trivial⟩⟩⟩⟩⟩)
end Go.Proofs.Yteepoeljihbpjaa

